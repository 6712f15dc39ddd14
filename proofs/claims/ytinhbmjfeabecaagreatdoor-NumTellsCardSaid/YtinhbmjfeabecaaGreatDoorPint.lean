import Derived.Test.YtinhbmjfeabecaaGreatDoorLit
import Derived.Test.YtinhbmjfeabecaaGreatDoorShelfi
import Derived.Lib.AtoiErrMem
namespace Go.Proofs.YtinhbmjfeabecaaGreatDoor
open Go.RowKit

theorem fold_ge : ∀ (l : List UInt8) (a : Nat), a ≤ l.foldl (fun a c => a * 10 + (c.toNat - 48)) a := by
  intro l
  induction l with
  | nil => intro a; exact Nat.le_refl _
  | cons c r ih =>
    intro a
    have := ih (a * 10 + (c.toNat - 48))
    simp only [List.foldl_cons]
    omega
theorem parse_digs (M : Nat) (hM : M ≤ 18446744073709551615) : ∀ (l : List UInt8) (a : Nat), AllDig l → l.foldl (fun a c => a * 10 + (c.toNat - 48)) a ≤ M → Lib.parseUintM M a l = .ok (l.foldl (fun a c => a * 10 + (c.toNat - 48)) a) := by
  intro l
  induction l with
  | nil => intro a _ _; rfl
  | cons c r ih =>
    intro a hd hm
    simp only [List.foldl_cons] at hm ⊢
    have h1 := hd c (by simp)
    have h2 := fold_ge r (a * 10 + (c.toNat - 48))
    rw [Lib.parseUintM, if_pos h1, if_neg (by omega), if_neg (by omega)]
    exact ih _ (fun x hx => hd x (by simp [hx])) hm
theorem parse_u (n : Nat) (hn : n < 18446744073709551616) : Lib.parseUintB 64 (Lib.decDigits n) = .ok n := by
  have h := decDigits_all n
  unfold Lib.parseUintB
  rw [if_neg (decDigits_ne n)]
  have hv : (Lib.decDigits n).foldl (fun a c => a * 10 + (c.toNat - 48)) 0 = n := h.2
  rw [parse_digs (2 ^ 64 - 1) (by decide) _ 0 h.1 (by rw [hv]; omega), hv]
theorem parse_neg (n : Nat) (h : n ≤ 9223372036854775808) : Lib.parseIntB 64 (45 :: Lib.decDigits n) = .ok (-(n : Int)) := by
  have hu := parse_u n (by omega)
  unfold Lib.parseIntB
  simp only [show (45 : UInt8).toNat = 45 from rfl, hu, or_true, if_true, not_true_eq_false, false_and, if_false, true_and]
  rw [if_neg (by omega)]
theorem parse_pos (n : Nat) (h : n ≤ 9223372036854775807) : Lib.parseIntB 64 (Lib.decDigits n) = .ok (n : Int) := by
  have hu := parse_u n (by omega)
  have hd := decDigits_dig n
  cases e : Lib.decDigits n with
  | nil => exact absurd e (decDigits_ne n)
  | cons c r =>
    rw [e] at hu hd
    have hc := hd c (by simp)
    unfold Lib.parseIntB
    have e1 : ¬ c.toNat = 43 := by omega
    have e2 : ¬ c.toNat = 45 := by omega
    simp only [e2, e1, or_self, if_false, not_false_eq_true, true_and, false_and]
    rw [hu]
    exact if_neg (by omega)
theorem parse_i (x : Int) (h0 : -9223372036854775808 ≤ x) (h1 : x ≤ 9223372036854775807) : Lib.parseIntB 64 (S x).data.toList = .ok x := by
  rw [S_toList]
  rcases Int.lt_or_le x 0 with h | h
  · rw [itoa_neg h, parse_neg _ (by omega)]
    exact congrArg _ (by omega)
  · rw [itoa_pos h, parse_pos _ (by omega)]
    exact congrArg _ (by omega)
theorem lim_i64 {x : Int} (h0 : -9223372036854775808 ≤ x) (h1 : x ≤ 9223372036854775807) : x.natAbs < lim := by
  have hL := lim_big
  omega
def IntIs (a : ByteArray) (n : Int) (v : Bool) : Prop := ∀ w, Calls Tryz.prog 6 #[.string a] w fun e w' => e = .returned (.tuple #[.int .i64 n, .bool v]) ∧ Below w.heap.size w w'
theorem parse_call (x : Int) (h0 : -9223372036854775808 ≤ x) (h1 : x ≤ 9223372036854775807) (w : World) :
    Calls Tryz.prog 21 #[.string (S x), .int .i64 10, .int .i64 64] w fun e w' => e = .returned (.tuple #[.int .i64 x, .nilIface]) ∧ Below w.heap.size w w' := by
  refine (Tryz.strconv_ParseInt_10_at64_ok (S x) (Nat.le_trans (S_size (lim_i64 h0 h1)) (by decide)) x (parse_i x h0 h1) w).mono ?_
  rintro e w' ⟨rfl, h⟩
  refine ⟨rfl, ?_⟩
  rcases h with rfl | ⟨t, rfl⟩
  · exact Below.refl _ _
  · exact Lib.bytesWorld_below _ _ _
set_option maxRecDepth 10000 in
theorem Int_ok (x : Int) (h0 : -9223372036854775808 ≤ x) (h1 : x ≤ 9223372036854775807) : IntIs (S x) x true := by
  intro w
  have hM : MayIs (S x) true := fun w => may_yes (lim_i64 h0 h1) w
  have hP := parse_call x h0 h1
  have KM := Lib.hid hM
  have KP := Lib.hid hP
  generalize S x = s at KM KP ⊢
  clear hM hP
  go_enter Tryz.func6, Tryz.ntmps6
  go_wp2_with fail
  refine (KM.out _).mono ?_
  rintro e w1 ⟨rfl, rfl⟩
  go_wp2_with fail
  refine (KP.out _).mono ?_
  rintro e w2 ⟨rfl, hb⟩
  go_wp2_with fail
  go_ret2
  exact ⟨rfl, hb⟩
def OfIs (x : Int) (s : ByteArray) : Prop := ∀ w, Tab w → Calls Tryz.prog 14 #[.int .i64 x] w fun e w' => e = .returned (.string s) ∧ Below w.heap.size w w'
def NegIs (a d : ByteArray) : Prop := ∀ w, Tab w → Calls Tryz.prog 12 #[.string a] w fun e w' => e = .returned (.string d) ∧ Below w.heap.size w w'
end Go.Proofs.YtinhbmjfeabecaaGreatDoor

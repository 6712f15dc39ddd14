import Derived.Test.YtinhbmjfeabecaaGreatDoorWh
namespace Go.Proofs.YtinhbmjfeabecaaGreatDoor
open Go.RowKit

theorem parse_over (M : Nat) : ∀ (l : List UInt8) (a : Nat), AllDig l → a ≤ M → M < l.foldl (fun a c => a * 10 + (c.toNat - 48)) a → Lib.parseUintM M a l = .range := by
  intro l
  induction l with
  | nil => intro a _ h0 h1; exact absurd h1 (by simp only [List.foldl_nil]; omega)
  | cons c r ih =>
    intro a hd h0 h1
    simp only [List.foldl_cons] at h1
    have hc := hd c (by simp)
    rw [Lib.parseUintM, if_pos hc]
    by_cases c1 : 1844674407370955162 ≤ a
    · rw [if_pos c1]
    · rw [if_neg c1]
      by_cases c2 : M < a * 10 + (c.toNat - 48)
      · rw [if_pos c2]
      · rw [if_neg c2]
        exact ih _ (fun x hx => hd x (by simp [hx])) (by omega) h1
theorem parse_u_over (n : Nat) (hn : 18446744073709551616 ≤ n) : Lib.parseUintB 64 (Lib.decDigits n) = .range := by
  have h := decDigits_all n
  unfold Lib.parseUintB
  rw [if_neg (decDigits_ne n)]
  have hv : (Lib.decDigits n).foldl (fun a c => a * 10 + (c.toNat - 48)) 0 = n := h.2
  exact parse_over _ _ 0 h.1 (Nat.zero_le _) (by rw [hv]; omega)
theorem parse_neg_over (n : Nat) (h : 9223372036854775808 < n) : Lib.parseIntB 64 (45 :: Lib.decDigits n) = .range := by
  unfold Lib.parseIntB
  by_cases h2 : n < 18446744073709551616
  · have hu := parse_u n h2
    simp only [show (45 : UInt8).toNat = 45 from rfl, hu, or_true, if_true, not_true_eq_false, false_and, if_false, true_and]
    rw [if_pos (by omega)]
  · have hu := parse_u_over n (by omega)
    simp only [show (45 : UInt8).toNat = 45 from rfl, hu, or_true, if_true]
theorem parse_pos_over (n : Nat) (h : 9223372036854775808 ≤ n) : Lib.parseIntB 64 (Lib.decDigits n) = .range := by
  have hd := decDigits_dig n
  by_cases h2 : n < 18446744073709551616
  · have hu := parse_u n h2
    cases e : Lib.decDigits n with
    | nil => exact absurd e (decDigits_ne n)
    | cons c r =>
      rw [e] at hu hd
      have hc := hd c (by simp)
      unfold Lib.parseIntB
      have e1 : ¬ c.toNat = 43 := by omega
      have e2 : ¬ c.toNat = 45 := by omega
      simp only [e2, e1, or_self, if_false, not_false_eq_true, true_and, false_and]
      rw [hu]
      exact if_pos (by omega)
  · have hu := parse_u_over n (by omega)
    cases e : Lib.decDigits n with
    | nil => exact absurd e (decDigits_ne n)
    | cons c r =>
      rw [e] at hu hd
      have hc := hd c (by simp)
      unfold Lib.parseIntB
      have e1 : ¬ c.toNat = 43 := by omega
      have e2 : ¬ c.toNat = 45 := by omega
      simp only [e2, e1, or_self, if_false, not_false_eq_true, true_and, false_and]
      rw [hu]
theorem parse_i_over (x : Int) (h : ¬ I64 x) : Lib.parseIntB 64 (S x).data.toList = .range := by
  unfold I64 at h
  rw [S_toList]
  rcases Int.lt_or_le x 0 with h0 | h0
  · rw [itoa_neg h0, parse_neg_over _ (by omega)]
  · rw [itoa_pos h0, parse_pos_over _ (by omega)]
/-- The variable of ParseInt's error holds an error, or none. -/
def ErrT (W : World) : Prop := ∃ ev, W.cell? ⟨1, 0, none⟩ = some ev ∧ (ev = .nilIface ∨ ∃ te pe, ev = .iface te pe)
theorem ErrT.below {w w' : World} (h : ErrT w) (hb : Below w.heap.size w w') : ErrT w' := by
  obtain ⟨ev, h, h2⟩ := h
  have hl : 1 < w.heap.size := by
    rcases Nat.lt_or_ge 1 w.heap.size with h' | h'
    · exact h'
    · simp [World.cell?, Array.getElem?_eq_none h'] at h
  exact ⟨ev, (hb.cell (show (⟨1, 0, none⟩ : Addr).block < w.heap.size from hl)).trans h, h2⟩
/-- What num.Int tells of a number, or of none. -/
def intO : Option Int → Int × Bool
  | some x => if I64 x then (x, true) else (0, false)
  | none => (0, false)
set_option maxRecDepth 10000 in
theorem Int_over (x : Int) (h : ¬ I64 x) (hl : x.natAbs < lim) (W : World) (he : ErrT W) : IntW (S x) 0 false W := by
  obtain ⟨ev, hv, hev⟩ := he
  have hM : MayIs (S x) true := fun w => may_yes hl w
  have hP := Tryz.strconv_ParseInt_10_at64_range (S x) (Nat.le_trans (S_size hl) (by decide)) (parse_i_over x h) ev W hv hev
  have KM := Lib.hid hM
  have KP := Lib.hid hP
  generalize Lib.intSat 64 (S x).data.toList = sat at KP
  generalize S x = s at KM KP ⊢
  clear hM hP hv hev hl h
  unfold IntW
  go_enter Tryz.func6, Tryz.ntmps6
  go_wp2_with fail
  refine (KM.out _).mono ?_
  rintro e w1 ⟨rfl, rfl⟩
  go_wp2_with fail
  refine (KP.out).mono ?_
  rintro e w2 ⟨N, rfl, _, _, hb⟩
  go_wp2_with fail
  go_ret2
  exact ⟨rfl, hb⟩
set_option maxRecDepth 10000 in
theorem Int_no (s : ByteArray) (hm : mayL s.data.toList = false) (hs : s.size ≤ maxLen) (W : World) : IntW s 0 false W := by
  have hM : MayIs s false := fun w => hm ▸ may_any s w hs
  have KM := Lib.hid hM
  clear hM hm
  unfold IntW
  go_enter Tryz.func6, Tryz.ntmps6
  go_wp2_with fail
  refine (KM.out _).mono ?_
  rintro e w1 ⟨rfl, rfl⟩
  go_wp2_with fail
  go_ret2
  exact ⟨rfl, Below.refl _ _⟩
theorem Int_opt {s : ByteArray} {o : Option Int} (h : Is s o) (W : World) (he : ErrT W) : IntW s (intO o).1 (intO o).2 W := by
  cases o with
  | none => exact Int_no s h.1 h.2 W
  | some x =>
    unfold intO
    dsimp only
    by_cases hi : I64 x
    · rw [if_pos hi, h.1]; exact Int_ok x hi.1 hi.2 W
    · rw [if_neg hi, h.1]; exact Int_over x hi h.2 W he
/-- What width.Of tells of a number, or of none. -/
def leastO (o : Option Int) : Int := if (intO o).2 then leastW (intO o).1 else 128
theorem intO_yes {o : Option Int} (h : (intO o).2 = true) : ∃ x, o = some x ∧ I64 x ∧ (intO o).1 = x := by
  cases o with
  | none => cases h
  | some x =>
    by_cases hi : I64 x
    · exact ⟨x, rfl, hi, by unfold intO; dsimp only; rw [if_pos hi]⟩
    · unfold intO at h; dsimp only at h; rw [if_neg hi] at h; cases h
theorem S_200 : S 200 = ⟨#[50, 48, 48]⟩ := S_lit (l := [50, 48, 48]) (n := 200) rfl (by unfold AllDig; decide) ⟨_, _, rfl, by decide⟩
end Go.Proofs.YtinhbmjfeabecaaGreatDoor

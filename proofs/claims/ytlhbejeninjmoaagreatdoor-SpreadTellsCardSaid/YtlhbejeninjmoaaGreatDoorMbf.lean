import Derived.Test.YtlhbejeninjmoaaGreatDoorMbd
import Derived.Test.YtlhbejeninjmoaaGreatDoorMam
import Derived.Deep.RegionWith
import Derived.Deep.RegionHeld3
import Derived.Test.YtlhbejeninjmoaaGreatDoorMan
import Derived.Test.YtlhbejeninjmoaaGreatDoorMbe
/-
  The reference's Sign, Neg, Cmp, Of; joined by shake.py, minus.py out of Rf5 and Rf6.
-/
namespace Go.Proofs.YtlhbejeninjmoaaGreatDoor
set_option linter.unusedVariables false
set_option linter.unusedSimpArgs false
section
open Go.RowKit
def I64 (x : Int) : Prop := -9223372036854775808 ≤ x ∧ x ≤ 9223372036854775807
instance (x : Int) : Decidable (I64 x) := by unfold I64; infer_instance
end
section
open Go.RowKit
theorem S_zero_list (x : Int) : ((S x).toList == [48]) = decide (x = 0) := by
  rw [str_tl, S_toList, Bool.eq_iff_iff, beq_iff_eq, decide_eq_true_eq]
  have e : Lib.itoa 0 = [48] := by rw [itoa_pos (by omega)]; exact decDigits_small (n := 0) (by decide)
  rw [← e]
  exact ⟨fun h => itoa_inj h, fun h => by rw [h]⟩
theorem rMay_S {x : Int} (h : x.natAbs < lim) : RMayIs (S x) true := by
  have h1 := rMay_any (S x) (Nat.le_trans (S_size h) (by decide))
  rwa [S_toList, (mayL_itoa x).2 h] at h1
def RSignIs (s : ByteArray) (z : Int) : Prop := ∀ w, Calls Tryz.prog 61 #[.string s] w fun e w' => e = .returned (.int .i64 z) ∧ w = w'
set_option maxRecDepth 10000 in
theorem rsign_S {x : Int} (h : x.natAbs < lim) : RSignIs (S x) x.sign := by
  intro w
  have KM := Lib.hid (rMay_S h)
  have hz := S_zero_list x
  have hl := rlow_S x
  rcases Int.lt_trichotomy x 0 with h0 | rfl | h0
  · rw [Int.sign_eq_neg_one_of_neg h0]
    rw [decide_eq_false (by omega)] at hz
    rw [decide_eq_true h0] at hl
    have KL := Lib.hid hl
    generalize S x = s at *
    clear hl
    go_enter Tryz.func61, Tryz.ntmps61
    go_wp2_with fail
    refine (KM.out _).mono ?_
    rintro e w1 ⟨rfl, rfl⟩
    go_wp2_with fail
    refine (KL.out _).mono ?_
    rintro e w1 ⟨rfl, rfl⟩
    go_wp2_with fail
    go_ret
    exact ⟨rfl, rfl⟩
  · rw [decide_eq_true rfl] at hz
    rw [Int.sign_zero]
    generalize S 0 = s at *
    clear hl
    go_enter Tryz.func61, Tryz.ntmps61
    go_wp2_with fail
    refine (KM.out _).mono ?_
    rintro e w1 ⟨rfl, rfl⟩
    go_wp2_with fail
    go_ret
    exact ⟨rfl, rfl⟩
  · rw [Int.sign_eq_one_of_pos h0]
    rw [decide_eq_false (by omega)] at hz
    rw [decide_eq_false (by omega)] at hl
    have KL := Lib.hid hl
    generalize S x = s at *
    clear hl
    go_enter Tryz.func61, Tryz.ntmps61
    go_wp2_with fail
    refine (KM.out _).mono ?_
    rintro e w1 ⟨rfl, rfl⟩
    go_wp2_with fail
    refine (KL.out _).mono ?_
    rintro e w1 ⟨rfl, rfl⟩
    go_wp2_with fail
    go_ret
    exact ⟨rfl, rfl⟩
set_option maxRecDepth 10000 in
theorem rsign_no {s : ByteArray} (h : RMayIs s false) : RSignIs s 0 := by
  intro w
  have KM := Lib.hid h
  clear h
  go_enter Tryz.func61, Tryz.ntmps61
  go_wp2_with fail
  refine (KM.out _).mono ?_
  rintro e w1 ⟨rfl, rfl⟩
  go_wp2_with fail
  go_ret
  exact ⟨rfl, rfl⟩
theorem rSign_opt {s : ByteArray} {o : Option Int} (h : Is s o) : RSignIs s (sgnO o) := by
  cases o with
  | none => exact rsign_no (rMay_is h)
  | some x => rw [h.1]; exact rsign_S h.2
theorem figs_lim {x : Int} (h : x.natAbs < lim) : Figs 100 x := (digs_lim _).2 h
theorem Figs.up {x : Int} {k m : Nat} (h : Figs k x) (hk : k ≤ m) : Figs m x := Nat.le_trans h hk
set_option maxRecDepth 10000 in
theorem rNeg_opt {s : ByteArray} {o : Option Int} (w : World) (h : Is s o) : Calls Tryz.prog 59 #[.string s] w fun e w' => e = .returned (.string (T (negO o))) ∧ w = w' := by
  have KM := Lib.hid (rMay_is h)
  cases o with
  | none =>
    clear h
    go_enter Tryz.func59, Tryz.ntmps59
    go_wp2_with fail
    refine (KM.out _).mono ?_
    rintro e w1 ⟨rfl, rfl⟩
    go_wp2_with fail
    go_ret
    exact ⟨rfl, rfl⟩
  | some x =>
    have ht := fun w => rturned_any x ((figs_lim h.2).up (by decide)) w
    unfold SignedPost at ht
    have e0 := Lib.hid (show T (negO (some x)) = S (-x) from rfl)
    rw [← h.1] at ht
    have KT := Lib.hid ht
    generalize S (-x) = r at KT e0
    clear ht h
    go_enter Tryz.func59, Tryz.ntmps59
    go_wp2_with fail
    refine (KM.out _).mono ?_
    rintro e w1 ⟨rfl, rfl⟩
    go_wp2_with fail
    refine (KT.out _).mono ?_
    rintro e w1 ⟨rfl, rfl⟩
    go_wp2_with fail
    go_ret
    exact ⟨by rw [e0.out]; rfl, rfl⟩
def bnd (z : Int) : Int := if z.natAbs < lim then z else z.sign
theorem bnd_lim (z : Int) : (bnd z).natAbs < lim := by
  have hL := lim_big
  unfold bnd
  split
  · assumption
  · rcases Int.lt_trichotomy z 0 with h | rfl | h
    · rw [Int.sign_eq_neg_one_of_neg h]; omega
    · rw [Int.sign_zero]; omega
    · rw [Int.sign_eq_one_of_pos h]; omega
theorem bnd_sign (z : Int) : (bnd z).sign = z.sign := by
  unfold bnd
  split
  · rfl
  · rw [Int.sign_sign]
theorem B_one : B (Lib.decDigits 1) = ⟨#[49]⟩ := by rw [decDigits_small (n := 1) (by decide)]; rfl
set_option maxRecDepth 10000 in
theorem rbounded_any (z : Int) (hz : Figs 4000 z) (w : World) : Calls Tryz.prog 77 #[.string (S z)] w fun e w' => e = .returned (.string (S (bnd z))) ∧ w = w' := by
  have KS := Lib.hid (rsize_S z hz)
  have KL := Lib.hid (rlow_S z)
  have hs := B_size (Lib.decDigits z.natAbs)
  by_cases h : z.natAbs < lim
  · have hlen : ¬ (100 : Int) < ((B (Lib.decDigits z.natAbs)).size : Int) := by have := (digs_lim _).2 h; omega
    have e0 := Lib.hid (show S (bnd z) = S z by unfold bnd; rw [if_pos h])
    generalize B (Lib.decDigits z.natAbs) = f at *
    generalize S z = s at *
    clear hs
    go_enter Tryz.func77, Tryz.ntmps77
    go_wp2_with fail
    refine (KS.out _).mono ?_
    rintro e w1 ⟨rfl, rfl⟩
    go_wp2_with fail
    go_ret
    exact ⟨by rw [e0.out]; rfl, rfl⟩
  · have hlen : (100 : Int) < ((B (Lib.decDigits z.natAbs)).size : Int) := by
      have : ¬ (Lib.decDigits z.natAbs).length ≤ 100 := fun h2 => h ((digs_lim _).1 h2)
      omega
    have h1 : (Lib.decDigits 1).length ≤ 4000 := by rw [decDigits_small (n := 1) (by decide)]; decide
    have hg := rsigned_D 1 h1 (decide (z < 0))
    have e1 : sgn (decide (z < 0)) 1 = bnd z := by
      unfold bnd sgn
      rw [if_neg h]
      rcases Int.lt_trichotomy z 0 with h0 | rfl | h0
      · rw [Int.sign_eq_neg_one_of_neg h0, if_pos (decide_eq_true h0)]; rfl
      · exact absurd (by have := lim_big; show (0 : Int).natAbs < lim; omega) h
      · rw [Int.sign_eq_one_of_pos h0, if_neg (by rw [decide_eq_true_iff]; omega)]; rfl
    rw [e1, B_one] at hg
    unfold SignedPost at hg
    have KG := Lib.hid hg
    generalize B (Lib.decDigits z.natAbs) = f at *
    generalize S z = s at *
    generalize decide (z < 0) = b at *
    generalize S (bnd z) = r at *
    clear hs hg h
    go_enter Tryz.func77, Tryz.ntmps77
    go_wp2_with fail
    refine (KS.out _).mono ?_
    rintro e w1 ⟨rfl, rfl⟩
    go_wp2_with fail
    refine (KL.out _).mono ?_
    rintro e w1 ⟨rfl, rfl⟩
    go_wp2_with fail
    refine (KG.out _).mono ?_
    rintro e w1 ⟨rfl, rfl⟩
    go_wp2_with fail
    go_ret
    exact ⟨rfl, rfl⟩
def RCmpIs (s t : ByteArray) (z : Int) : Prop := ∀ w, Calls Tryz.prog 50 #[.string s, .string t] w (IntEnd z w)
set_option maxRecDepth 10000 in
theorem rcmp_S {x y : Int} (hx : x.natAbs < lim) (hy : y.natAbs < lim) : RCmpIs (S x) (S y) (x - y).sign := by
  intro w
  have KM := Lib.hid (rMay_S hx)
  have KM2 := Lib.hid (rMay_S hy)
  have ht := rturned_any y ((figs_lim hy).up (by decide))
  unfold SignedPost at ht
  have KT := Lib.hid ht
  clear ht
  have fs : Figs 4000 (x + -y) := by
    have h3 := dec_add_len (k := 100) (by decide) (figs_lim hx) (figs_lim hy)
    have h4 := dec_le_len (show (x + -y).natAbs ≤ x.natAbs + y.natAbs by omega) (by decide) h3
    exact Nat.le_trans h4 (by decide)
  have hu := rsum_any x (-y) ((figs_lim hx).up (by decide)) (by unfold Figs; rw [Int.natAbs_neg]; exact (figs_lim hy).up (by decide))
  unfold StrEnd at hu
  have KU := Lib.hid hu
  clear hu
  have KB := Lib.hid (rbounded_any (x + -y) fs)
  have hs := rsign_S (bnd_lim (x + -y))
  rw [bnd_sign, show x + -y = x - y by omega] at hs
  rw [show x + -y = x - y by omega] at KB KU
  have KS := Lib.hid hs
  generalize S x = s at *
  generalize S y = t at *
  generalize S (-y) = t' at *
  generalize S (x - y) = u at *
  generalize S (bnd (x - y)) = v at *
  clear hs hx hy fs
  go_enter Tryz.func50, Tryz.ntmps50
  go_wp2_with fail
  refine (KM.out _).mono ?_
  rintro e w1 ⟨rfl, rfl⟩
  go_wp2_with fail
  refine (KM2.out _).mono ?_
  rintro e w1 ⟨rfl, rfl⟩
  go_wp2_with fail
  refine (KT.out _).mono ?_
  rintro e w1 ⟨rfl, rfl⟩
  go_wp2_with fail
  refine (KU.out _).mono ?_
  rintro e w1 ⟨rfl, hb⟩
  go_wp2_with fail
  refine (KB.out _).mono ?_
  rintro e w2 ⟨rfl, rfl⟩
  go_wp2_with fail
  refine (KS.out _).mono ?_
  rintro e w2 ⟨rfl, rfl⟩
  go_wp2_with fail
  go_ret
  exact ⟨rfl, hb⟩
set_option maxRecDepth 10000 in
theorem rcmp_no {s t : ByteArray} {a b : Bool} (h : (a && b) = false) (HM : RMayIs s a) (HM2 : RMayIs t b) : RCmpIs s t 0 := by
  intro w
  have KM := Lib.hid HM
  have KM2 := Lib.hid HM2
  clear HM HM2
  cases a
  · go_enter Tryz.func50, Tryz.ntmps50
    go_wp2_with fail
    refine (KM.out _).mono ?_
    rintro e w1 ⟨rfl, rfl⟩
    go_wp2_with fail
    go_ret
    exact ⟨rfl, Below.refl _ _⟩
  · cases b
    · clear h
      go_enter Tryz.func50, Tryz.ntmps50
      go_wp2_with fail
      refine (KM.out _).mono ?_
      rintro e w1 ⟨rfl, rfl⟩
      go_wp2_with fail
      refine (KM2.out _).mono ?_
      rintro e w1 ⟨rfl, rfl⟩
      go_wp2_with fail
      go_ret
      exact ⟨rfl, Below.refl _ _⟩
    · cases h
theorem cmpI_sign (x y : Int) : cmpI x y = (x - y).sign := by
  unfold cmpI
  rcases Int.lt_trichotomy x y with h | rfl | h
  · rw [if_pos h, Int.sign_eq_neg_one_of_neg (by omega)]
  · rw [if_neg (by omega), if_neg (by omega), Int.sub_self, Int.sign_zero]
  · rw [if_neg (by omega), if_pos h, Int.sign_eq_one_of_pos (by omega)]
theorem rCmp_opt {s t : ByteArray} {o p : Option Int} (hs : Is s o) (ht : Is t p) : RCmpIs s t (cmpO o p) := by
  cases hn : (o.isSome && p.isSome)
  · have := rcmp_no hn (rMay_is hs) (rMay_is ht)
    cases o <;> cases p <;> first | exact this | exact absurd hn (by simp)
  · cases o <;> cases p <;> simp at hn
    rw [hs.1, ht.1]
    unfold cmpO
    dsimp only
    rw [cmpI_sign]
    exact rcmp_S hs.2 ht.2
end
section
open Go.RowKit
theorem S_neg1 {x : Int} (h : x < 0) (h2 : -10 < x) : S x = ⟨#[45]⟩ ++ B [digB x.natAbs] := by
  apply ba_ext
  rw [S_toList, itoa_neg h, decDigits_small (by omega), ByteArray.data_append, Array.toList_append, B_list]
  rfl
theorem S_pos1 {x : Int} (h : 0 ≤ x) (h2 : x < 10) : S x = B [digB x.natAbs] := by
  apply ba_ext
  rw [S_toList, itoa_pos h, decDigits_small (by omega), B_list]
  rfl
theorem tdiv_low {x : Int} (h : x ≤ 0) : x.tdiv 10 = -((x.natAbs / 10 : Nat) : Int) ∧ x.tmod 10 = -((x.natAbs % 10 : Nat) : Int) := by
  obtain ⟨n, rfl⟩ : ∃ n : Nat, x = -(n : Int) := ⟨x.natAbs, by omega⟩
  rw [Int.neg_tdiv, Int.neg_tmod, Int.natAbs_neg, Int.natAbs_natCast]
  exact ⟨rfl, rfl⟩
theorem tdiv_high {x : Int} (h : 0 ≤ x) : x.tdiv 10 = ((x.natAbs / 10 : Nat) : Int) ∧ x.tmod 10 = ((x.natAbs % 10 : Nat) : Int) := by
  obtain ⟨n, rfl⟩ : ∃ n : Nat, x = (n : Int) := ⟨x.natAbs, by omega⟩
  exact ⟨rfl, rfl⟩
theorem S_neg10 {x : Int} (h : x ≤ -10) : S x = S (x.tdiv 10) ++ B [digB (x.natAbs % 10)] := by
  have e1 : (x.tdiv 10).natAbs = x.natAbs / 10 := by rw [Int.natAbs_tdiv]; rfl
  have h1 : x.tdiv 10 < 0 := by
    have := (tdiv_low (x := x) (by omega)).1
    omega
  apply ba_ext
  rw [S_toList, itoa_neg (by omega), decDigits_big (by omega), ByteArray.data_append, Array.toList_append, B_list, S_toList, itoa_neg h1, e1]
  rfl
theorem S_pos10 {x : Int} (h : 10 ≤ x) : S x = S (x.tdiv 10) ++ B [digB (x.natAbs % 10)] := by
  have e1 : (x.tdiv 10).natAbs = x.natAbs / 10 := by rw [Int.natAbs_tdiv]; rfl
  have h1 : 0 ≤ x.tdiv 10 := Int.tdiv_nonneg (by omega) (by decide)
  apply ba_ext
  rw [S_toList, itoa_pos (by omega), decDigits_big (by omega), ByteArray.data_append, Array.toList_append, B_list, S_toList, itoa_pos h1, e1]
  rfl
def ROfIs (x : Int) (s : ByteArray) : Prop := ∀ w, Calls Tryz.prog 60 #[.int .i64 x] w (StrEnd s w)
theorem conv_at (W : World) (b : Nat) (d : UInt8) (z : Int) (hz : z = d.toNat) (hc : W.cell? ⟨b, 0, none⟩ = some (.int .u8 z)) :
    (convert 91 9 (.slice (some ⟨b, 0, none⟩) 1 1)).run Tryz.prog W = .ok (.string (B [d])) W := by
  subst hz
  exact run_convert_bytes_back (P := Tryz.prog) W 91 9 5 ⟨b, 0, none⟩ 1 [d] Tryz.underlying91 Tryz.underlying5 Tryz.underlying9 (fun j hj => by
    have : j = 0 := by simpa using hj
    subst this
    rw [Lib.add_plain, hc]
    rfl)
theorem below_new {w w9 : World} {v : Value} {t : TypeId} (hb : Below (w.alloc (.cells #[v] t)).heap.size (w.alloc (.cells #[v] t)) w9) : w9.cell? ⟨w.heap.size, 0, none⟩ = some v := by
  have h : (w.alloc (.cells #[v] t)).heap[w.heap.size]? = some (.cells #[v] t (0, 0)) := by
    show (w.heap.push _)[w.heap.size]? = _
    simp
  have e := hb.block w.heap.size (by show _ < (w.heap.push _).size; simp)
  rw [h] at e
  rw [cell_of_row w9 _ 0 #[v] t (0, 0) e]
  rfl
set_option maxRecDepth 10000 in
theorem rof_small_neg {x : Int} (h : x < 0) (h2 : -10 < x) : ROfIs x (S x) := by
  intro w
  have e := S_neg1 h h2
  have hz : (48 - x : Int) = ((digB x.natAbs).toNat : Int) := by rw [digB_nat (by omega)]; omega
  have hcv := conv_one w (digB x.natAbs) _ hz
  have hd1 : (B [digB x.natAbs]).size = 1 := B_size _
  have E := Lib.hid e
  clear e hz
  generalize digB x.natAbs = d at *
  generalize S x = s at *
  go_enter Tryz.func60, Tryz.ntmps60
  go_wp2_with fail
  go_ret
  exact ⟨by rw [E.out]; rfl, (Below.refl _ _).alloc (Nat.le_refl _) _⟩
set_option maxRecDepth 10000 in
theorem rof_small_pos {x : Int} (h : 0 ≤ x) (h2 : x < 10) : ROfIs x (S x) := by
  intro w
  have e := S_pos1 h h2
  have h0 : ¬ x < 0 := by omega
  have hz : (48 + x : Int) = ((digB x.natAbs).toNat : Int) := by rw [digB_nat (by omega)]; omega
  have hcv := conv_one w (digB x.natAbs) _ hz
  have hd1 : (B [digB x.natAbs]).size = 1 := B_size _
  have E := Lib.hid e
  clear e hz
  generalize digB x.natAbs = d at *
  generalize S x = s at *
  go_enter Tryz.func60, Tryz.ntmps60
  go_wp2_with fail
  go_ret
  exact ⟨by rw [E.out]; rfl, (Below.refl _ _).alloc (Nat.le_refl _) _⟩
set_option maxRecDepth 10000 in
set_option maxHeartbeats 1600000 in
theorem rof_big_neg {x : Int} (h : x ≤ -10) (h0 : -9223372036854775808 ≤ x) (HI : ROfIs (x.tdiv 10) (S (x.tdiv 10))) (hsz : (S (x.tdiv 10)).size ≤ 1000) : ROfIs x (S x) := by
  intro w
  have e := S_neg10 h
  have h1 : x < 0 := by omega
  have h2 : ¬ -10 < x := by omega
  obtain ⟨q1, m1⟩ := tdiv_low (x := x) (by omega)
  obtain ⟨q, hq⟩ : ∃ q, x.tdiv 10 = q := ⟨_, rfl⟩
  obtain ⟨m, hm⟩ : ∃ m, x.tmod 10 = m := ⟨_, rfl⟩
  rw [hq] at e HI hsz q1
  rw [hm] at m1
  have hz : (48 - m : Int) = ((digB (x.natAbs % 10)).toNat : Int) := by rw [digB_nat (by omega)]; omega
  have hm3 : -10 < m := by omega
  have hm4 : m ≤ 0 := by omega
  have hq3 : -9223372036854775808 ≤ q := by omega
  have hq4 : q ≤ 9223372036854775807 := by omega
  have hd1 : (B [digB (x.natAbs % 10)]).size = 1 := B_size _
  have hc0 : (convert 91 9 (.slice (some ⟨w.heap.size, 0, none⟩) 1 1)).run Tryz.prog (w.alloc (.cells #[.int .u8 (48 - m)] 5)) = .ok (.string (B [digB (x.natAbs % 10)])) (w.alloc (.cells #[.int .u8 (48 - m)] 5)) := conv_one w _ _ hz
  have hc1 : (convert 91 9 (.slice (some ⟨w.heap.size, 0, none⟩) 1 1)).run Tryz.prog (w.alloc (.cells #[.int .u8 (48 - m)] 5)).drew = .ok (.string (B [digB (x.natAbs % 10)])) (w.alloc (.cells #[.int .u8 (48 - m)] 5)).drew := conv_one w.drew _ _ hz
  have HZ := Lib.hid hz
  have hwq : IntKind.i64.wrap q = q := IntWalk.i64_in _ (by omega)
  have hwm : IntKind.i64.wrap m = m := IntWalk.i64_in _ (by omega)
  have hw48 : IntKind.i64.wrap (48 - m) = 48 - m := IntWalk.i64_in _ (by omega)
  have hw8 : IntKind.u8.wrap (48 - m) = 48 - m := IntWalk.u8_in _ (by omega)
  have E := Lib.hid e
  have KI := Lib.hid HI
  clear e hz HI q1 m1
  generalize digB (x.natAbs % 10) = d at *
  generalize S q = s' at *
  generalize S x = s at *
  go_enter Tryz.func60, Tryz.ntmps60
  go_wp2_with fail
  go_region_with (go_at_call 60; refine (KI.out _).mono ?_; rintro e w9 ⟨rfl, hb9⟩; have hc2 := conv_one w9 _ _ HZ.out; (try have hc3 := conv_at w9 w.heap.size _ _ HZ.out (by first | exact below_new (w := w) hb9 | exact below_new (w := w.drew) hb9)))
  all_goals
    go_wp2_with fail
    go_ret
    refine ⟨by rw [E.out]; rfl, ?_⟩
    first
      | exact ((Below.refl w.heap.size w).drew.trans (show Below w.heap.size w.drew w9 from hb9)).alloc hb9.size _
      | exact (((Below.refl _ w).alloc (Nat.le_refl _) _).drew).trans (hb9.mono (by show w.heap.size ≤ (w.heap.push _).size; simp))
set_option maxRecDepth 10000 in
set_option maxHeartbeats 1600000 in
theorem rof_big_pos {x : Int} (h : 10 ≤ x) (h0 : x ≤ 9223372036854775807) (HI : ROfIs (x.tdiv 10) (S (x.tdiv 10))) (hsz : (S (x.tdiv 10)).size ≤ 1000) : ROfIs x (S x) := by
  intro w
  have e := S_pos10 h
  have h1 : ¬ x < 0 := by omega
  have h2 : ¬ x < 10 := by omega
  obtain ⟨q1, m1⟩ := tdiv_high (x := x) (by omega)
  obtain ⟨q, hq⟩ : ∃ q, x.tdiv 10 = q := ⟨_, rfl⟩
  obtain ⟨m, hm⟩ : ∃ m, x.tmod 10 = m := ⟨_, rfl⟩
  rw [hq] at e HI hsz q1
  rw [hm] at m1
  have hz : (48 + m : Int) = ((digB (x.natAbs % 10)).toNat : Int) := by rw [digB_nat (by omega)]; omega
  have hm3 : m < 10 := by omega
  have hm4 : 0 ≤ m := by omega
  have hq3 : -9223372036854775808 ≤ q := by omega
  have hq4 : q ≤ 9223372036854775807 := by omega
  have hd1 : (B [digB (x.natAbs % 10)]).size = 1 := B_size _
  have hc0 : (convert 91 9 (.slice (some ⟨w.heap.size, 0, none⟩) 1 1)).run Tryz.prog (w.alloc (.cells #[.int .u8 (48 + m)] 5)) = .ok (.string (B [digB (x.natAbs % 10)])) (w.alloc (.cells #[.int .u8 (48 + m)] 5)) := conv_one w _ _ hz
  have hc1 : (convert 91 9 (.slice (some ⟨w.heap.size, 0, none⟩) 1 1)).run Tryz.prog (w.alloc (.cells #[.int .u8 (48 + m)] 5)).drew = .ok (.string (B [digB (x.natAbs % 10)])) (w.alloc (.cells #[.int .u8 (48 + m)] 5)).drew := conv_one w.drew _ _ hz
  have HZ := Lib.hid hz
  have hwq : IntKind.i64.wrap q = q := IntWalk.i64_in _ (by omega)
  have hwm : IntKind.i64.wrap m = m := IntWalk.i64_in _ (by omega)
  have hw48 : IntKind.i64.wrap (48 + m) = 48 + m := IntWalk.i64_in _ (by omega)
  have hw8 : IntKind.u8.wrap (48 + m) = 48 + m := IntWalk.u8_in _ (by omega)
  have E := Lib.hid e
  have KI := Lib.hid HI
  clear e hz HI q1 m1
  generalize digB (x.natAbs % 10) = d at *
  generalize S q = s' at *
  generalize S x = s at *
  go_enter Tryz.func60, Tryz.ntmps60
  go_wp2_with fail
  go_region_with (go_at_call 60; refine (KI.out _).mono ?_; rintro e w9 ⟨rfl, hb9⟩; have hc2 := conv_one w9 _ _ HZ.out; (try have hc3 := conv_at w9 w.heap.size _ _ HZ.out (by first | exact below_new (w := w) hb9 | exact below_new (w := w.drew) hb9)))
  all_goals
    go_wp2_with fail
    go_ret
    refine ⟨by rw [E.out]; rfl, ?_⟩
    first
      | exact ((Below.refl w.heap.size w).drew.trans (show Below w.heap.size w.drew w9 from hb9)).alloc hb9.size _
      | exact (((Below.refl _ w).alloc (Nat.le_refl _) _).drew).trans (hb9.mono (by show w.heap.size ≤ (w.heap.push _).size; simp))
theorem i64_lim0 {a : Int} (h : I64 a) : a.natAbs < lim := by
  have hL := lim_big
  unfold I64 at h
  omega
theorem S_len {x : Int} (h : I64 x) : (S x).size ≤ 1000 := Nat.le_trans (S_size (i64_lim0 h)) (by decide)
theorem rof_all : ∀ (n : Nat) (x : Int), x.natAbs ≤ n → I64 x → ROfIs x (S x) := by
  intro n
  induction n with
  | zero => intro x hx h; exact rof_small_pos (by omega) (by omega)
  | succ n ih =>
    intro x hx h
    have h0 := h
    unfold I64 at h0
    rcases Int.lt_or_le x 0 with h1 | h1
    · rcases Int.lt_or_le (-10) x with h2 | h2
      · exact rof_small_neg h1 h2
      · have e := (tdiv_low (x := x) (by omega)).1
        have hq : I64 (x.tdiv 10) := by unfold I64; omega
        exact rof_big_neg h2 h.1 (ih _ (by omega) hq) (S_len hq)
    · rcases Int.lt_or_le x 10 with h2 | h2
      · exact rof_small_pos h1 h2
      · have e := (tdiv_high (x := x) (by omega)).1
        have hq : I64 (x.tdiv 10) := by unfold I64; omega
        exact rof_big_pos h2 h.2 (ih _ (by omega) hq) (S_len hq)
theorem rOf_any {x : Int} (h : I64 x) : ROfIs x (S x) := rof_all x.natAbs x (Nat.le_refl _) h
end
end Go.Proofs.YtlhbejeninjmoaaGreatDoor
/-
  The reference's num of any two texts, as the document tells of signs.
-/
namespace Go.Proofs.YtlhbejeninjmoaaGreatDoor
set_option linter.unusedVariables false
set_option linter.unusedSimpArgs false
open Go.RowKit

theorem rAdd_dy {s t : ByteArray} {o p : Option Int} (w : World) (hs : Is s o) (ht : Is t p) : Calls Tryz.prog 51 #[.string s, .string t] w (OptPost (dyO 0 o p).1 (dyO 0 o p).2 w) := by
  rw [dyO_0]; exact rAdd_opt w hs ht
theorem rSub_dy {s t : ByteArray} {o p : Option Int} (w : World) (hs : Is s o) (ht : Is t p) : Calls Tryz.prog 52 #[.string s, .string t] w (OptPost (dyO 1 o p).1 (dyO 1 o p).2 w) := by
  rw [dyO_1]; exact rSub_opt w hs ht
theorem rMul_dy {s t : ByteArray} {o p : Option Int} (w : World) (hs : Is s o) (ht : Is t p) : Calls Tryz.prog 53 #[.string s, .string t] w (OptPost (dyO 2 o p).1 (dyO 2 o p).2 w) := by
  rw [dyO_2]; exact rMul_opt w hs ht
theorem rDiv_dy {s t : ByteArray} {x y : Int} (w : World) (hs : Is s (some x)) (ht : Is t (some y)) : Calls Tryz.prog 54 #[.string s, .string t] w (OptPost (dyO 3 (some x) (some y)).1 (dyO 3 (some x) (some y)).2 w) := by
  rw [hs.1, ht.1]
  by_cases hy : y = 0
  · subst hy
    rw [dyO_by0 (.inl rfl)]
    exact rDiv_zero _ _ (by rw [S_zero_list]; rfl) (rMay_S hs.2) (rMay_S ht.2) w
  · rw [dyO_3 hy]
    have hq : (fq x y).natAbs < lim := Nat.lt_of_le_of_lt (fq_abs x y hy) hs.2
    have h := rDiv_yes x y hy (figs_lim hs.2) (figs_lim ht.2) (by rw [S_zero_list]; exact decide_eq_false hy) (rMay_S hs.2) (rMay_S ht.2) w
    unfold OpPost at h
    rw [toldR_yes hq, toldE_yes hq] at h
    exact h
theorem rMod_dy {s t : ByteArray} {x y : Int} (w : World) (hs : Is s (some x)) (ht : Is t (some y)) : Calls Tryz.prog 55 #[.string s, .string t] w (OptPost (dyO 4 (some x) (some y)).1 (dyO 4 (some x) (some y)).2 w) := by
  rw [hs.1, ht.1]
  by_cases hy : y = 0
  · subst hy
    rw [dyO_by0 (.inr rfl)]
    exact rMod_zero _ _ (by rw [S_zero_list]; rfl) (rMay_S hs.2) (rMay_S ht.2) w
  · rw [dyO_4 hy]
    have hq : (fr x y).natAbs < lim := Nat.lt_of_le_of_lt (fr_abs x y hy) ht.2
    have h := rMod_yes x y hy (figs_lim hs.2) (figs_lim ht.2) (by rw [S_zero_list]; exact decide_eq_false hy) (rMay_S hs.2) (rMay_S ht.2) w
    unfold OpPost at h
    rw [toldR_yes hq, toldE_yes hq] at h
    exact h
end Go.Proofs.YtlhbejeninjmoaaGreatDoor
/-
  The statement ScalarMod at any three texts, if scalar answers as the document says.
-/
namespace Go.Proofs.YtlhbejeninjmoaaGreatDoor
set_option linter.unusedVariables false
set_option linter.unusedSimpArgs false
open Go.RowKit

end Go.Proofs.YtlhbejeninjmoaaGreatDoor
/-
  ScalarMod at any three texts; ScalarBits at any text, if scalar answers as the document says.
-/
namespace Go.Proofs.YtlhbejeninjmoaaGreatDoor
set_option linter.unusedVariables false
set_option linter.unusedSimpArgs false
open Go.RowKit

theorem is_zero {s : ByteArray} {x : Int} (h : Is s (some x)) : (s.toList == [48]) = decide (x = 0) := by
  by_cases hx : x = 0
  · subst hx
    rw [h.1, S_0, str_tl]; rfl
  · rw [decide_eq_false hx]
    refine beq_eq_false_iff_ne.2 fun e => hx ?_
    have h2 : s = ⟨#[48]⟩ := toList_inj (by rw [e, str_tl])
    exact S_inj (by rw [← h.1, h2, S_0])
end Go.Proofs.YtlhbejeninjmoaaGreatDoor

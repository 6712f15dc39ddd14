import Derived.Test.YtinhbmjfeabecaaGreatDoorRf3
import Derived.Test.YtinhbmjfeabecaaGreatDoorLit
namespace Go.Proofs.YtinhbmjfeabecaaGreatDoor
open Go.RowKit

theorem S_zero_list (x : Int) : ((S x).toList == [48]) = decide (x = 0) := by
  rw [str_tl, S_toList, Bool.eq_iff_iff, beq_iff_eq, decide_eq_true_eq]
  have e : Lib.itoa 0 = [48] := by rw [itoa_pos (by omega)]; exact decDigits_small (n := 0) (by decide)
  rw [← e]
  exact ⟨fun h => itoa_inj h, fun h => by rw [h]⟩
theorem rMay_S {x : Int} (h : x.natAbs < lim) : RMayIs (S x) true := by
  have h1 := rMay_any (S x) (Nat.le_trans (S_size h) (by decide))
  rwa [S_toList, (mayL_itoa x).2 h] at h1
def RSignIs (s : ByteArray) (z : Int) : Prop := ∀ w, Calls Tryz.prog 11 #[.string s] w fun e w' => e = .returned (.int .i64 z) ∧ w = w'
set_option maxRecDepth 10000 in
theorem rsign_S {x : Int} (h : x.natAbs < lim) : RSignIs (S x) x.sign := by
  intro w
  have KM := Lib.hid (rMay_S h)
  have hz := S_zero_list x
  have hl := rlow_S x
  rcases Int.lt_trichotomy x 0 with h0 | rfl | h0
  · rw [Int.sign_eq_neg_one_of_neg h0]
    rw [decide_eq_false (by omega)] at hz
    rw [decide_eq_true h0] at hl
    have KL := Lib.hid hl
    generalize S x = s at *
    clear hl
    go_enter Tryz.func11, Tryz.ntmps11
    go_wp2_with fail
    refine (KM.out _).mono ?_
    rintro e w1 ⟨rfl, rfl⟩
    go_wp2_with fail
    refine (KL.out _).mono ?_
    rintro e w1 ⟨rfl, rfl⟩
    go_wp2_with fail
    go_ret
    exact ⟨rfl, rfl⟩
  · rw [decide_eq_true rfl] at hz
    rw [Int.sign_zero]
    generalize S 0 = s at *
    clear hl
    go_enter Tryz.func11, Tryz.ntmps11
    go_wp2_with fail
    refine (KM.out _).mono ?_
    rintro e w1 ⟨rfl, rfl⟩
    go_wp2_with fail
    go_ret
    exact ⟨rfl, rfl⟩
  · rw [Int.sign_eq_one_of_pos h0]
    rw [decide_eq_false (by omega)] at hz
    rw [decide_eq_false (by omega)] at hl
    have KL := Lib.hid hl
    generalize S x = s at *
    clear hl
    go_enter Tryz.func11, Tryz.ntmps11
    go_wp2_with fail
    refine (KM.out _).mono ?_
    rintro e w1 ⟨rfl, rfl⟩
    go_wp2_with fail
    refine (KL.out _).mono ?_
    rintro e w1 ⟨rfl, rfl⟩
    go_wp2_with fail
    go_ret
    exact ⟨rfl, rfl⟩
set_option maxRecDepth 10000 in
theorem rsign_no {s : ByteArray} (h : RMayIs s false) : RSignIs s 0 := by
  intro w
  have KM := Lib.hid h
  clear h
  go_enter Tryz.func11, Tryz.ntmps11
  go_wp2_with fail
  refine (KM.out _).mono ?_
  rintro e w1 ⟨rfl, rfl⟩
  go_wp2_with fail
  go_ret
  exact ⟨rfl, rfl⟩
theorem rSign_opt {s : ByteArray} {o : Option Int} (h : Is s o) : RSignIs s (sgnO o) := by
  cases o with
  | none => exact rsign_no (rMay_is h)
  | some x => rw [h.1]; exact rsign_S h.2
theorem figs_lim {x : Int} (h : x.natAbs < lim) : Figs 100 x := (digs_lim _).2 h
theorem Figs.up {x : Int} {k m : Nat} (h : Figs k x) (hk : k ≤ m) : Figs m x := Nat.le_trans h hk
set_option maxRecDepth 10000 in
theorem rNeg_opt {s : ByteArray} {o : Option Int} (w : World) (h : Is s o) : Calls Tryz.prog 13 #[.string s] w fun e w' => e = .returned (.string (T (negO o))) ∧ w = w' := by
  have KM := Lib.hid (rMay_is h)
  cases o with
  | none =>
    clear h
    go_enter Tryz.func13, Tryz.ntmps13
    go_wp2_with fail
    refine (KM.out _).mono ?_
    rintro e w1 ⟨rfl, rfl⟩
    go_wp2_with fail
    go_ret
    exact ⟨rfl, rfl⟩
  | some x =>
    have ht := fun w => rturned_any x ((figs_lim h.2).up (by decide)) w
    unfold SignedPost at ht
    have e0 := Lib.hid (show T (negO (some x)) = S (-x) from rfl)
    rw [← h.1] at ht
    have KT := Lib.hid ht
    generalize S (-x) = r at KT e0
    clear ht h
    go_enter Tryz.func13, Tryz.ntmps13
    go_wp2_with fail
    refine (KM.out _).mono ?_
    rintro e w1 ⟨rfl, rfl⟩
    go_wp2_with fail
    refine (KT.out _).mono ?_
    rintro e w1 ⟨rfl, rfl⟩
    go_wp2_with fail
    go_ret
    exact ⟨by rw [e0.out]; rfl, rfl⟩
/-- A number of the same sign that isn't too large. -/
def bnd (z : Int) : Int := if z.natAbs < lim then z else z.sign
theorem bnd_lim (z : Int) : (bnd z).natAbs < lim := by
  have hL := lim_big
  unfold bnd
  split
  · assumption
  · rcases Int.lt_trichotomy z 0 with h | rfl | h
    · rw [Int.sign_eq_neg_one_of_neg h]; omega
    · rw [Int.sign_zero]; omega
    · rw [Int.sign_eq_one_of_pos h]; omega
theorem bnd_sign (z : Int) : (bnd z).sign = z.sign := by
  unfold bnd
  split
  · rfl
  · rw [Int.sign_sign]
theorem B_one : B (Lib.decDigits 1) = ⟨#[49]⟩ := by rw [decDigits_small (n := 1) (by decide)]; rfl
set_option maxRecDepth 10000 in
theorem rbounded_any (z : Int) (hz : Figs 4000 z) (w : World) : Calls Tryz.prog 31 #[.string (S z)] w fun e w' => e = .returned (.string (S (bnd z))) ∧ w = w' := by
  have KS := Lib.hid (rsize_S z hz)
  have KL := Lib.hid (rlow_S z)
  have hs := B_size (Lib.decDigits z.natAbs)
  by_cases h : z.natAbs < lim
  · have hlen : ¬ (100 : Int) < ((B (Lib.decDigits z.natAbs)).size : Int) := by have := (digs_lim _).2 h; omega
    have e0 := Lib.hid (show S (bnd z) = S z by unfold bnd; rw [if_pos h])
    generalize B (Lib.decDigits z.natAbs) = f at *
    generalize S z = s at *
    clear hs
    go_enter Tryz.func31, Tryz.ntmps31
    go_wp2_with fail
    refine (KS.out _).mono ?_
    rintro e w1 ⟨rfl, rfl⟩
    go_wp2_with fail
    go_ret
    exact ⟨by rw [e0.out]; rfl, rfl⟩
  · have hlen : (100 : Int) < ((B (Lib.decDigits z.natAbs)).size : Int) := by
      have : ¬ (Lib.decDigits z.natAbs).length ≤ 100 := fun h2 => h ((digs_lim _).1 h2)
      omega
    have h1 : (Lib.decDigits 1).length ≤ 4000 := by rw [decDigits_small (n := 1) (by decide)]; decide
    have hg := rsigned_D 1 h1 (decide (z < 0))
    have e1 : sgn (decide (z < 0)) 1 = bnd z := by
      unfold bnd sgn
      rw [if_neg h]
      rcases Int.lt_trichotomy z 0 with h0 | rfl | h0
      · rw [Int.sign_eq_neg_one_of_neg h0, if_pos (decide_eq_true h0)]; rfl
      · exact absurd (by have := lim_big; show (0 : Int).natAbs < lim; omega) h
      · rw [Int.sign_eq_one_of_pos h0, if_neg (by rw [decide_eq_true_iff]; omega)]; rfl
    rw [e1, B_one] at hg
    unfold SignedPost at hg
    have KG := Lib.hid hg
    generalize B (Lib.decDigits z.natAbs) = f at *
    generalize S z = s at *
    generalize decide (z < 0) = b at *
    generalize S (bnd z) = r at *
    clear hs hg h
    go_enter Tryz.func31, Tryz.ntmps31
    go_wp2_with fail
    refine (KS.out _).mono ?_
    rintro e w1 ⟨rfl, rfl⟩
    go_wp2_with fail
    refine (KL.out _).mono ?_
    rintro e w1 ⟨rfl, rfl⟩
    go_wp2_with fail
    refine (KG.out _).mono ?_
    rintro e w1 ⟨rfl, rfl⟩
    go_wp2_with fail
    go_ret
    exact ⟨rfl, rfl⟩
def RCmpIs (s t : ByteArray) (z : Int) : Prop := ∀ w, Calls Tryz.prog 17 #[.string s, .string t] w (IntEnd z w)
set_option maxRecDepth 10000 in
theorem rcmp_S {x y : Int} (hx : x.natAbs < lim) (hy : y.natAbs < lim) : RCmpIs (S x) (S y) (x - y).sign := by
  intro w
  have KM := Lib.hid (rMay_S hx)
  have KM2 := Lib.hid (rMay_S hy)
  have ht := rturned_any y ((figs_lim hy).up (by decide))
  unfold SignedPost at ht
  have KT := Lib.hid ht
  clear ht
  have fs : Figs 4000 (x + -y) := by
    have h3 := dec_add_len (k := 100) (by decide) (figs_lim hx) (figs_lim hy)
    have h4 := dec_le_len (show (x + -y).natAbs ≤ x.natAbs + y.natAbs by omega) (by decide) h3
    exact Nat.le_trans h4 (by decide)
  have hu := rsum_any x (-y) ((figs_lim hx).up (by decide)) (by unfold Figs; rw [Int.natAbs_neg]; exact (figs_lim hy).up (by decide))
  unfold StrEnd at hu
  have KU := Lib.hid hu
  clear hu
  have KB := Lib.hid (rbounded_any (x + -y) fs)
  have hs := rsign_S (bnd_lim (x + -y))
  rw [bnd_sign, show x + -y = x - y by omega] at hs
  rw [show x + -y = x - y by omega] at KB KU
  have KS := Lib.hid hs
  generalize S x = s at *
  generalize S y = t at *
  generalize S (-y) = t' at *
  generalize S (x - y) = u at *
  generalize S (bnd (x - y)) = v at *
  clear hs hx hy fs
  go_enter Tryz.func17, Tryz.ntmps17
  go_wp2_with fail
  refine (KM.out _).mono ?_
  rintro e w1 ⟨rfl, rfl⟩
  go_wp2_with fail
  refine (KM2.out _).mono ?_
  rintro e w1 ⟨rfl, rfl⟩
  go_wp2_with fail
  refine (KT.out _).mono ?_
  rintro e w1 ⟨rfl, rfl⟩
  go_wp2_with fail
  refine (KU.out _).mono ?_
  rintro e w1 ⟨rfl, hb⟩
  go_wp2_with fail
  refine (KB.out _).mono ?_
  rintro e w2 ⟨rfl, rfl⟩
  go_wp2_with fail
  refine (KS.out _).mono ?_
  rintro e w2 ⟨rfl, rfl⟩
  go_wp2_with fail
  go_ret
  exact ⟨rfl, hb⟩
set_option maxRecDepth 10000 in
theorem rcmp_no {s t : ByteArray} {a b : Bool} (h : (a && b) = false) (HM : RMayIs s a) (HM2 : RMayIs t b) : RCmpIs s t 0 := by
  intro w
  have KM := Lib.hid HM
  have KM2 := Lib.hid HM2
  clear HM HM2
  cases a
  · go_enter Tryz.func17, Tryz.ntmps17
    go_wp2_with fail
    refine (KM.out _).mono ?_
    rintro e w1 ⟨rfl, rfl⟩
    go_wp2_with fail
    go_ret
    exact ⟨rfl, Below.refl _ _⟩
  · cases b
    · clear h
      go_enter Tryz.func17, Tryz.ntmps17
      go_wp2_with fail
      refine (KM.out _).mono ?_
      rintro e w1 ⟨rfl, rfl⟩
      go_wp2_with fail
      refine (KM2.out _).mono ?_
      rintro e w1 ⟨rfl, rfl⟩
      go_wp2_with fail
      go_ret
      exact ⟨rfl, Below.refl _ _⟩
    · cases h
theorem cmpI_sign (x y : Int) : cmpI x y = (x - y).sign := by
  unfold cmpI
  rcases Int.lt_trichotomy x y with h | rfl | h
  · rw [if_pos h, Int.sign_eq_neg_one_of_neg (by omega)]
  · rw [if_neg (by omega), if_neg (by omega), Int.sub_self, Int.sign_zero]
  · rw [if_neg (by omega), if_pos h, Int.sign_eq_one_of_pos (by omega)]
theorem rCmp_opt {s t : ByteArray} {o p : Option Int} (hs : Is s o) (ht : Is t p) : RCmpIs s t (cmpO o p) := by
  cases hn : (o.isSome && p.isSome)
  · have := rcmp_no hn (rMay_is hs) (rMay_is ht)
    cases o <;> cases p <;> first | exact this | exact absurd hn (by simp)
  · cases o <;> cases p <;> simp at hn
    rw [hs.1, ht.1]
    unfold cmpO
    dsimp only
    rw [cmpI_sign]
    exact rcmp_S hs.2 ht.2
end Go.Proofs.YtinhbmjfeabecaaGreatDoor

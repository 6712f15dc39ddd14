import Derived.Test.YtinhbmjfeabecaaDoorRf7
import Derived.Test.YtinhbmjfeabecaaDoorWx
namespace Go.Proofs.YtinhbmjfeabecaaDoor
open Go.RowKit

def RBoundIs (w : Int) (s : ByteArray) : Prop := ∀ W, Calls Tryd.prog 46 #[.int .i64 w] W fun e W' => e = .returned (.string s) ∧ W = W'
theorem S_127 : S 127 = ⟨#[49, 50, 55]⟩ := S_lit (l := [49, 50, 55]) (n := 127) rfl (by unfold AllDig; decide) ⟨_, _, rfl, by decide⟩
theorem S_32767 : S 32767 = ⟨#[51, 50, 55, 54, 55]⟩ := S_lit (l := [51, 50, 55, 54, 55]) (n := 32767) rfl (by unfold AllDig; decide) ⟨_, _, rfl, by decide⟩
theorem S_i32 : S 2147483647 = ⟨#[50, 49, 52, 55, 52, 56, 51, 54, 52, 55]⟩ := S_lit (l := [50, 49, 52, 55, 52, 56, 51, 54, 52, 55]) (n := 2147483647) rfl (by unfold AllDig; decide) ⟨_, _, rfl, by decide⟩
theorem S_one1 : S 1 = ⟨#[49]⟩ := S_lit (l := [49]) (n := 1) rfl (by unfold AllDig; decide) ⟨_, _, rfl, by decide⟩
set_option maxRecDepth 10000 in
theorem rbound_8 : RBoundIs 8 (S 127) := by
  intro W
  rw [S_127]
  go_enter Tryd.func46, Tryd.ntmps46
  go_wp2_with fail
  go_ret
  exact ⟨rfl, rfl⟩
set_option maxRecDepth 10000 in
theorem rbound_16 : RBoundIs 16 (S 32767) := by
  intro W
  rw [S_32767]
  go_enter Tryd.func46, Tryd.ntmps46
  go_wp2_with fail
  go_ret
  exact ⟨rfl, rfl⟩
set_option maxRecDepth 10000 in
theorem rbound_32 : RBoundIs 32 (S 2147483647) := by
  intro W
  rw [S_i32]
  go_enter Tryd.func46, Tryd.ntmps46
  go_wp2_with fail
  go_ret
  exact ⟨rfl, rfl⟩
set_option maxRecDepth 10000 in
theorem rbound_64 : RBoundIs 64 (S 9223372036854775807) := by
  intro W
  rw [S_max]
  go_enter Tryd.func46, Tryd.ntmps46
  go_wp2_with fail
  go_ret
  exact ⟨rfl, rfl⟩
set_option maxRecDepth 10000 in
theorem rbound_no {w : Int} (h1 : w ≠ 8) (h2 : w ≠ 16) (h3 : w ≠ 32) (h4 : w ≠ 64) : RBoundIs w ⟨#[]⟩ := by
  intro W
  have e1 : (w == 8) = false := beq_eq_false_iff_ne.2 h1
  have e2 : (w == 16) = false := beq_eq_false_iff_ne.2 h2
  have e3 : (w == 32) = false := beq_eq_false_iff_ne.2 h3
  have e4 : (w == 64) = false := beq_eq_false_iff_ne.2 h4
  go_enter Tryd.func46, Tryd.ntmps46
  go_wp2_with fail
  go_ret
  exact ⟨rfl, rfl⟩
def RInIs (s : ByteArray) (w : Int) (v : Bool) : Prop := ∀ W, Calls Tryd.prog 28 #[.string s, .int .i64 w] W fun e W' => e = .returned (.bool v) ∧ Below W.heap.size W W'
set_option maxRecDepth 10000 in
theorem rin_no (s : ByteArray) {w : Int} (hB : RBoundIs w ⟨#[]⟩) : RInIs s w (decide (w = 128)) := by
  intro W
  have KB := Lib.hid hB
  clear hB
  by_cases h : w = 128
  · subst h
    go_enter Tryd.func28, Tryd.ntmps28
    go_wp2_with fail
    refine (KB.out _).mono ?_
    rintro e w1 ⟨rfl, rfl⟩
    go_wp2_with fail
    go_ret
    exact ⟨rfl, Below.refl _ _⟩
  · have e1 : (w == 128) = false := beq_eq_false_iff_ne.2 h
    rw [decide_eq_false h]
    go_enter Tryd.func28, Tryd.ntmps28
    go_wp2_with fail
    refine (KB.out _).mono ?_
    rintro e w1 ⟨rfl, rfl⟩
    go_wp2_with fail
    go_ret
    exact ⟨rfl, Below.refl _ _⟩
set_option maxRecDepth 10000 in
theorem rin_main (s t t' low : ByteArray) (w z1 z2 : Int) (ht : t.toList.isEmpty = false) (hB : RBoundIs w t) (HN : ∀ W, Calls Tryd.prog 47 #[.string t] W fun e W' => e = .returned (.string t') ∧ W = W')
    (HS : ∀ W, Calls Tryd.prog 34 #[.string t', .string ⟨#[49]⟩] W fun e W' => e = .returned (.tuple #[.string low, .int .i64 0]) ∧ Below W.heap.size W W')
    (C1 : RCmpIs s t z1) (C2 : RCmpIs s low z2) : RInIs s w (decide (z1 ≤ 0) && decide (0 ≤ z2)) := by
  intro W
  unfold RCmpIs IntEnd at C1 C2
  have KB := Lib.hid hB
  have KN := Lib.hid HN
  have KS := Lib.hid HS
  have K1 := Lib.hid C1
  have K2 := Lib.hid C2
  clear hB HN HS C1 C2
  by_cases h1 : z1 ≤ 0
  · go_enter Tryd.func28, Tryd.ntmps28
    go_wp2_with fail
    refine (KB.out _).mono ?_
    rintro e w1 ⟨rfl, rfl⟩
    go_wp2_with fail
    refine (KN.out _).mono ?_
    rintro e w1 ⟨rfl, rfl⟩
    go_wp2_with fail
    refine (KS.out _).mono ?_
    rintro e w1 ⟨rfl, hb⟩
    go_wp2_with fail
    refine (K1.out _).mono ?_
    rintro e w2 ⟨rfl, hq⟩
    replace hb := hb.trans (hq.mono hb.size)
    clear hq
    go_wp2_with fail
    refine (K2.out _).mono ?_
    rintro e w3 ⟨rfl, hq⟩
    replace hb := hb.trans (hq.mono hb.size)
    clear hq
    go_wp2_with fail
    go_ret
    exact ⟨ret_w (by simp [h1]), hb⟩
  · go_enter Tryd.func28, Tryd.ntmps28
    go_wp2_with fail
    refine (KB.out _).mono ?_
    rintro e w1 ⟨rfl, rfl⟩
    go_wp2_with fail
    refine (KN.out _).mono ?_
    rintro e w1 ⟨rfl, rfl⟩
    go_wp2_with fail
    refine (KS.out _).mono ?_
    rintro e w1 ⟨rfl, hb⟩
    go_wp2_with fail
    refine (K1.out _).mono ?_
    rintro e w2 ⟨rfl, hq⟩
    replace hb := hb.trans (hq.mono hb.size)
    clear hq
    go_wp2_with fail
    go_ret
    exact ⟨ret_w (by rw [decide_eq_false (show ¬ z1 ≤ 0 by omega)]; rfl), hb⟩
theorem S_nonempty (x : Int) : (S x).toList.isEmpty = false := by
  rw [str_tl, S_toList]
  rcases Int.lt_or_le x 0 with h | h
  · rw [itoa_neg h]; rfl
  · rw [itoa_pos h]
    cases e : Lib.decDigits x.natAbs with
    | nil => exact absurd e (decDigits_ne _)
    | cons c r => rfl
theorem sign_le {z : Int} : z.sign ≤ 0 ↔ z ≤ 0 := by
  rcases Int.lt_trichotomy z 0 with h | rfl | h
  · rw [Int.sign_eq_neg_one_of_neg h]; omega
  · simp
  · rw [Int.sign_eq_one_of_pos h]; omega
theorem sign_ge {z : Int} : 0 ≤ z.sign ↔ 0 ≤ z := by
  rcases Int.lt_trichotomy z 0 with h | rfl | h
  · rw [Int.sign_eq_neg_one_of_neg h]; omega
  · simp
  · rw [Int.sign_eq_one_of_pos h]; omega
theorem rin_at {x w m : Int} (hx : x.natAbs < lim) (hm : I64 m) (hm0 : 0 < m) (hB : RBoundIs w (S m)) : RInIs (S x) w (decide (-m - 1 ≤ x ∧ x ≤ m)) := by
  have hml := i64_lim0 hm
  have hL := lim_big
  have hm1 : (-m).natAbs < lim := by rw [Int.natAbs_neg]; exact hml
  have hm2 : (-m - 1).natAbs < lim := by unfold I64 at hm; omega
  have hS := rSub_yes (-m) 1 (figs_lim hm1) (figs_lim (by omega)) (rMay_S hm1) (rMay_S (by omega))
  unfold OpPost at hS
  rw [toldR_yes hm2, toldE_yes hm2, S_one1] at hS
  have hI := rin_main (S x) (S m) (S (-m)) (S (-m - 1)) w _ _ (S_nonempty m) hB (fun W => rNeg_opt W (show Is (S m) (some m) from ⟨rfl, hml⟩)) hS (rcmp_S hx hml) (rcmp_S hx hm2)
  have e : (decide ((x - m).sign ≤ 0) && decide (0 ≤ (x - (-m - 1)).sign)) = decide (-m - 1 ≤ x ∧ x ≤ m) := by
    rw [Bool.eq_iff_iff, Bool.and_eq_true, decide_eq_true_eq, decide_eq_true_eq, decide_eq_true_eq, sign_le, sign_ge]
    omega
  rwa [e] at hI
theorem rin_any (x w : Int) (hx : x.natAbs < lim) : RInIs (S x) w (decide (Fit x w)) := by
  by_cases h8 : w = 8
  · subst h8
    have h := rin_at (m := 127) hx (by decide) (by decide) rbound_8
    have e : decide (-127 - 1 ≤ x ∧ x ≤ 127) = decide (Fit x 8) := by rw [decide_eq_decide]; unfold Fit; omega
    rwa [e] at h
  by_cases h16 : w = 16
  · subst h16
    have h := rin_at (m := 32767) hx (by decide) (by decide) rbound_16
    have e : decide (-32767 - 1 ≤ x ∧ x ≤ 32767) = decide (Fit x 16) := by rw [decide_eq_decide]; unfold Fit; omega
    rwa [e] at h
  by_cases h32 : w = 32
  · subst h32
    have h := rin_at (m := 2147483647) hx (by decide) (by decide) rbound_32
    have e : decide (-2147483647 - 1 ≤ x ∧ x ≤ 2147483647) = decide (Fit x 32) := by rw [decide_eq_decide]; unfold Fit; omega
    rwa [e] at h
  by_cases h64 : w = 64
  · subst h64
    have h := rin_at (m := 9223372036854775807) hx (by decide) (by decide) rbound_64
    have e : decide (-9223372036854775807 - 1 ≤ x ∧ x ≤ 9223372036854775807) = decide (Fit x 64) := by rw [decide_eq_decide]; unfold Fit; omega
    rwa [e] at h
  have h := rin_no (S x) (rbound_no h8 h16 h32 h64)
  have e : decide (w = 128) = decide (Fit x w) := by rw [decide_eq_decide]; unfold Fit; omega
  rwa [e] at h
end Go.Proofs.YtinhbmjfeabecaaDoor

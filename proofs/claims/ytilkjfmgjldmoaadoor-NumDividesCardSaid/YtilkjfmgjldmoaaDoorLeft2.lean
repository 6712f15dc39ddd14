import Derived.Test.YtilkjfmgjldmoaaDoorLeft
import Derived.Test.YtilkjfmgjldmoaaDoorOrder2
namespace Go.Proofs.YtilkjfmgjldmoaaDoor
open Go.RowKit

set_option maxRecDepth 10000 in
set_option maxHeartbeats 1600000 in
theorem left_few (a b : ByteArray) (w : World) (htab : Tab w) (HF : FewIs a b false) : Calls Tryd.prog 7 #[.string a, .string b] w (TrueEnd w) := by
  have KF := Lib.hid HF
  clear HF
  go_enter Tryd.func7, Tryd.ntmps7
  go_wp2_with fail
  refine (shown_any _ htab).mono ?_
  rintro e w1 ⟨rfl, hb1⟩
  go_wp2_with fail
  refine (KF.out _).mono ?_
  rintro e w2 ⟨rfl, rfl⟩
  go_wp2_with fail
  go_ret
  exact ⟨rfl, hb1⟩
set_option maxRecDepth 10000 in
set_option maxHeartbeats 1600000 in
theorem left_no (a b : ByteArray) (va vb : Bool) (hv : (va && vb) = false) (w : World) (htab : Tab w) (HF : FewIs a b true) (HA : MayIs a va) (HB : MayIs b vb) : Calls Tryd.prog 7 #[.string a, .string b] w (TrueEnd w) := by
  have KF := Lib.hid HF
  have KA := Lib.hid HA
  have KB := Lib.hid HB
  clear HF HA HB
  go_enter Tryd.func7, Tryd.ntmps7
  go_wp2_with fail
  refine (shown_any _ htab).mono ?_
  rintro e w1 ⟨rfl, hb1⟩
  go_wp2_with fail
  refine (KF.out _).mono ?_
  rintro e w2 ⟨rfl, rfl⟩
  go_wp2_with fail
  cases va
  · refine (KA.out _).mono ?_
    rintro e w2 ⟨rfl, rfl⟩
    go_wp2_with fail
    go_ret
    exact ⟨rfl, hb1⟩
  · refine (KA.out _).mono ?_
    rintro e w2 ⟨rfl, rfl⟩
    go_wp2_with fail
    cases vb
    · refine (KB.out _).mono ?_
      rintro e w2 ⟨rfl, rfl⟩
      go_wp2_with fail
      go_ret
      exact ⟨rfl, hb1⟩
    · exact absurd hv (by decide)
set_option maxRecDepth 10000 in
set_option maxHeartbeats 1600000 in
/-- Divided by 0: both tell that it isn't defined. -/
theorem left_zero (a b : ByteArray) (w : World) (htab : Tab w) (HF : FewIs a b true) (HA : MayIs a true) (HB : MayIs b true) (H1 : DivIs a b ⟨#[]⟩ 5) (H2 : ModIs a b ⟨#[]⟩ 5) (hb0 : (b.toList == [48]) = true) :
    Calls Tryd.prog 7 #[.string a, .string b] w (TrueEnd w) := by
  have KF := Lib.hid HF
  have KA := Lib.hid HA
  have KB := Lib.hid HB
  have K1 := Lib.hid H1
  have K2 := Lib.hid H2
  clear HF HA HB H1 H2
  go_enter Tryd.func7, Tryd.ntmps7
  go_wp2_with fail
  refine (shown_any _ htab).mono ?_
  rintro e w1 ⟨rfl, hb1⟩
  go_wp2_with fail
  refine (KF.out _).mono ?_
  rintro e w2 ⟨rfl, rfl⟩
  go_wp2_with fail
  refine (KA.out _).mono ?_
  rintro e w2 ⟨rfl, rfl⟩
  go_wp2_with fail
  refine (KB.out _).mono ?_
  rintro e w2 ⟨rfl, rfl⟩
  go_wp2_with fail
  refine (K1.out _ (htab.below hb1)).mono ?_
  rintro e w2 ⟨rfl, hq⟩
  have hb2 := hb1.trans (hq.mono hb1.size)
  clear hb1 hq
  go_wp2_with fail
  refine (K2.out _ (htab.below hb2)).mono ?_
  rintro e w3 ⟨rfl, hq⟩
  have hb3 := hb2.trans (hq.mono hb2.size)
  clear hb2 hq
  go_wp2_with fail
  go_ret
  exact ⟨rfl, hb3⟩
theorem S_0 : S 0 = ⟨#[48]⟩ := by
  rw [S_pos (n := 0) rfl (by decide), decDigits_small (by decide)]
  rfl
theorem zero_is : Is ⟨#[48]⟩ (some 0) := ⟨S_0.symm, by rw [Int.natAbs_zero]; exact lim_pos⟩
theorem fr_signs {x y : Int} (hy : y ≠ 0) : (y.sign = 1 ∧ cmpI (fr x y) y = -1 ∧ (cmpI (fr x y) 0 = 0 ∨ cmpI (fr x y) 0 = 1)) ∨ (y.sign = -1 ∧ cmpI (fr x y) y = 1 ∧ (cmpI (fr x y) 0 = 0 ∨ cmpI (fr x y) 0 = -1)) := by
  obtain ⟨h1, h2⟩ := fr_bd (x := x) hy
  have c1 := @cmpI_pos (fr x y) y
  have c0 := @cmpI_pos (fr x y) 0
  rcases Int.lt_trichotomy y 0 with h | h | h
  · have := h2 h
    exact .inr ⟨Int.sign_eq_neg_one_of_neg h, by omega, by omega⟩
  · exact absurd h hy
  · have := h1 h
    exact .inl ⟨Int.sign_eq_one_of_pos h, by omega, by omega⟩
theorem left_any (a b : ByteArray) (w : World) (ha : a.size ≤ maxLen) (hb : b.size ≤ maxLen) (htab : Tab w) : Calls Tryd.prog 7 #[.string a, .string b] w (TrueEnd w) := by
  cases hf : (decide (a.size ≤ 200) && decide (b.size ≤ 200))
  · exact left_few a b w htab fun w => few_any a b false hf w
  obtain ⟨o, ho⟩ := is_ex a ha
  obtain ⟨p, hp⟩ := is_ex b hb
  cases hv : (o.isSome && p.isSome)
  · exact left_no a b o.isSome p.isSome hv w htab (fun w => few_any a b true hf w) (fun w => May_opt w ho) (fun w => May_opt w hp)
  cases o with
  | none => simp at hv
  | some x =>
    cases p with
    | none => simp at hv
    | some y =>
      by_cases hy : y = 0
      · subst hy
        refine left_zero a b w htab (fun w => few_any a b true hf w) (fun w => May_opt w ho) (fun w => May_opt w hp) (fun w ht => ?_) (fun w ht => ?_) ?_
        · rw [ho.1, hp.1]; exact Div_zero x w ho.2 ht
        · rw [ho.1, hp.1]; exact Mod_zero x w ho.2 ht
        · rw [hp.1, S_0, str_tl]; rfl
      · have hq : (fq x y).natAbs < lim := Nat.lt_of_le_of_lt (fq_abs x y hy) ho.2
        have hr : (fr x y).natAbs < lim := Nat.lt_of_le_of_lt (fr_abs x y hy) hp.2
        have iq : Is (S (fq x y)) (some (fq x y)) := ⟨rfl, hq⟩
        have ir : Is (S (fr x y)) (some (fr x y)) := ⟨rfl, hr⟩
        refine left_main a b (S (fq x y)) (S (fr x y)) _ _ _ _ (cmpI (fr x y) 0) (cmpI (fr x y) y) y.sign w htab (fun w => few_any a b true hf w) (fun w => May_opt w ho) (fun w => May_opt w hp) (fun w ht => ?_) (fun w ht => ?_)
          (Mul_is iq hp) (Add_is is_op ir) (fun w => Cmp_opt w ir zero_is) (fun w => Cmp_opt w ir hp) (fun w => Sign_opt w hp) ?_ ?_ (fr_signs hy)
        · rw [ho.1, hp.1]
          have h := Div_yes x y w ho.2 hp.2 hy ht
          unfold OpPost at h
          rwa [toldR_yes hq, toldE_yes hq] at h
        · rw [ho.1, hp.1]
          have h := Mod_yes x y w ho.2 hp.2 hy ht
          unfold OpPost at h
          rwa [toldR_yes hr, toldE_yes hr] at h
        · refine beq_eq_false_iff_ne.2 fun h => hy ?_
          have h2 : b = ⟨#[48]⟩ := toList_inj (by rw [h, str_tl])
          exact S_inj (by rw [← hp.1, h2, S_0])
        · intro e1
          obtain ⟨q', y', h1, h2, _, e⟩ := opE_zero e1
          cases h1; cases h2
          rw [e]
          have hx : fq x y * y + fr x y = x := by unfold fr; rw [Int.mul_comm]; omega
          have hl : (fq x y * y + fr x y).natAbs < lim := by rw [hx]; exact ho.2
          refine ⟨opE_zero_of (f := fun x y => x + y) hl, ?_⟩
          rw [op_told]
          show toldR (fq x y * y + fr x y) = a
          rw [hx, toldR_yes ho.2, ho.1]
end Go.Proofs.YtilkjfmgjldmoaaDoor

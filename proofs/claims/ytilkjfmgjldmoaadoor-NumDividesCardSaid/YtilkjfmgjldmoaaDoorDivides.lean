import Derived.Test.YtilkjfmgjldmoaaDoorRf4
import Derived.Test.YtilkjfmgjldmoaaDoorLeft2
namespace Go.Proofs.YtilkjfmgjldmoaaDoor
open Go.RowKit

set_option maxRecDepth 10000 in
set_option maxHeartbeats 800000 in
theorem rDiv_no (s t : ByteArray) (a b : Bool) (h : (a && b) = false) (HM : RMayIs s a) (HM' : RMayIs t b) (w : World) : Calls Tryd.prog 18 #[.string s, .string t] w (ArgNo w) := by
  have K1 := Lib.hid HM
  have K2 := Lib.hid HM'
  clear HM HM'
  go_enter Tryd.func18, Tryd.ntmps18
  go_wp2_with fail
  cases a
  · refine (K1.out _).mono ?_
    rintro e w1 ⟨rfl, rfl⟩
    go_wp2_with fail
    go_ret2
    exact ⟨rfl, Below.refl _ _⟩
  · refine (K1.out _).mono ?_
    rintro e w1 ⟨rfl, rfl⟩
    go_wp2_with fail
    cases b
    · refine (K2.out _).mono ?_
      rintro e w1 ⟨rfl, rfl⟩
      go_wp2_with fail
      go_ret2
      exact ⟨rfl, Below.refl _ _⟩
    · exact absurd h (by decide)
set_option maxRecDepth 10000 in
set_option maxHeartbeats 800000 in
theorem rDiv_zero (s t : ByteArray) (h0 : (t.toList == [48]) = true) (HM : RMayIs s true) (HM' : RMayIs t true) (w : World) : Calls Tryd.prog 18 #[.string s, .string t] w fun e w' => e = .returned (.tuple #[.string ⟨#[]⟩, .int .i64 5]) ∧ Below w.heap.size w w' := by
  have K1 := Lib.hid HM
  have K2 := Lib.hid HM'
  clear HM HM'
  go_enter Tryd.func18, Tryd.ntmps18
  go_wp2_with fail
  refine (K1.out _).mono ?_
  rintro e w1 ⟨rfl, rfl⟩
  go_wp2_with fail
  refine (K2.out _).mono ?_
  rintro e w1 ⟨rfl, rfl⟩
  go_wp2_with fail
  go_ret2
  exact ⟨rfl, Below.refl _ _⟩
set_option maxRecDepth 10000 in
set_option maxHeartbeats 800000 in
theorem rMod_no (s t : ByteArray) (a b : Bool) (h : (a && b) = false) (HM : RMayIs s a) (HM' : RMayIs t b) (w : World) : Calls Tryd.prog 20 #[.string s, .string t] w (ArgNo w) := by
  have K1 := Lib.hid HM
  have K2 := Lib.hid HM'
  clear HM HM'
  go_enter Tryd.func20, Tryd.ntmps20
  go_wp2_with fail
  cases a
  · refine (K1.out _).mono ?_
    rintro e w1 ⟨rfl, rfl⟩
    go_wp2_with fail
    go_ret2
    exact ⟨rfl, Below.refl _ _⟩
  · refine (K1.out _).mono ?_
    rintro e w1 ⟨rfl, rfl⟩
    go_wp2_with fail
    cases b
    · refine (K2.out _).mono ?_
      rintro e w1 ⟨rfl, rfl⟩
      go_wp2_with fail
      go_ret2
      exact ⟨rfl, Below.refl _ _⟩
    · exact absurd h (by decide)
set_option maxRecDepth 10000 in
set_option maxHeartbeats 800000 in
theorem rMod_zero (s t : ByteArray) (h0 : (t.toList == [48]) = true) (HM : RMayIs s true) (HM' : RMayIs t true) (w : World) : Calls Tryd.prog 20 #[.string s, .string t] w fun e w' => e = .returned (.tuple #[.string ⟨#[]⟩, .int .i64 5]) ∧ Below w.heap.size w w' := by
  have K1 := Lib.hid HM
  have K2 := Lib.hid HM'
  clear HM HM'
  go_enter Tryd.func20, Tryd.ntmps20
  go_wp2_with fail
  refine (K1.out _).mono ?_
  rintro e w1 ⟨rfl, rfl⟩
  go_wp2_with fail
  refine (K2.out _).mono ?_
  rintro e w1 ⟨rfl, rfl⟩
  go_wp2_with fail
  go_ret2
  exact ⟨rfl, Below.refl _ _⟩
set_option maxRecDepth 10000 in
set_option maxHeartbeats 800000 in
theorem rDiv_yes (x y : Int) (hy0 : y ≠ 0) (hx : Figs 100 x) (hy : Figs 100 y) (h0 : ((S y).toList == [48]) = false) (HM : RMayIs (S x) true) (HM' : RMayIs (S y) true) (w : World) : Calls Tryd.prog 18 #[.string (S x), .string (S y)] w (OpPost (fq x y) w) := by
  have K1 := Lib.hid HM
  have K2 := Lib.hid HM'
  have hq : Figs 100 (fq x y) := dec_le_len (fq_abs x y hy0) (by decide) hx
  have h1 := rfloor_any x y hy0 hx hy
  have h2 := rtold_any (fq x y) (Nat.le_trans hq (by decide))
  have H1 := Lib.hid h1
  have H2 := Lib.hid h2
  unfold OpPost
  clear h1 h2 hq hx hy HM HM' hy0
  generalize toldR (fq x y) = r at *
  generalize toldE (fq x y) = f at *
  go_enter Tryd.func18, Tryd.ntmps18
  go_wp2_with fail
  refine (K1.out _).mono ?_
  rintro e w1 ⟨rfl, rfl⟩
  go_wp2_with fail
  refine (K2.out _).mono ?_
  rintro e w1 ⟨rfl, rfl⟩
  go_wp2_with fail
  refine (H1.out _).mono ?_
  rintro e w2 ⟨rfl, hb⟩
  go_wp2_with fail
  refine (H2.out _).mono ?_
  rintro e w3 ⟨rfl, rfl⟩
  go_wp2_with fail
  go_ret2
  exact ⟨rfl, hb⟩
set_option maxRecDepth 10000 in
set_option maxHeartbeats 800000 in
theorem rMod_yes (x y : Int) (hy0 : y ≠ 0) (hx : Figs 100 x) (hy : Figs 100 y) (h0 : ((S y).toList == [48]) = false) (HM : RMayIs (S x) true) (HM' : RMayIs (S y) true) (w : World) : Calls Tryd.prog 20 #[.string (S x), .string (S y)] w (OpPost (fr x y) w) := by
  have K1 := Lib.hid HM
  have K2 := Lib.hid HM'
  have hq : Figs 100 (fq x y) := dec_le_len (fq_abs x y hy0) (by decide) hx
  have h1 := rfloor_any x y hy0 hx hy
  have hm : (Lib.decDigits (y.natAbs * (fq x y).natAbs)).length ≤ 200 := by
    unfold Figs at *
    refine (decDigits_len_le (by decide)).2 ?_
    have a1 := (decDigits_len_le (by decide)).1 hy
    have a2 := (decDigits_len_le (by decide)).1 hq
    rw [show (200 : Nat) = 100 + 100 from rfl, Nat.pow_add]
    exact Nat.mul_lt_mul_of_lt_of_le a1 (Nat.le_of_lt a2) (Nat.pow_pos (by decide))
  have h2 := rproduct_any y (fq x y) (Nat.le_trans hy (by decide)) (Nat.le_trans hq (by decide)) (Nat.le_trans hm (by decide))
  have hf : Figs 200 (y * fq x y) := by unfold Figs; rw [Int.natAbs_mul]; exact hm
  have h3 := rturned_any (y * fq x y) (Nat.le_trans hf (by decide))
  have h4 := rsum_any x (-(y * fq x y)) (Nat.le_trans hx (by decide)) (by unfold Figs at *; rw [Int.natAbs_neg]; exact Nat.le_trans hf (by decide))
  rw [show x + -(y * fq x y) = fr x y by unfold fr; omega] at h4
  have h5 := rtold_any (fr x y) (Nat.le_trans (dec_le_len (fr_abs x y hy0) (by decide) hy) (by decide))
  have H1 := Lib.hid h1
  have H2 := Lib.hid h2
  have H3 := Lib.hid h3
  have H4 := Lib.hid h4
  have H5 := Lib.hid h5
  unfold OpPost
  clear h1 h2 h3 h4 h5 hf hm hq hx hy HM HM' hy0
  generalize toldR (fr x y) = r at *
  generalize toldE (fr x y) = f at *
  go_enter Tryd.func20, Tryd.ntmps20
  go_wp2_with fail
  refine (K1.out _).mono ?_
  rintro e w1 ⟨rfl, rfl⟩
  go_wp2_with fail
  refine (K2.out _).mono ?_
  rintro e w1 ⟨rfl, rfl⟩
  go_wp2_with fail
  refine (H1.out _).mono ?_
  rintro e w2 ⟨rfl, hb⟩
  go_wp2_with fail
  refine (H2.out _).mono ?_
  rintro e w3 ⟨rfl, hb3⟩
  have hb4 := hb.trans (hb3.mono hb.size)
  go_wp2_with fail
  refine (H3.out _).mono ?_
  rintro e w4 ⟨rfl, rfl⟩
  go_wp2_with fail
  refine (H4.out _).mono ?_
  rintro e w5 ⟨rfl, hb5⟩
  have hb6 := hb4.trans (hb5.mono hb4.size)
  go_wp2_with fail
  refine (H5.out _).mono ?_
  rintro e w6 ⟨rfl, rfl⟩
  go_wp2_with fail
  go_ret2
  exact ⟨rfl, hb6⟩
def RDivIs (a b d : ByteArray) (ec : Int) : Prop := ∀ w, Calls Tryd.prog 18 #[.string a, .string b] w fun e w' => e = .returned (.tuple #[.string d, .int .i64 ec]) ∧ Below w.heap.size w w'
def RModIs (a b d : ByteArray) (ec : Int) : Prop := ∀ w, Calls Tryd.prog 20 #[.string a, .string b] w fun e w' => e = .returned (.tuple #[.string d, .int .i64 ec]) ∧ Below w.heap.size w w'
set_option maxRecDepth 10000 in
set_option maxHeartbeats 3200000 in
theorem divides_main (a b d1 d2 : ByteArray) (E1 E2 : Int) (w : World) (htab : Tab w) (HF : FewIs a b true) (H1 : DivIs a b d1 E1) (H2 : RDivIs a b d1 E1) (H3 : ModIs a b d2 E2) (H4 : RModIs a b d2 E2)
    (g1 : 0 ≤ E1 ∧ E1 ≤ 8) (g2 : 0 ≤ E2 ∧ E2 ≤ 8) : Calls Tryd.prog 4 #[.string a, .string b] w (TrueEnd w) := by
  have KF := Lib.hid HF
  have K1 := Lib.hid H1
  have K2 := Lib.hid H2
  have K3 := Lib.hid H3
  have K4 := Lib.hid H4
  clear HF H1 H2 H3 H4
  go_enter Tryd.func4, Tryd.ntmps4
  go_wp2_with fail
  refine (shown_any _ htab).mono ?_
  rintro e w1 ⟨rfl, hb1⟩
  go_wp2_with fail
  refine (KF.out _).mono ?_
  rintro e w2 ⟨rfl, rfl⟩
  go_wp2_with fail
  refine (K1.out _ (htab.below hb1)).mono ?_
  rintro e w2 ⟨rfl, hq⟩
  have hb2 := hb1.trans (hq.mono hb1.size)
  clear hb1 hq
  go_wp2_with fail
  refine (K2.out _).mono ?_
  rintro e w3 ⟨rfl, hq⟩
  have hb3 := hb2.trans (hq.mono hb2.size)
  clear hb2 hq
  go_wp2_with fail
  refine (K3.out _ (htab.below hb3)).mono ?_
  rintro e w4 ⟨rfl, hq⟩
  have hb4 := hb3.trans (hq.mono hb3.size)
  clear hb3 hq
  go_wp2_with fail
  refine (K4.out _).mono ?_
  rintro e w5 ⟨rfl, hq⟩
  have hb5 := hb4.trans (hq.mono hb4.size)
  clear hb4 hq
  go_wp2_with fail
  go_ret
  exact ⟨rfl, hb5⟩
set_option maxRecDepth 10000 in
set_option maxHeartbeats 1600000 in
theorem divides_few (a b : ByteArray) (w : World) (htab : Tab w) (HF : FewIs a b false) : Calls Tryd.prog 4 #[.string a, .string b] w (TrueEnd w) := by
  have KF := Lib.hid HF
  clear HF
  go_enter Tryd.func4, Tryd.ntmps4
  go_wp2_with fail
  refine (shown_any _ htab).mono ?_
  rintro e w1 ⟨rfl, hb1⟩
  go_wp2_with fail
  refine (KF.out _).mono ?_
  rintro e w2 ⟨rfl, rfl⟩
  go_wp2_with fail
  go_ret
  exact ⟨rfl, hb1⟩
theorem toldE_bd (z : Int) : 0 ≤ toldE z ∧ toldE z ≤ 8 := by unfold toldE; split <;> decide
theorem divides_any (a b : ByteArray) (w : World) (ha : a.size ≤ maxLen) (hb : b.size ≤ maxLen) (htab : Tab w) : Calls Tryd.prog 4 #[.string a, .string b] w (TrueEnd w) := by
  cases hf : (decide (a.size ≤ 200) && decide (b.size ≤ 200))
  · exact divides_few a b w htab fun w => few_any a b false hf w
  have HF : FewIs a b true := fun w => few_any a b true hf w
  obtain ⟨o, ho⟩ := is_ex a ha
  obtain ⟨p, hp⟩ := is_ex b hb
  have m1 := rMay_is ho
  have m2 := rMay_is hp
  cases hv : (o.isSome && p.isSome)
  · exact divides_main a b _ _ _ _ w htab HF (fun w _ => Div_no a b w ha hb (two_no ho hp hv)) (fun w => rDiv_no a b _ _ hv m1 m2 w) (fun w _ => Mod_no a b w ha hb (two_no ho hp hv)) (fun w => rMod_no a b _ _ hv m1 m2 w) (by decide) (by decide)
  cases o with
  | none => simp at hv
  | some x =>
    cases p with
    | none => simp at hv
    | some y =>
      have f1 := is_figs ho
      have f2 := is_figs hp
      by_cases hy : y = 0
      · subst hy
        have h0 : (b.toList == [48]) = true := by rw [hp.1, S_0, str_tl]; rfl
        refine divides_main a b _ _ _ _ w htab HF (fun w ht => ?_) (fun w => rDiv_zero a b h0 m1 m2 w) (fun w ht => ?_) (fun w => rMod_zero a b h0 m1 m2 w) (by decide) (by decide)
        · rw [ho.1, hp.1]; exact Div_zero x w ho.2 ht
        · rw [ho.1, hp.1]; exact Mod_zero x w ho.2 ht
      · have h0 : ((S y).toList == [48]) = false := by
          refine beq_eq_false_iff_ne.2 fun h => hy ?_
          have h2 : S y = ⟨#[48]⟩ := toList_inj (by rw [h, str_tl])
          exact S_inj (by rw [h2, S_0])
        obtain ⟨ea, la⟩ := ho
        obtain ⟨eb, lb⟩ := hp
        subst ea
        subst eb
        exact divides_main (S x) (S y) _ _ _ _ w htab HF (fun w ht => Div_yes x y w la lb hy ht) (fun w => rDiv_yes x y hy f1 f2 h0 m1 m2 w) (fun w ht => Mod_yes x y w la lb hy ht) (fun w => rMod_yes x y hy f1 f2 h0 m1 m2 w) (toldE_bd _) (toldE_bd _)
end Go.Proofs.YtilkjfmgjldmoaaDoor

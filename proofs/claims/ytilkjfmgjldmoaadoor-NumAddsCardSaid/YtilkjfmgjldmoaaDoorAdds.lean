import Derived.Test.YtilkjfmgjldmoaaDoorRf3
import Derived.Test.YtilkjfmgjldmoaaDoorLaws2
namespace Go.Proofs.YtilkjfmgjldmoaaDoor
open Go.RowKit

theorem opE_bd (f : Int → Int → Int) (o p : Option Int) : 0 ≤ opE f o p ∧ opE f o p ≤ 8 := by
  cases o <;> cases p <;> simp only [opE] <;> first | (unfold toldE; split <;> decide) | decide
def RAddIs (a b d : ByteArray) (ec : Int) : Prop := ∀ w, Calls Tryd.prog 12 #[.string a, .string b] w fun e w' => e = .returned (.tuple #[.string d, .int .i64 ec]) ∧ Below w.heap.size w w'
def RSubIs (a b d : ByteArray) (ec : Int) : Prop := ∀ w, Calls Tryd.prog 14 #[.string a, .string b] w fun e w' => e = .returned (.tuple #[.string d, .int .i64 ec]) ∧ Below w.heap.size w w'
def RMulIs (a b d : ByteArray) (ec : Int) : Prop := ∀ w, Calls Tryd.prog 16 #[.string a, .string b] w fun e w' => e = .returned (.tuple #[.string d, .int .i64 ec]) ∧ Below w.heap.size w w'
set_option maxRecDepth 10000 in
set_option maxHeartbeats 3200000 in
theorem adds_main (a b d1 d2 d3 : ByteArray) (E1 E2 E3 : Int) (w : World) (htab : Tab w) (HF : FewIs a b true) (H1 : AddIs a b d1 E1) (H2 : RAddIs a b d1 E1) (H3 : SubIs a b d2 E2) (H4 : RSubIs a b d2 E2) (H5 : MulIs a b d3 E3) (H6 : RMulIs a b d3 E3)
    (g1 : 0 ≤ E1 ∧ E1 ≤ 8) (g2 : 0 ≤ E2 ∧ E2 ≤ 8) (g3 : 0 ≤ E3 ∧ E3 ≤ 8) : Calls Tryd.prog 3 #[.string a, .string b] w (TrueEnd w) := by
  have KF := Lib.hid HF
  have K1 := Lib.hid H1
  have K2 := Lib.hid H2
  have K3 := Lib.hid H3
  have K4 := Lib.hid H4
  have K5 := Lib.hid H5
  have K6 := Lib.hid H6
  clear HF H1 H2 H3 H4 H5 H6
  go_enter Tryd.func3, Tryd.ntmps3
  go_wp2_with fail
  refine (shown_any _ htab).mono ?_
  rintro e w1 ⟨rfl, hb1⟩
  go_wp2_with fail
  refine (KF.out _).mono ?_
  rintro e w2 ⟨rfl, rfl⟩
  go_wp2_with fail
  refine (K1.out _ (htab.below hb1)).mono ?_
  rintro e w2 ⟨rfl, hq⟩
  have hb2 := hb1.trans (hq.mono hb1.size)
  clear hb1 hq
  go_wp2_with fail
  refine (K2.out _).mono ?_
  rintro e w3 ⟨rfl, hq⟩
  have hb3 := hb2.trans (hq.mono hb2.size)
  clear hb2 hq
  go_wp2_with fail
  refine (K3.out _ (htab.below hb3)).mono ?_
  rintro e w4 ⟨rfl, hq⟩
  have hb4 := hb3.trans (hq.mono hb3.size)
  clear hb3 hq
  go_wp2_with fail
  refine (K4.out _).mono ?_
  rintro e w5 ⟨rfl, hq⟩
  have hb5 := hb4.trans (hq.mono hb4.size)
  clear hb4 hq
  go_wp2_with fail
  refine (K5.out _ (htab.below hb5)).mono ?_
  rintro e w6 ⟨rfl, hq⟩
  have hb6 := hb5.trans (hq.mono hb5.size)
  clear hb5 hq
  go_wp2_with fail
  refine (K6.out _).mono ?_
  rintro e w7 ⟨rfl, hq⟩
  have hb7 := hb6.trans (hq.mono hb6.size)
  clear hb6 hq
  go_wp2_with fail
  go_ret
  exact ⟨rfl, hb7⟩
set_option maxRecDepth 10000 in
set_option maxHeartbeats 1600000 in
theorem adds_few (a b : ByteArray) (w : World) (htab : Tab w) (HF : FewIs a b false) : Calls Tryd.prog 3 #[.string a, .string b] w (TrueEnd w) := by
  have KF := Lib.hid HF
  clear HF
  go_enter Tryd.func3, Tryd.ntmps3
  go_wp2_with fail
  refine (shown_any _ htab).mono ?_
  rintro e w1 ⟨rfl, hb1⟩
  go_wp2_with fail
  refine (KF.out _).mono ?_
  rintro e w2 ⟨rfl, rfl⟩
  go_wp2_with fail
  go_ret
  exact ⟨rfl, hb1⟩
theorem adds_any (a b : ByteArray) (w : World) (ha : a.size ≤ maxLen) (hb : b.size ≤ maxLen) (htab : Tab w) : Calls Tryd.prog 3 #[.string a, .string b] w (TrueEnd w) := by
  cases hf : (decide (a.size ≤ 200) && decide (b.size ≤ 200))
  · exact adds_few a b w htab fun w => few_any a b false hf w
  obtain ⟨o, ho⟩ := is_ex a ha
  obtain ⟨p, hp⟩ := is_ex b hb
  exact adds_main a b _ _ _ _ _ _ w htab (fun w => few_any a b true hf w) (Add_is ho hp) (fun w => rAdd_opt w ho hp) (Sub_is ho hp) (fun w => rSub_opt w ho hp) (Mul_is ho hp) (fun w => rMul_opt w ho hp) (opE_bd _ o p) (opE_bd _ o p) (opE_bd _ o p)
end Go.Proofs.YtilkjfmgjldmoaaDoor

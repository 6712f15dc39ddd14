import Derived.Test.YtogphdflgcdiiaaGreatDoorMbw
/-
  ScalarTells at any three texts, if scalar answers as the document says.
-/
namespace Go.Proofs.YtogphdflgcdiiaaGreatDoor
set_option linter.unusedVariables false
set_option linter.unusedSimpArgs false
open Go.RowKit

set_option maxRecDepth 10000 in
set_option maxHeartbeats 6400000 in
theorem stells_main (op a b x z : ByteArray) (e f : Int) (wh : Bool) (w : World) (hw : SC w) (HU : ShownIs) (za : ¬ 200 < (a.size : Int)) (zb : ¬ 200 < (b.size : Int)) (H1 : DyIs op a b x e) (H2 : RDyIs op a b x e) (H3 : MnIs op a z f) (H4 : RMnIs op a z f) (H5 : WhIs op wh) (H6 : RWhIs op wh) (ge : 0 ≤ e ∧ e ≤ 8) (gf : 0 ≤ f ∧ f ≤ 8) : Calls Tryz.prog 3 #[.string op, .string a, .string b] w (TrueEnd w) := by
  have KU := Lib.hid HU
  have K1 := Lib.hid H1
  have K2 := Lib.hid H2
  have K3 := Lib.hid H3
  have K4 := Lib.hid H4
  have K5 := Lib.hid H5
  have K6 := Lib.hid H6
  clear HU H1 H2 H3 H4 H5 H6
  go_enter Tryz.func3, Tryz.ntmps3
  go_wp2_with fail
  refine (KU.out _ hw).mono ?_
  rintro e w1 ⟨rfl, hb⟩
  go_wp2_with fail
  refine (K1.out _ (hw.below hb)).mono ?_
  rintro e w2 ⟨rfl, hq⟩
  replace hb := hb.trans (hq.mono hb.size)
  clear hq
  go_wp2_with fail
  refine (K2.out _).mono ?_
  rintro e w3 ⟨rfl, hq⟩
  replace hb := hb.trans (hq.mono hb.size)
  clear hq
  go_wp2_with fail
  refine (K3.out _ (hw.below hb)).mono ?_
  rintro e w4 ⟨rfl, hq⟩
  replace hb := hb.trans (hq.mono hb.size)
  clear hq
  go_wp2_with fail
  refine (K4.out _).mono ?_
  rintro e w5 ⟨rfl, hq⟩
  replace hb := hb.trans (hq.mono hb.size)
  clear hq
  go_wp2_with fail
  refine (K5.out _ (hw.below hb)).mono ?_
  rintro e w6 ⟨rfl, hq⟩
  replace hb := hb.trans (hq.mono hb.size)
  clear hq
  go_wp2_with fail
  refine (K6.out _).mono ?_
  rintro e w7 ⟨rfl, hq⟩
  replace hb := hb.trans (hq.mono hb.size)
  clear hq
  go_wp2_with fail
  go_ret
  exact ⟨rfl, hb⟩
set_option maxRecDepth 10000 in
set_option maxHeartbeats 6400000 in
theorem stells_long (op a b : ByteArray) (w : World) (hw : SC w) (HU : ShownIs) (h : 200 < a.size ∨ 200 < b.size) : Calls Tryz.prog 3 #[.string op, .string a, .string b] w (TrueEnd w) := by
  have KU := Lib.hid HU
  clear HU
  by_cases h1 : 200 < (a.size : Int)
  · clear h
    go_enter Tryz.func3, Tryz.ntmps3
    go_wp2_with fail
    refine (KU.out _ hw).mono ?_
    rintro e w1 ⟨rfl, hb⟩
    go_wp2_with fail
    go_ret
    exact ⟨rfl, hb⟩
  · have h2 : 200 < (b.size : Int) := by omega
    clear h
    go_enter Tryz.func3, Tryz.ntmps3
    go_wp2_with fail
    refine (KU.out _ hw).mono ?_
    rintro e w1 ⟨rfl, hb⟩
    go_wp2_with fail
    go_ret
    exact ⟨rfl, hb⟩
theorem mnO_err (k : Nat) (o : Option Int) : 0 ≤ (mnO k o).2 ∧ (mnO k o).2 ≤ 8 := by
  cases o with
  | none => simp [mnO]
  | some x =>
    simp only [mnO]
    unfold mnI
    split <;> simp
theorem stells_any (H : DyOk) (HM : MnOk) (HW : WhOk) (HU : ShownIs) (op a b : ByteArray) (w : World) (ho : op.size ≤ maxLen) (ha : a.size ≤ maxLen) (hb : b.size ≤ maxLen) (hw : SC w) : Calls Tryz.prog 3 #[.string op, .string a, .string b] w (TrueEnd w) := by
  by_cases hz : 200 < a.size ∨ 200 < b.size
  · exact stells_long op a b w hw HU hz
  obtain ⟨o, h1⟩ := is_ex a ha
  obtain ⟨p, h2⟩ := is_ex b hb
  exact stells_main op a b _ _ _ _ _ w hw HU (by omega) (by omega) (H ho h1 h2) (rDyad_is h1 h2) (HM ho h1) (rMonad_is h1) (HW ho) rWhole_is (dyO_err _ _ _) (mnO_err _ _)
end Go.Proofs.YtogphdflgcdiiaaGreatDoor

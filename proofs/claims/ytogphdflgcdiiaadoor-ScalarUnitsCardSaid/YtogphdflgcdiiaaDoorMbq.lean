import Derived.Test.YtogphdflgcdiiaaDoorMbi
/-
  The statement ScalarMod at any three texts, if scalar answers as the document says.
-/
namespace Go.Proofs.YtogphdflgcdiiaaDoor
set_option linter.unusedVariables false
set_option linter.unusedSimpArgs false
open Go.RowKit

set_option maxRecDepth 10000 in
set_option maxHeartbeats 6400000 in
theorem smod_main (a b m s x p q t y z : ByteArray) (e f e3 e4 g h i : Int) (w : World) (hw : SC w) (HU : ShownIs) (za : ¬ 200 < (a.size : Int)) (zb : ¬ 200 < (b.size : Int)) (zm : ¬ 200 < (m.size : Int)) (HA : MayIs a true) (HB : MayIs b true) (HM : MayIs m true) (h0 : (m.toList == [48]) = false)
    (H1 : DyIs ⟨#[43]⟩ a b s e) (H2 : DyIs ⟨#[33]⟩ s m x f) (H3 : DyIs ⟨#[33]⟩ a m p e3) (H4 : DyIs ⟨#[33]⟩ b m q e4) (H5 : DyIs ⟨#[43]⟩ p q t g) (H6 : DyIs ⟨#[33]⟩ t m y h) (H7 : DyIs ⟨#[33]⟩ m m z i)
    (hf : e ≠ 0 ∨ f ≠ 0 ∨ g ≠ 0 ∨ (h = 0 ∧ x = y)) (hi : i = 0) (hz : z = ⟨#[48]⟩) : Calls Tryd.prog 7 #[.string a, .string b, .string m] w (TrueEnd w) := by
  subst hi hz
  have KU := Lib.hid HU
  have KA := Lib.hid HA
  have KB := Lib.hid HB
  have KM := Lib.hid HM
  have K1 := Lib.hid H1
  have K2 := Lib.hid H2
  have K3 := Lib.hid H3
  have K4 := Lib.hid H4
  have K5 := Lib.hid H5
  have K6 := Lib.hid H6
  have K7 := Lib.hid H7
  clear HU HA HB HM H1 H2 H3 H4 H5 H6 H7
  by_cases he : e = 0
  · subst he
    by_cases hff : f = 0
    · subst hff
      by_cases hg : g = 0
      · subst hg
        obtain ⟨rfl, rfl⟩ : h = 0 ∧ x = y := by simpa using hf
        clear hf
        go_enter Tryd.func7, Tryd.ntmps7
        go_wp2_with fail
        refine (KU.out _ hw).mono ?_
        rintro e w1 ⟨rfl, hb⟩
        go_wp2_with fail
        refine (KA.out _).mono ?_
        rintro e w2 ⟨rfl, rfl⟩
        go_wp2_with fail
        refine (KB.out _).mono ?_
        rintro e w3 ⟨rfl, rfl⟩
        go_wp2_with fail
        refine (KM.out _).mono ?_
        rintro e w4 ⟨rfl, rfl⟩
        go_wp2_with fail
        refine (K1.out _ (hw.below hb)).mono ?_
        rintro e w5 ⟨rfl, hq⟩
        replace hb := hb.trans (hq.mono hb.size)
        clear hq
        go_wp2_with fail
        refine (K2.out _ (hw.below hb)).mono ?_
        rintro e w6 ⟨rfl, hq⟩
        replace hb := hb.trans (hq.mono hb.size)
        clear hq
        go_wp2_with fail
        refine (K3.out _ (hw.below hb)).mono ?_
        rintro e w7 ⟨rfl, hq⟩
        replace hb := hb.trans (hq.mono hb.size)
        clear hq
        go_wp2_with fail
        refine (K4.out _ (hw.below hb)).mono ?_
        rintro e w8 ⟨rfl, hq⟩
        replace hb := hb.trans (hq.mono hb.size)
        clear hq
        go_wp2_with fail
        refine (K5.out _ (hw.below hb)).mono ?_
        rintro e w9 ⟨rfl, hq⟩
        replace hb := hb.trans (hq.mono hb.size)
        clear hq
        go_wp2_with fail
        refine (K6.out _ (hw.below hb)).mono ?_
        rintro e w10 ⟨rfl, hq⟩
        replace hb := hb.trans (hq.mono hb.size)
        clear hq
        go_wp2_with fail
        refine (K7.out _ (hw.below hb)).mono ?_
        rintro e w11 ⟨rfl, hq⟩
        replace hb := hb.trans (hq.mono hb.size)
        clear hq
        go_wp2_with fail
        go_ret
        exact ⟨rfl, hb⟩
      · clear hf
        go_enter Tryd.func7, Tryd.ntmps7
        go_wp2_with fail
        refine (KU.out _ hw).mono ?_
        rintro e w1 ⟨rfl, hb⟩
        go_wp2_with fail
        refine (KA.out _).mono ?_
        rintro e w2 ⟨rfl, rfl⟩
        go_wp2_with fail
        refine (KB.out _).mono ?_
        rintro e w3 ⟨rfl, rfl⟩
        go_wp2_with fail
        refine (KM.out _).mono ?_
        rintro e w4 ⟨rfl, rfl⟩
        go_wp2_with fail
        refine (K1.out _ (hw.below hb)).mono ?_
        rintro e w5 ⟨rfl, hq⟩
        replace hb := hb.trans (hq.mono hb.size)
        clear hq
        go_wp2_with fail
        refine (K2.out _ (hw.below hb)).mono ?_
        rintro e w6 ⟨rfl, hq⟩
        replace hb := hb.trans (hq.mono hb.size)
        clear hq
        go_wp2_with fail
        refine (K3.out _ (hw.below hb)).mono ?_
        rintro e w7 ⟨rfl, hq⟩
        replace hb := hb.trans (hq.mono hb.size)
        clear hq
        go_wp2_with fail
        refine (K4.out _ (hw.below hb)).mono ?_
        rintro e w8 ⟨rfl, hq⟩
        replace hb := hb.trans (hq.mono hb.size)
        clear hq
        go_wp2_with fail
        refine (K5.out _ (hw.below hb)).mono ?_
        rintro e w9 ⟨rfl, hq⟩
        replace hb := hb.trans (hq.mono hb.size)
        clear hq
        go_wp2_with fail
        refine (K6.out _ (hw.below hb)).mono ?_
        rintro e w10 ⟨rfl, hq⟩
        replace hb := hb.trans (hq.mono hb.size)
        clear hq
        go_wp2_with fail
        refine (K7.out _ (hw.below hb)).mono ?_
        rintro e w11 ⟨rfl, hq⟩
        replace hb := hb.trans (hq.mono hb.size)
        clear hq
        go_wp2_with fail
        go_ret
        exact ⟨rfl, hb⟩
    · clear hf
      go_enter Tryd.func7, Tryd.ntmps7
      go_wp2_with fail
      refine (KU.out _ hw).mono ?_
      rintro e w1 ⟨rfl, hb⟩
      go_wp2_with fail
      refine (KA.out _).mono ?_
      rintro e w2 ⟨rfl, rfl⟩
      go_wp2_with fail
      refine (KB.out _).mono ?_
      rintro e w3 ⟨rfl, rfl⟩
      go_wp2_with fail
      refine (KM.out _).mono ?_
      rintro e w4 ⟨rfl, rfl⟩
      go_wp2_with fail
      refine (K1.out _ (hw.below hb)).mono ?_
      rintro e w5 ⟨rfl, hq⟩
      replace hb := hb.trans (hq.mono hb.size)
      clear hq
      go_wp2_with fail
      refine (K2.out _ (hw.below hb)).mono ?_
      rintro e w6 ⟨rfl, hq⟩
      replace hb := hb.trans (hq.mono hb.size)
      clear hq
      go_wp2_with fail
      refine (K3.out _ (hw.below hb)).mono ?_
      rintro e w7 ⟨rfl, hq⟩
      replace hb := hb.trans (hq.mono hb.size)
      clear hq
      go_wp2_with fail
      refine (K4.out _ (hw.below hb)).mono ?_
      rintro e w8 ⟨rfl, hq⟩
      replace hb := hb.trans (hq.mono hb.size)
      clear hq
      go_wp2_with fail
      refine (K5.out _ (hw.below hb)).mono ?_
      rintro e w9 ⟨rfl, hq⟩
      replace hb := hb.trans (hq.mono hb.size)
      clear hq
      go_wp2_with fail
      refine (K6.out _ (hw.below hb)).mono ?_
      rintro e w10 ⟨rfl, hq⟩
      replace hb := hb.trans (hq.mono hb.size)
      clear hq
      go_wp2_with fail
      refine (K7.out _ (hw.below hb)).mono ?_
      rintro e w11 ⟨rfl, hq⟩
      replace hb := hb.trans (hq.mono hb.size)
      clear hq
      go_wp2_with fail
      go_ret
      exact ⟨rfl, hb⟩
  · clear hf
    go_enter Tryd.func7, Tryd.ntmps7
    go_wp2_with fail
    refine (KU.out _ hw).mono ?_
    rintro e w1 ⟨rfl, hb⟩
    go_wp2_with fail
    refine (KA.out _).mono ?_
    rintro e w2 ⟨rfl, rfl⟩
    go_wp2_with fail
    refine (KB.out _).mono ?_
    rintro e w3 ⟨rfl, rfl⟩
    go_wp2_with fail
    refine (KM.out _).mono ?_
    rintro e w4 ⟨rfl, rfl⟩
    go_wp2_with fail
    refine (K1.out _ (hw.below hb)).mono ?_
    rintro e w5 ⟨rfl, hq⟩
    replace hb := hb.trans (hq.mono hb.size)
    clear hq
    go_wp2_with fail
    refine (K2.out _ (hw.below hb)).mono ?_
    rintro e w6 ⟨rfl, hq⟩
    replace hb := hb.trans (hq.mono hb.size)
    clear hq
    go_wp2_with fail
    refine (K3.out _ (hw.below hb)).mono ?_
    rintro e w7 ⟨rfl, hq⟩
    replace hb := hb.trans (hq.mono hb.size)
    clear hq
    go_wp2_with fail
    refine (K4.out _ (hw.below hb)).mono ?_
    rintro e w8 ⟨rfl, hq⟩
    replace hb := hb.trans (hq.mono hb.size)
    clear hq
    go_wp2_with fail
    refine (K5.out _ (hw.below hb)).mono ?_
    rintro e w9 ⟨rfl, hq⟩
    replace hb := hb.trans (hq.mono hb.size)
    clear hq
    go_wp2_with fail
    refine (K6.out _ (hw.below hb)).mono ?_
    rintro e w10 ⟨rfl, hq⟩
    replace hb := hb.trans (hq.mono hb.size)
    clear hq
    go_wp2_with fail
    refine (K7.out _ (hw.below hb)).mono ?_
    rintro e w11 ⟨rfl, hq⟩
    replace hb := hb.trans (hq.mono hb.size)
    clear hq
    go_wp2_with fail
    go_ret
    exact ⟨rfl, hb⟩
end Go.Proofs.YtogphdflgcdiiaaDoor

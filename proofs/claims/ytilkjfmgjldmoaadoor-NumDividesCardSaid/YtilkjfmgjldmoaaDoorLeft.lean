import Derived.Test.YtilkjfmgjldmoaaDoorLaws2
namespace Go.Proofs.YtilkjfmgjldmoaaDoor
open Go.RowKit

def DivIs (a b d : ByteArray) (ec : Int) : Prop := ∀ w, Tab w → Calls Tryd.prog 17 #[.string a, .string b] w fun e w' => e = .returned (.tuple #[.string d, .int .i64 ec]) ∧ Below w.heap.size w w'
def ModIs (a b d : ByteArray) (ec : Int) : Prop := ∀ w, Tab w → Calls Tryd.prog 19 #[.string a, .string b] w fun e w' => e = .returned (.tuple #[.string d, .int .i64 ec]) ∧ Below w.heap.size w w'

set_option maxRecDepth 10000 in
set_option maxHeartbeats 12800000 in
theorem left_main (a b q r p s : ByteArray) (G H C0 C1 sg : Int) (w : World) (htab : Tab w) (HF : FewIs a b true) (HA : MayIs a true) (HB : MayIs b true)
    (H1 : DivIs a b q 0) (H2 : ModIs a b r 0) (H3 : MulIs q b p G) (H4 : AddIs p r s H) (H5 : CmpIs r ⟨#[48]⟩ C0) (H6 : CmpIs r b C1) (H7 : SignIs b sg)
    (hb0 : (b.toList == [48]) = false) (hG : G = 0 → H = 0 ∧ s = a) (hs : (sg = 1 ∧ C1 = -1 ∧ (C0 = 0 ∨ C0 = 1)) ∨ (sg = -1 ∧ C1 = 1 ∧ (C0 = 0 ∨ C0 = -1))) :
    Calls Tryd.prog 7 #[.string a, .string b] w (TrueEnd w) := by
  have KF := Lib.hid HF
  have KA := Lib.hid HA
  have KB := Lib.hid HB
  have K1 := Lib.hid H1
  have K2 := Lib.hid H2
  have K3 := Lib.hid H3
  have K4 := Lib.hid H4
  have K5 := Lib.hid H5
  have K6 := Lib.hid H6
  have K7 := Lib.hid H7
  have KG := Lib.hid hG
  have KS := Lib.hid hs
  clear HF HA HB H1 H2 H3 H4 H5 H6 H7 hG hs
  go_enter Tryd.func7, Tryd.ntmps7
  go_wp2_with fail
  refine (shown_any _ htab).mono ?_
  rintro e w1 ⟨rfl, hb1⟩
  go_wp2_with fail
  refine (KF.out _).mono ?_
  rintro e w2 ⟨rfl, rfl⟩
  go_wp2_with fail
  refine (KA.out _).mono ?_
  rintro e w2 ⟨rfl, rfl⟩
  go_wp2_with fail
  refine (KB.out _).mono ?_
  rintro e w2 ⟨rfl, rfl⟩
  go_wp2_with fail
  refine (K1.out _ (htab.below hb1)).mono ?_
  rintro e w2 ⟨rfl, hq⟩
  have hb2 := hb1.trans (hq.mono hb1.size)
  clear hb1 hq
  go_wp2_with fail
  refine (K2.out _ (htab.below hb2)).mono ?_
  rintro e w3 ⟨rfl, hq⟩
  have hb3 := hb2.trans (hq.mono hb2.size)
  clear hb2 hq
  go_wp2_with fail
  refine (K3.out _ (htab.below hb3)).mono ?_
  rintro e w4 ⟨rfl, hq⟩
  have hb4 := hb3.trans (hq.mono hb3.size)
  clear hb3 hq
  go_wp2_with fail
  refine (K4.out _ (htab.below hb4)).mono ?_
  rintro e w5 ⟨rfl, hq⟩
  have hb5 := hb4.trans (hq.mono hb4.size)
  clear hb4 hq
  have hs := KS.out
  have hG := KG.out
  clear KS KG
  have hg : (G = 0 ∧ H = 0 ∧ s = a) ∨ ¬ G = 0 := by
    by_cases h : G = 0
    · exact .inl ⟨h, hG h⟩
    · exact .inr h
  clear hG
  rcases hs with ⟨rfl, rfl, rfl | rfl⟩ | ⟨rfl, rfl, rfl | rfl⟩
  · rcases hg with ⟨rfl, rfl, rfl⟩ | hg
    · go_wp2_with fail
      refine (K5.out _).mono ?_
      rintro e w6 ⟨rfl, hq⟩
      have hb6 := hb5.trans (hq.mono hb5.size)
      clear hb5 hq
      go_wp2_with fail
      refine (K6.out _).mono ?_
      rintro e w7 ⟨rfl, hq⟩
      have hb7 := hb6.trans (hq.mono hb6.size)
      clear hb6 hq
      go_wp2_with fail
      refine (K7.out _).mono ?_
      rintro e w8 ⟨rfl, hq⟩
      have hb8 := hb7.trans (hq.mono hb7.size)
      clear hb7 hq
      go_wp2_with fail
      go_ret
      exact ⟨rfl, hb8⟩
    · go_wp2_with fail
      refine (K5.out _).mono ?_
      rintro e w6 ⟨rfl, hq⟩
      have hb6 := hb5.trans (hq.mono hb5.size)
      clear hb5 hq
      go_wp2_with fail
      refine (K6.out _).mono ?_
      rintro e w7 ⟨rfl, hq⟩
      have hb7 := hb6.trans (hq.mono hb6.size)
      clear hb6 hq
      go_wp2_with fail
      refine (K7.out _).mono ?_
      rintro e w8 ⟨rfl, hq⟩
      have hb8 := hb7.trans (hq.mono hb7.size)
      clear hb7 hq
      go_wp2_with fail
      go_ret
      exact ⟨rfl, hb8⟩
  · rcases hg with ⟨rfl, rfl, rfl⟩ | hg
    · go_wp2_with fail
      refine (K5.out _).mono ?_
      rintro e w6 ⟨rfl, hq⟩
      have hb6 := hb5.trans (hq.mono hb5.size)
      clear hb5 hq
      go_wp2_with fail
      refine (K6.out _).mono ?_
      rintro e w7 ⟨rfl, hq⟩
      have hb7 := hb6.trans (hq.mono hb6.size)
      clear hb6 hq
      go_wp2_with fail
      refine (K7.out _).mono ?_
      rintro e w8 ⟨rfl, hq⟩
      have hb8 := hb7.trans (hq.mono hb7.size)
      clear hb7 hq
      go_wp2_with fail
      go_ret
      exact ⟨rfl, hb8⟩
    · go_wp2_with fail
      refine (K5.out _).mono ?_
      rintro e w6 ⟨rfl, hq⟩
      have hb6 := hb5.trans (hq.mono hb5.size)
      clear hb5 hq
      go_wp2_with fail
      refine (K6.out _).mono ?_
      rintro e w7 ⟨rfl, hq⟩
      have hb7 := hb6.trans (hq.mono hb6.size)
      clear hb6 hq
      go_wp2_with fail
      refine (K7.out _).mono ?_
      rintro e w8 ⟨rfl, hq⟩
      have hb8 := hb7.trans (hq.mono hb7.size)
      clear hb7 hq
      go_wp2_with fail
      go_ret
      exact ⟨rfl, hb8⟩
  · rcases hg with ⟨rfl, rfl, rfl⟩ | hg
    · go_wp2_with fail
      refine (K5.out _).mono ?_
      rintro e w6 ⟨rfl, hq⟩
      have hb6 := hb5.trans (hq.mono hb5.size)
      clear hb5 hq
      go_wp2_with fail
      refine (K6.out _).mono ?_
      rintro e w7 ⟨rfl, hq⟩
      have hb7 := hb6.trans (hq.mono hb6.size)
      clear hb6 hq
      go_wp2_with fail
      refine (K7.out _).mono ?_
      rintro e w8 ⟨rfl, hq⟩
      have hb8 := hb7.trans (hq.mono hb7.size)
      clear hb7 hq
      go_wp2_with fail
      refine (K5.out _).mono ?_
      rintro e w9 ⟨rfl, hq⟩
      have hb9 := hb8.trans (hq.mono hb8.size)
      clear hb8 hq
      go_wp2_with fail
      refine (K6.out _).mono ?_
      rintro e w10 ⟨rfl, hq⟩
      have hb10 := hb9.trans (hq.mono hb9.size)
      clear hb9 hq
      go_wp2_with fail
      go_ret
      exact ⟨rfl, hb10⟩
    · go_wp2_with fail
      refine (K5.out _).mono ?_
      rintro e w6 ⟨rfl, hq⟩
      have hb6 := hb5.trans (hq.mono hb5.size)
      clear hb5 hq
      go_wp2_with fail
      refine (K6.out _).mono ?_
      rintro e w7 ⟨rfl, hq⟩
      have hb7 := hb6.trans (hq.mono hb6.size)
      clear hb6 hq
      go_wp2_with fail
      refine (K7.out _).mono ?_
      rintro e w8 ⟨rfl, hq⟩
      have hb8 := hb7.trans (hq.mono hb7.size)
      clear hb7 hq
      go_wp2_with fail
      refine (K5.out _).mono ?_
      rintro e w9 ⟨rfl, hq⟩
      have hb9 := hb8.trans (hq.mono hb8.size)
      clear hb8 hq
      go_wp2_with fail
      refine (K6.out _).mono ?_
      rintro e w10 ⟨rfl, hq⟩
      have hb10 := hb9.trans (hq.mono hb9.size)
      clear hb9 hq
      go_wp2_with fail
      go_ret
      exact ⟨rfl, hb10⟩
  · rcases hg with ⟨rfl, rfl, rfl⟩ | hg
    · go_wp2_with fail
      refine (K5.out _).mono ?_
      rintro e w6 ⟨rfl, hq⟩
      have hb6 := hb5.trans (hq.mono hb5.size)
      clear hb5 hq
      go_wp2_with fail
      refine (K7.out _).mono ?_
      rintro e w7 ⟨rfl, hq⟩
      have hb7 := hb6.trans (hq.mono hb6.size)
      clear hb6 hq
      go_wp2_with fail
      refine (K5.out _).mono ?_
      rintro e w8 ⟨rfl, hq⟩
      have hb8 := hb7.trans (hq.mono hb7.size)
      clear hb7 hq
      go_wp2_with fail
      refine (K6.out _).mono ?_
      rintro e w9 ⟨rfl, hq⟩
      have hb9 := hb8.trans (hq.mono hb8.size)
      clear hb8 hq
      go_wp2_with fail
      go_ret
      exact ⟨rfl, hb9⟩
    · go_wp2_with fail
      refine (K5.out _).mono ?_
      rintro e w6 ⟨rfl, hq⟩
      have hb6 := hb5.trans (hq.mono hb5.size)
      clear hb5 hq
      go_wp2_with fail
      refine (K7.out _).mono ?_
      rintro e w7 ⟨rfl, hq⟩
      have hb7 := hb6.trans (hq.mono hb6.size)
      clear hb6 hq
      go_wp2_with fail
      refine (K5.out _).mono ?_
      rintro e w8 ⟨rfl, hq⟩
      have hb8 := hb7.trans (hq.mono hb7.size)
      clear hb7 hq
      go_wp2_with fail
      refine (K6.out _).mono ?_
      rintro e w9 ⟨rfl, hq⟩
      have hb9 := hb8.trans (hq.mono hb8.size)
      clear hb8 hq
      go_wp2_with fail
      go_ret
      exact ⟨rfl, hb9⟩
end Go.Proofs.YtilkjfmgjldmoaaDoor

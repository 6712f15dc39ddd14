import Derived.Test.YtogphdflgcdiiaaDoorMbr
/-
  ScalarOrder at any two texts, if scalar answers as the document says.
-/
namespace Go.Proofs.YtogphdflgcdiiaaDoor
set_option linter.unusedVariables false
set_option linter.unusedSimpArgs false
open Go.RowKit

set_option maxRecDepth 10000 in
set_option maxHeartbeats 6400000 in
theorem order_below (a b l g e n lo hi : ByteArray) (e1 e2 e3 e4 e5 e6 c : Int) (w : World) (hw : SC w) (HU : ShownIs) (za : ¬ 200 < (a.size : Int)) (zb : ¬ 200 < (b.size : Int)) (HA : MayIs a true) (HB : MayIs b true) (H1 : DyIs ⟨#[60]⟩ a b l e1) (H2 : DyIs ⟨#[62]⟩ a b g e2) (H3 : DyIs ⟨#[61]⟩ a b e e3) (H4 : DyIs ⟨#[126]⟩ a b n e4) (H5 : DyIs ⟨#[38]⟩ a b lo e5) (H6 : DyIs ⟨#[124]⟩ a b hi e6) (HC : CmpIs lo hi c) (hc : c ≤ 0)
    (hf : l = ⟨#[49]⟩ ∧ g = ⟨#[48]⟩ ∧ e = ⟨#[48]⟩ ∧ n = ⟨#[49]⟩) (hs : (lo = a ∧ hi = b) ∨ ((b.toList == a.toList) = false ∧ lo = b ∧ hi = a)) : Calls Tryd.prog 3 #[.string a, .string b] w (TrueEnd w) := by
  obtain ⟨rfl, rfl, rfl, rfl⟩ := hf
  have KU := Lib.hid HU
  have KA := Lib.hid HA
  have KB := Lib.hid HB
  have K1 := Lib.hid H1
  have K2 := Lib.hid H2
  have K3 := Lib.hid H3
  have K4 := Lib.hid H4
  have K5 := Lib.hid H5
  have K6 := Lib.hid H6
  have KC := Lib.hid HC
  clear HU HA HB H1 H2 H3 H4 H5 H6 HC
  have hone : ((⟨#[49]⟩ : ByteArray) ++ ⟨#[48]⟩ ++ ⟨#[48]⟩).toList = [49, 48, 48] := by rw [str_tl]; decide
  rcases hs with ⟨rfl, rfl⟩ | ⟨hs, rfl, rfl⟩
  · go_enter Tryd.func3, Tryd.ntmps3
    go_wp2_with fail
    refine (KU.out _ hw).mono ?_
    rintro e w1 ⟨rfl, hb⟩
    go_wp2_with fail
    refine (KA.out _).mono ?_
    rintro e w2 ⟨rfl, rfl⟩
    go_wp2_with fail
    refine (KB.out _).mono ?_
    rintro e w3 ⟨rfl, rfl⟩
    go_wp2_with fail
    refine (K1.out _ (hw.below hb)).mono ?_
    rintro e w4 ⟨rfl, hq⟩
    replace hb := hb.trans (hq.mono hb.size)
    clear hq
    go_wp2_with fail
    refine (K2.out _ (hw.below hb)).mono ?_
    rintro e w5 ⟨rfl, hq⟩
    replace hb := hb.trans (hq.mono hb.size)
    clear hq
    go_wp2_with fail
    refine (K3.out _ (hw.below hb)).mono ?_
    rintro e w6 ⟨rfl, hq⟩
    replace hb := hb.trans (hq.mono hb.size)
    clear hq
    go_wp2_with fail
    refine (K4.out _ (hw.below hb)).mono ?_
    rintro e w7 ⟨rfl, hq⟩
    replace hb := hb.trans (hq.mono hb.size)
    clear hq
    go_wp2_with fail
    refine (K5.out _ (hw.below hb)).mono ?_
    rintro e w8 ⟨rfl, hq⟩
    replace hb := hb.trans (hq.mono hb.size)
    clear hq
    go_wp2_with fail
    refine (K6.out _ (hw.below hb)).mono ?_
    rintro e w9 ⟨rfl, hq⟩
    replace hb := hb.trans (hq.mono hb.size)
    clear hq
    go_wp2_with fail
    refine (KC.out _).mono ?_
    rintro e w10 ⟨rfl, hq⟩
    replace hb := hb.trans (hq.mono hb.size)
    clear hq
    go_wp2_with fail
    go_ret
    exact ⟨rfl, hb⟩
  · go_enter Tryd.func3, Tryd.ntmps3
    go_wp2_with fail
    refine (KU.out _ hw).mono ?_
    rintro e w1 ⟨rfl, hb⟩
    go_wp2_with fail
    refine (KA.out _).mono ?_
    rintro e w2 ⟨rfl, rfl⟩
    go_wp2_with fail
    refine (KB.out _).mono ?_
    rintro e w3 ⟨rfl, rfl⟩
    go_wp2_with fail
    refine (K1.out _ (hw.below hb)).mono ?_
    rintro e w4 ⟨rfl, hq⟩
    replace hb := hb.trans (hq.mono hb.size)
    clear hq
    go_wp2_with fail
    refine (K2.out _ (hw.below hb)).mono ?_
    rintro e w5 ⟨rfl, hq⟩
    replace hb := hb.trans (hq.mono hb.size)
    clear hq
    go_wp2_with fail
    refine (K3.out _ (hw.below hb)).mono ?_
    rintro e w6 ⟨rfl, hq⟩
    replace hb := hb.trans (hq.mono hb.size)
    clear hq
    go_wp2_with fail
    refine (K4.out _ (hw.below hb)).mono ?_
    rintro e w7 ⟨rfl, hq⟩
    replace hb := hb.trans (hq.mono hb.size)
    clear hq
    go_wp2_with fail
    refine (K5.out _ (hw.below hb)).mono ?_
    rintro e w8 ⟨rfl, hq⟩
    replace hb := hb.trans (hq.mono hb.size)
    clear hq
    go_wp2_with fail
    refine (K6.out _ (hw.below hb)).mono ?_
    rintro e w9 ⟨rfl, hq⟩
    replace hb := hb.trans (hq.mono hb.size)
    clear hq
    go_wp2_with fail
    refine (KC.out _).mono ?_
    rintro e w10 ⟨rfl, hq⟩
    replace hb := hb.trans (hq.mono hb.size)
    clear hq
    go_wp2_with fail
    go_ret
    exact ⟨rfl, hb⟩
set_option maxRecDepth 10000 in
set_option maxHeartbeats 6400000 in
theorem order_above (a b l g e n lo hi : ByteArray) (e1 e2 e3 e4 e5 e6 c : Int) (w : World) (hw : SC w) (HU : ShownIs) (za : ¬ 200 < (a.size : Int)) (zb : ¬ 200 < (b.size : Int)) (HA : MayIs a true) (HB : MayIs b true) (H1 : DyIs ⟨#[60]⟩ a b l e1) (H2 : DyIs ⟨#[62]⟩ a b g e2) (H3 : DyIs ⟨#[61]⟩ a b e e3) (H4 : DyIs ⟨#[126]⟩ a b n e4) (H5 : DyIs ⟨#[38]⟩ a b lo e5) (H6 : DyIs ⟨#[124]⟩ a b hi e6) (HC : CmpIs lo hi c) (hc : c ≤ 0)
    (hf : l = ⟨#[48]⟩ ∧ g = ⟨#[49]⟩ ∧ e = ⟨#[48]⟩ ∧ n = ⟨#[49]⟩) (hs : (lo = a ∧ hi = b) ∨ ((b.toList == a.toList) = false ∧ lo = b ∧ hi = a)) : Calls Tryd.prog 3 #[.string a, .string b] w (TrueEnd w) := by
  obtain ⟨rfl, rfl, rfl, rfl⟩ := hf
  have KU := Lib.hid HU
  have KA := Lib.hid HA
  have KB := Lib.hid HB
  have K1 := Lib.hid H1
  have K2 := Lib.hid H2
  have K3 := Lib.hid H3
  have K4 := Lib.hid H4
  have K5 := Lib.hid H5
  have K6 := Lib.hid H6
  have KC := Lib.hid HC
  clear HU HA HB H1 H2 H3 H4 H5 H6 HC
  have hone : ((⟨#[48]⟩ : ByteArray) ++ ⟨#[49]⟩ ++ ⟨#[48]⟩).toList = [48, 49, 48] := by rw [str_tl]; decide
  rcases hs with ⟨rfl, rfl⟩ | ⟨hs, rfl, rfl⟩
  · go_enter Tryd.func3, Tryd.ntmps3
    go_wp2_with fail
    refine (KU.out _ hw).mono ?_
    rintro e w1 ⟨rfl, hb⟩
    go_wp2_with fail
    refine (KA.out _).mono ?_
    rintro e w2 ⟨rfl, rfl⟩
    go_wp2_with fail
    refine (KB.out _).mono ?_
    rintro e w3 ⟨rfl, rfl⟩
    go_wp2_with fail
    refine (K1.out _ (hw.below hb)).mono ?_
    rintro e w4 ⟨rfl, hq⟩
    replace hb := hb.trans (hq.mono hb.size)
    clear hq
    go_wp2_with fail
    refine (K2.out _ (hw.below hb)).mono ?_
    rintro e w5 ⟨rfl, hq⟩
    replace hb := hb.trans (hq.mono hb.size)
    clear hq
    go_wp2_with fail
    refine (K3.out _ (hw.below hb)).mono ?_
    rintro e w6 ⟨rfl, hq⟩
    replace hb := hb.trans (hq.mono hb.size)
    clear hq
    go_wp2_with fail
    refine (K4.out _ (hw.below hb)).mono ?_
    rintro e w7 ⟨rfl, hq⟩
    replace hb := hb.trans (hq.mono hb.size)
    clear hq
    go_wp2_with fail
    refine (K5.out _ (hw.below hb)).mono ?_
    rintro e w8 ⟨rfl, hq⟩
    replace hb := hb.trans (hq.mono hb.size)
    clear hq
    go_wp2_with fail
    refine (K6.out _ (hw.below hb)).mono ?_
    rintro e w9 ⟨rfl, hq⟩
    replace hb := hb.trans (hq.mono hb.size)
    clear hq
    go_wp2_with fail
    refine (KC.out _).mono ?_
    rintro e w10 ⟨rfl, hq⟩
    replace hb := hb.trans (hq.mono hb.size)
    clear hq
    go_wp2_with fail
    go_ret
    exact ⟨rfl, hb⟩
  · go_enter Tryd.func3, Tryd.ntmps3
    go_wp2_with fail
    refine (KU.out _ hw).mono ?_
    rintro e w1 ⟨rfl, hb⟩
    go_wp2_with fail
    refine (KA.out _).mono ?_
    rintro e w2 ⟨rfl, rfl⟩
    go_wp2_with fail
    refine (KB.out _).mono ?_
    rintro e w3 ⟨rfl, rfl⟩
    go_wp2_with fail
    refine (K1.out _ (hw.below hb)).mono ?_
    rintro e w4 ⟨rfl, hq⟩
    replace hb := hb.trans (hq.mono hb.size)
    clear hq
    go_wp2_with fail
    refine (K2.out _ (hw.below hb)).mono ?_
    rintro e w5 ⟨rfl, hq⟩
    replace hb := hb.trans (hq.mono hb.size)
    clear hq
    go_wp2_with fail
    refine (K3.out _ (hw.below hb)).mono ?_
    rintro e w6 ⟨rfl, hq⟩
    replace hb := hb.trans (hq.mono hb.size)
    clear hq
    go_wp2_with fail
    refine (K4.out _ (hw.below hb)).mono ?_
    rintro e w7 ⟨rfl, hq⟩
    replace hb := hb.trans (hq.mono hb.size)
    clear hq
    go_wp2_with fail
    refine (K5.out _ (hw.below hb)).mono ?_
    rintro e w8 ⟨rfl, hq⟩
    replace hb := hb.trans (hq.mono hb.size)
    clear hq
    go_wp2_with fail
    refine (K6.out _ (hw.below hb)).mono ?_
    rintro e w9 ⟨rfl, hq⟩
    replace hb := hb.trans (hq.mono hb.size)
    clear hq
    go_wp2_with fail
    refine (KC.out _).mono ?_
    rintro e w10 ⟨rfl, hq⟩
    replace hb := hb.trans (hq.mono hb.size)
    clear hq
    go_wp2_with fail
    go_ret
    exact ⟨rfl, hb⟩
set_option maxRecDepth 10000 in
set_option maxHeartbeats 6400000 in
theorem order_same (a b l g e n lo hi : ByteArray) (e1 e2 e3 e4 e5 e6 c : Int) (w : World) (hw : SC w) (HU : ShownIs) (za : ¬ 200 < (a.size : Int)) (zb : ¬ 200 < (b.size : Int)) (HA : MayIs a true) (HB : MayIs b true) (H1 : DyIs ⟨#[60]⟩ a b l e1) (H2 : DyIs ⟨#[62]⟩ a b g e2) (H3 : DyIs ⟨#[61]⟩ a b e e3) (H4 : DyIs ⟨#[126]⟩ a b n e4) (H5 : DyIs ⟨#[38]⟩ a b lo e5) (H6 : DyIs ⟨#[124]⟩ a b hi e6) (HC : CmpIs lo hi c) (hc : c ≤ 0)
    (hf : l = ⟨#[48]⟩ ∧ g = ⟨#[48]⟩ ∧ e = ⟨#[49]⟩ ∧ n = ⟨#[48]⟩) (hs : (lo = a ∧ hi = b) ∨ ((b.toList == a.toList) = false ∧ lo = b ∧ hi = a)) : Calls Tryd.prog 3 #[.string a, .string b] w (TrueEnd w) := by
  obtain ⟨rfl, rfl, rfl, rfl⟩ := hf
  have KU := Lib.hid HU
  have KA := Lib.hid HA
  have KB := Lib.hid HB
  have K1 := Lib.hid H1
  have K2 := Lib.hid H2
  have K3 := Lib.hid H3
  have K4 := Lib.hid H4
  have K5 := Lib.hid H5
  have K6 := Lib.hid H6
  have KC := Lib.hid HC
  clear HU HA HB H1 H2 H3 H4 H5 H6 HC
  have hone : ((⟨#[48]⟩ : ByteArray) ++ ⟨#[48]⟩ ++ ⟨#[49]⟩).toList = [48, 48, 49] := by rw [str_tl]; decide
  rcases hs with ⟨rfl, rfl⟩ | ⟨hs, rfl, rfl⟩
  · go_enter Tryd.func3, Tryd.ntmps3
    go_wp2_with fail
    refine (KU.out _ hw).mono ?_
    rintro e w1 ⟨rfl, hb⟩
    go_wp2_with fail
    refine (KA.out _).mono ?_
    rintro e w2 ⟨rfl, rfl⟩
    go_wp2_with fail
    refine (KB.out _).mono ?_
    rintro e w3 ⟨rfl, rfl⟩
    go_wp2_with fail
    refine (K1.out _ (hw.below hb)).mono ?_
    rintro e w4 ⟨rfl, hq⟩
    replace hb := hb.trans (hq.mono hb.size)
    clear hq
    go_wp2_with fail
    refine (K2.out _ (hw.below hb)).mono ?_
    rintro e w5 ⟨rfl, hq⟩
    replace hb := hb.trans (hq.mono hb.size)
    clear hq
    go_wp2_with fail
    refine (K3.out _ (hw.below hb)).mono ?_
    rintro e w6 ⟨rfl, hq⟩
    replace hb := hb.trans (hq.mono hb.size)
    clear hq
    go_wp2_with fail
    refine (K4.out _ (hw.below hb)).mono ?_
    rintro e w7 ⟨rfl, hq⟩
    replace hb := hb.trans (hq.mono hb.size)
    clear hq
    go_wp2_with fail
    refine (K5.out _ (hw.below hb)).mono ?_
    rintro e w8 ⟨rfl, hq⟩
    replace hb := hb.trans (hq.mono hb.size)
    clear hq
    go_wp2_with fail
    refine (K6.out _ (hw.below hb)).mono ?_
    rintro e w9 ⟨rfl, hq⟩
    replace hb := hb.trans (hq.mono hb.size)
    clear hq
    go_wp2_with fail
    refine (KC.out _).mono ?_
    rintro e w10 ⟨rfl, hq⟩
    replace hb := hb.trans (hq.mono hb.size)
    clear hq
    go_wp2_with fail
    go_ret
    exact ⟨rfl, hb⟩
  · go_enter Tryd.func3, Tryd.ntmps3
    go_wp2_with fail
    refine (KU.out _ hw).mono ?_
    rintro e w1 ⟨rfl, hb⟩
    go_wp2_with fail
    refine (KA.out _).mono ?_
    rintro e w2 ⟨rfl, rfl⟩
    go_wp2_with fail
    refine (KB.out _).mono ?_
    rintro e w3 ⟨rfl, rfl⟩
    go_wp2_with fail
    refine (K1.out _ (hw.below hb)).mono ?_
    rintro e w4 ⟨rfl, hq⟩
    replace hb := hb.trans (hq.mono hb.size)
    clear hq
    go_wp2_with fail
    refine (K2.out _ (hw.below hb)).mono ?_
    rintro e w5 ⟨rfl, hq⟩
    replace hb := hb.trans (hq.mono hb.size)
    clear hq
    go_wp2_with fail
    refine (K3.out _ (hw.below hb)).mono ?_
    rintro e w6 ⟨rfl, hq⟩
    replace hb := hb.trans (hq.mono hb.size)
    clear hq
    go_wp2_with fail
    refine (K4.out _ (hw.below hb)).mono ?_
    rintro e w7 ⟨rfl, hq⟩
    replace hb := hb.trans (hq.mono hb.size)
    clear hq
    go_wp2_with fail
    refine (K5.out _ (hw.below hb)).mono ?_
    rintro e w8 ⟨rfl, hq⟩
    replace hb := hb.trans (hq.mono hb.size)
    clear hq
    go_wp2_with fail
    refine (K6.out _ (hw.below hb)).mono ?_
    rintro e w9 ⟨rfl, hq⟩
    replace hb := hb.trans (hq.mono hb.size)
    clear hq
    go_wp2_with fail
    refine (KC.out _).mono ?_
    rintro e w10 ⟨rfl, hq⟩
    replace hb := hb.trans (hq.mono hb.size)
    clear hq
    go_wp2_with fail
    go_ret
    exact ⟨rfl, hb⟩
set_option maxRecDepth 10000 in
set_option maxHeartbeats 6400000 in
theorem order_long (a b : ByteArray) (w : World) (hw : SC w) (HU : ShownIs) (h : 200 < a.size ∨ 200 < b.size) : Calls Tryd.prog 3 #[.string a, .string b] w (TrueEnd w) := by
  have KU := Lib.hid HU
  clear HU
  by_cases h1 : 200 < (a.size : Int)
  · clear h
    go_enter Tryd.func3, Tryd.ntmps3
    go_wp2_with fail
    refine (KU.out _ hw).mono ?_
    rintro e w1 ⟨rfl, hb⟩
    go_wp2_with fail
    go_ret
    exact ⟨rfl, hb⟩
  · have h2 : 200 < (b.size : Int) := by omega
    clear h
    go_enter Tryd.func3, Tryd.ntmps3
    go_wp2_with fail
    refine (KU.out _ hw).mono ?_
    rintro e w1 ⟨rfl, hb⟩
    go_wp2_with fail
    go_ret
    exact ⟨rfl, hb⟩
set_option maxRecDepth 10000 in
set_option maxHeartbeats 6400000 in
theorem order_no (a b : ByteArray) (u v : Bool) (w : World) (hw : SC w) (HU : ShownIs) (za : ¬ 200 < (a.size : Int)) (zb : ¬ 200 < (b.size : Int)) (HA : MayIs a u) (HB : MayIs b v) (hn : (u && v) = false) : Calls Tryd.prog 3 #[.string a, .string b] w (TrueEnd w) := by
  have KU := Lib.hid HU
  have KA := Lib.hid HA
  have KB := Lib.hid HB
  clear HU HA HB
  cases u with
  | false =>
    clear hn
    go_enter Tryd.func3, Tryd.ntmps3
    go_wp2_with fail
    refine (KU.out _ hw).mono ?_
    rintro e w1 ⟨rfl, hb⟩
    go_wp2_with fail
    refine (KA.out _).mono ?_
    rintro e w2 ⟨rfl, rfl⟩
    go_wp2_with fail
    go_ret
    exact ⟨rfl, hb⟩
  | true =>
    cases v with
    | false =>
      clear hn
      go_enter Tryd.func3, Tryd.ntmps3
      go_wp2_with fail
      refine (KU.out _ hw).mono ?_
      rintro e w1 ⟨rfl, hb⟩
      go_wp2_with fail
      refine (KA.out _).mono ?_
      rintro e w2 ⟨rfl, rfl⟩
      go_wp2_with fail
      refine (KB.out _).mono ?_
      rintro e w3 ⟨rfl, rfl⟩
      go_wp2_with fail
      go_ret
      exact ⟨rfl, hb⟩
    | true => exact absurd hn (by decide)
theorem order_any (H : DyOk) (HU : ShownIs) (a b : ByteArray) (w : World) (ha : a.size ≤ maxLen) (hb : b.size ≤ maxLen) (hw : SC w) : Calls Tryd.prog 3 #[.string a, .string b] w (TrueEnd w) := by
  by_cases hz : 200 < a.size ∨ 200 < b.size
  · exact order_long a b w hw HU hz
  have za : ¬ 200 < (a.size : Int) := by omega
  have zb : ¬ 200 < (b.size : Int) := by omega
  obtain ⟨o, ho⟩ := is_ex a ha
  obtain ⟨p, hp⟩ := is_ex b hb
  have MA : MayIs a o.isSome := fun w => May_opt w ho
  have MB : MayIs b p.isSome := fun w => May_opt w hp
  cases hn : (o.isSome && p.isSome)
  · exact order_no a b _ _ w hw HU za zb MA MB hn
  cases o with
  | none => cases hn
  | some x =>
  cases p with
  | none => cases hn
  | some y =>
  obtain ⟨l, g, e, n, lo, hi, h1, h2, h3, h4, h5, h6, hf, hle, hs⟩ := order_law x y
  have g1 := H (op := ⟨#[60]⟩) (by decide) ho hp
  have g2 := H (op := ⟨#[62]⟩) (by decide) ho hp
  have g3 := H (op := ⟨#[61]⟩) (by decide) ho hp
  have g4 := H (op := ⟨#[126]⟩) (by decide) ho hp
  have g5 := H (op := ⟨#[38]⟩) (by decide) ho hp
  have g6 := H (op := ⟨#[124]⟩) (by decide) ho hp
  have i5 := dyO_is (k := 5) ho hp
  have i6 := dyO_is (k := 6) ho hp
  change DyIs _ _ _ (T (dyO 7 (some x) (some y)).1) _ at g1
  change DyIs _ _ _ (T (dyO 8 (some x) (some y)).1) _ at g2
  change DyIs _ _ _ (T (dyO 9 (some x) (some y)).1) _ at g3
  change DyIs _ _ _ (T (dyO 10 (some x) (some y)).1) _ at g4
  change DyIs _ _ _ (T (dyO 5 (some x) (some y)).1) _ at g5
  change DyIs _ _ _ (T (dyO 6 (some x) (some y)).1) _ at g6
  rw [h1] at g1
  rw [h2] at g2
  rw [h3] at g3
  rw [h4] at g4
  rw [h5] at g5 i5
  rw [h6] at g6 i6
  have GC : CmpIs (T (some lo)) (T (some hi)) (cmpI lo hi) := fun w => Cmp_opt w i5 i6
  have hc : cmpI lo hi ≤ 0 := by
    rcases Int.lt_or_eq_of_le hle with h | h
    · unfold cmpI; (repeat' split) <;> omega
    · unfold cmpI; (repeat' split) <;> omega
  have hs' : (T (some lo) = a ∧ T (some hi) = b) ∨ ((b.toList == a.toList) = false ∧ T (some lo) = b ∧ T (some hi) = a) := by
    rcases hs with ⟨rfl, rfl⟩ | ⟨rfl, rfl⟩
    · exact .inl ⟨ho.1.symm, hp.1.symm⟩
    · by_cases hab : lo = hi
      · subst hab; exact .inl ⟨ho.1.symm, hp.1.symm⟩
      · refine .inr ⟨beq_eq_false_iff_ne.2 fun e => hab ?_, hp.1.symm, ho.1.symm⟩
        exact S_inj (by rw [← ho.1, ← hp.1]; exact toList_inj e)
  rcases hf with ⟨rfl, rfl, rfl, rfl⟩ | ⟨rfl, rfl, rfl, rfl⟩ | ⟨rfl, rfl, rfl, rfl⟩
  · exact order_below a b _ _ _ _ _ _ _ _ _ _ _ _ _ w hw HU za zb MA MB g1 g2 g3 g4 g5 g6 GC hc ⟨S_1, S_0, S_0, S_1⟩ hs'
  · exact order_above a b _ _ _ _ _ _ _ _ _ _ _ _ _ w hw HU za zb MA MB g1 g2 g3 g4 g5 g6 GC hc ⟨S_0, S_1, S_0, S_1⟩ hs'
  · exact order_same a b _ _ _ _ _ _ _ _ _ _ _ _ _ w hw HU za zb MA MB g1 g2 g3 g4 g5 g6 GC hc ⟨S_0, S_0, S_1, S_0⟩ hs'
end Go.Proofs.YtogphdflgcdiiaaDoor

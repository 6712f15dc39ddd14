import Derived.Test.YtogphdflgcdiiaaDoorMbq
/-
  ScalarMod at any three texts; ScalarBits at any text, if scalar answers as the document says.
-/
namespace Go.Proofs.YtogphdflgcdiiaaDoor
set_option linter.unusedVariables false
set_option linter.unusedSimpArgs false
open Go.RowKit

set_option maxRecDepth 10000 in
set_option maxHeartbeats 6400000 in
theorem smod_long (a b m : ByteArray) (w : World) (hw : SC w) (HU : ShownIs) (h : 200 < a.size ∨ 200 < b.size ∨ 200 < m.size) : Calls Tryd.prog 7 #[.string a, .string b, .string m] w (TrueEnd w) := by
  have KU := Lib.hid HU
  clear HU
  by_cases h1 : 200 < (a.size : Int)
  · clear h
    go_enter Tryd.func7, Tryd.ntmps7
    go_wp2_with fail
    refine (KU.out _ hw).mono ?_
    rintro e w1 ⟨rfl, hb⟩
    go_wp2_with fail
    go_ret
    exact ⟨rfl, hb⟩
  · by_cases h2 : 200 < (b.size : Int)
    · clear h
      go_enter Tryd.func7, Tryd.ntmps7
      go_wp2_with fail
      refine (KU.out _ hw).mono ?_
      rintro e w1 ⟨rfl, hb⟩
      go_wp2_with fail
      go_ret
      exact ⟨rfl, hb⟩
    · have h3 : 200 < (m.size : Int) := by omega
      clear h
      go_enter Tryd.func7, Tryd.ntmps7
      go_wp2_with fail
      refine (KU.out _ hw).mono ?_
      rintro e w1 ⟨rfl, hb⟩
      go_wp2_with fail
      go_ret
      exact ⟨rfl, hb⟩
set_option maxRecDepth 10000 in
set_option maxHeartbeats 6400000 in
theorem smod_no (a b m : ByteArray) (u v x : Bool) (w : World) (hw : SC w) (HU : ShownIs) (za : ¬ 200 < (a.size : Int)) (zb : ¬ 200 < (b.size : Int)) (zm : ¬ 200 < (m.size : Int)) (HA : MayIs a u) (HB : MayIs b v) (HM : MayIs m x) (hn : (u && (v && x)) = false) : Calls Tryd.prog 7 #[.string a, .string b, .string m] w (TrueEnd w) := by
  have KU := Lib.hid HU
  have KA := Lib.hid HA
  have KB := Lib.hid HB
  have KM := Lib.hid HM
  clear HU HA HB HM
  cases u with
  | false =>
    clear hn
    go_enter Tryd.func7, Tryd.ntmps7
    go_wp2_with fail
    refine (KU.out _ hw).mono ?_
    rintro e w1 ⟨rfl, hb⟩
    go_wp2_with fail
    refine (KA.out _).mono ?_
    rintro e w2 ⟨rfl, rfl⟩
    go_wp2_with fail
    go_ret
    exact ⟨rfl, hb⟩
  | true =>
    cases v with
    | false =>
      clear hn
      go_enter Tryd.func7, Tryd.ntmps7
      go_wp2_with fail
      refine (KU.out _ hw).mono ?_
      rintro e w1 ⟨rfl, hb⟩
      go_wp2_with fail
      refine (KA.out _).mono ?_
      rintro e w2 ⟨rfl, rfl⟩
      go_wp2_with fail
      refine (KB.out _).mono ?_
      rintro e w3 ⟨rfl, rfl⟩
      go_wp2_with fail
      go_ret
      exact ⟨rfl, hb⟩
    | true =>
      cases x with
      | false =>
        clear hn
        go_enter Tryd.func7, Tryd.ntmps7
        go_wp2_with fail
        refine (KU.out _ hw).mono ?_
        rintro e w1 ⟨rfl, hb⟩
        go_wp2_with fail
        refine (KA.out _).mono ?_
        rintro e w2 ⟨rfl, rfl⟩
        go_wp2_with fail
        refine (KB.out _).mono ?_
        rintro e w3 ⟨rfl, rfl⟩
        go_wp2_with fail
        refine (KM.out _).mono ?_
        rintro e w4 ⟨rfl, rfl⟩
        go_wp2_with fail
        go_ret
        exact ⟨rfl, hb⟩
      | true => exact absurd hn (by decide)
set_option maxRecDepth 10000 in
set_option maxHeartbeats 6400000 in
theorem smod_zero (a b m : ByteArray) (w : World) (hw : SC w) (HU : ShownIs) (za : ¬ 200 < (a.size : Int)) (zb : ¬ 200 < (b.size : Int)) (zm : ¬ 200 < (m.size : Int)) (HA : MayIs a true) (HB : MayIs b true) (HM : MayIs m true) (h0 : (m.toList == [48]) = true) : Calls Tryd.prog 7 #[.string a, .string b, .string m] w (TrueEnd w) := by
  have KU := Lib.hid HU
  have KA := Lib.hid HA
  have KB := Lib.hid HB
  have KM := Lib.hid HM
  clear HU HA HB HM
  go_enter Tryd.func7, Tryd.ntmps7
  go_wp2_with fail
  refine (KU.out _ hw).mono ?_
  rintro e w1 ⟨rfl, hb⟩
  go_wp2_with fail
  refine (KA.out _).mono ?_
  rintro e w2 ⟨rfl, rfl⟩
  go_wp2_with fail
  refine (KB.out _).mono ?_
  rintro e w3 ⟨rfl, rfl⟩
  go_wp2_with fail
  refine (KM.out _).mono ?_
  rintro e w4 ⟨rfl, rfl⟩
  go_wp2_with fail
  go_ret
  exact ⟨rfl, hb⟩
theorem is_zero {s : ByteArray} {x : Int} (h : Is s (some x)) : (s.toList == [48]) = decide (x = 0) := by
  by_cases hx : x = 0
  · subst hx
    rw [h.1, S_0, str_tl]; rfl
  · rw [decide_eq_false hx]
    refine beq_eq_false_iff_ne.2 fun e => hx ?_
    have h2 : s = ⟨#[48]⟩ := toList_inj (by rw [e, str_tl])
    exact S_inj (by rw [← h.1, h2, S_0])
theorem smod_any (H : DyOk) (HU : ShownIs) (a b m : ByteArray) (w : World) (ha : a.size ≤ maxLen) (hb : b.size ≤ maxLen) (hm : m.size ≤ maxLen) (hw : SC w) : Calls Tryd.prog 7 #[.string a, .string b, .string m] w (TrueEnd w) := by
  by_cases hz : 200 < a.size ∨ 200 < b.size ∨ 200 < m.size
  · exact smod_long a b m w hw HU hz
  have za : ¬ 200 < (a.size : Int) := by omega
  have zb : ¬ 200 < (b.size : Int) := by omega
  have zm : ¬ 200 < (m.size : Int) := by omega
  obtain ⟨o, ho⟩ := is_ex a ha
  obtain ⟨p, hp⟩ := is_ex b hb
  obtain ⟨q, hq⟩ := is_ex m hm
  have MA : MayIs a o.isSome := fun w => May_opt w ho
  have MB : MayIs b p.isSome := fun w => May_opt w hp
  have MM : MayIs m q.isSome := fun w => May_opt w hq
  cases hn : (o.isSome && (p.isSome && q.isSome))
  · exact smod_no a b m _ _ _ w hw HU za zb zm MA MB MM hn
  cases o with
  | none => cases hn
  | some x =>
  cases p with
  | none => cases hn
  | some y =>
  cases q with
  | none => cases hn
  | some z =>
  by_cases h0 : z = 0
  · exact smod_zero a b m w hw HU za zb zm MA MB MM (by rw [is_zero hq]; exact decide_eq_true h0)
  have hl := mod_law (x := x) (y := y) h0 rfl rfl rfl rfl rfl rfl rfl
  have i1 := dyO_is (k := 0) ho hp
  have i3 := dyO_is (k := 4) ho hq
  have i4 := dyO_is (k := 4) hp hq
  have i5 := dyO_is (k := 0) i3 i4
  refine smod_main a b m _ _ _ _ _ _ _ _ _ _ _ _ _ _ w hw HU za zb zm MA MB MM (by rw [is_zero hq]; exact decide_eq_false h0)
    (H (op := ⟨#[43]⟩) (by decide) ho hp) (H (op := ⟨#[33]⟩) (by decide) i1 hq) (H (op := ⟨#[33]⟩) (by decide) ho hq) (H (op := ⟨#[33]⟩) (by decide) hp hq) (H (op := ⟨#[43]⟩) (by decide) i3 i4) (H (op := ⟨#[33]⟩) (by decide) i5 hq) (H (op := ⟨#[33]⟩) (by decide) hq hq) ?_ hl.2.1 ?_
  · rcases hl.1 with h | h | h | ⟨h, h'⟩
    · exact .inl h
    · exact .inr (.inl h)
    · exact .inr (.inr (.inl h))
    · exact .inr (.inr (.inr ⟨h, congrArg T h'⟩))
  · exact (congrArg T hl.2.2).trans S_0
set_option maxRecDepth 10000 in
set_option maxHeartbeats 6400000 in
theorem bits_main (a n m s q o : ByteArray) (e1 e2 e3 e4 e5 : Int) (w : World) (hw : SC w) (HU : ShownIs) (za : ¬ 200 < (a.size : Int)) (HA : MayIs a true) (H1 : MnIs ⟨#[126]⟩ a n e1) (H2 : MnIs ⟨#[126]⟩ n m e2) (H3 : MnIs ⟨#[42]⟩ a s e3) (H4 : DyIs ⟨#[42]⟩ s s q e4) (H5 : DyIs ⟨#[126]⟩ a ⟨#[48]⟩ o e5)
    (hf : (n = ⟨#[48]⟩ ∧ m = ⟨#[49]⟩) ∨ (n = ⟨#[49]⟩ ∧ m = ⟨#[48]⟩)) (hq : q = m) (ho : o = m) : Calls Tryd.prog 6 #[.string a] w (TrueEnd w) := by
  subst hq ho
  have KU := Lib.hid HU
  have KA := Lib.hid HA
  have K1 := Lib.hid H1
  have K2 := Lib.hid H2
  have K3 := Lib.hid H3
  have K4 := Lib.hid H4
  have K5 := Lib.hid H5
  clear HU HA H1 H2 H3 H4 H5
  rcases hf with ⟨rfl, rfl⟩ | ⟨rfl, rfl⟩
  · go_enter Tryd.func6, Tryd.ntmps6
    go_wp2_with fail
    refine (KU.out _ hw).mono ?_
    rintro e w1 ⟨rfl, hb⟩
    go_wp2_with fail
    refine (KA.out _).mono ?_
    rintro e w2 ⟨rfl, rfl⟩
    go_wp2_with fail
    refine (K1.out _ (hw.below hb)).mono ?_
    rintro e w3 ⟨rfl, hq⟩
    replace hb := hb.trans (hq.mono hb.size)
    clear hq
    go_wp2_with fail
    refine (K2.out _ (hw.below hb)).mono ?_
    rintro e w4 ⟨rfl, hq⟩
    replace hb := hb.trans (hq.mono hb.size)
    clear hq
    go_wp2_with fail
    refine (K3.out _ (hw.below hb)).mono ?_
    rintro e w5 ⟨rfl, hq⟩
    replace hb := hb.trans (hq.mono hb.size)
    clear hq
    go_wp2_with fail
    refine (K4.out _ (hw.below hb)).mono ?_
    rintro e w6 ⟨rfl, hq⟩
    replace hb := hb.trans (hq.mono hb.size)
    clear hq
    go_wp2_with fail
    refine (K5.out _ (hw.below hb)).mono ?_
    rintro e w7 ⟨rfl, hq⟩
    replace hb := hb.trans (hq.mono hb.size)
    clear hq
    go_wp2_with fail
    go_ret
    exact ⟨rfl, hb⟩
  · go_enter Tryd.func6, Tryd.ntmps6
    go_wp2_with fail
    refine (KU.out _ hw).mono ?_
    rintro e w1 ⟨rfl, hb⟩
    go_wp2_with fail
    refine (KA.out _).mono ?_
    rintro e w2 ⟨rfl, rfl⟩
    go_wp2_with fail
    refine (K1.out _ (hw.below hb)).mono ?_
    rintro e w3 ⟨rfl, hq⟩
    replace hb := hb.trans (hq.mono hb.size)
    clear hq
    go_wp2_with fail
    refine (K2.out _ (hw.below hb)).mono ?_
    rintro e w4 ⟨rfl, hq⟩
    replace hb := hb.trans (hq.mono hb.size)
    clear hq
    go_wp2_with fail
    refine (K3.out _ (hw.below hb)).mono ?_
    rintro e w5 ⟨rfl, hq⟩
    replace hb := hb.trans (hq.mono hb.size)
    clear hq
    go_wp2_with fail
    refine (K4.out _ (hw.below hb)).mono ?_
    rintro e w6 ⟨rfl, hq⟩
    replace hb := hb.trans (hq.mono hb.size)
    clear hq
    go_wp2_with fail
    refine (K5.out _ (hw.below hb)).mono ?_
    rintro e w7 ⟨rfl, hq⟩
    replace hb := hb.trans (hq.mono hb.size)
    clear hq
    go_wp2_with fail
    go_ret
    exact ⟨rfl, hb⟩
set_option maxRecDepth 10000 in
set_option maxHeartbeats 6400000 in
theorem bits_no (a : ByteArray) (w : World) (hw : SC w) (HU : ShownIs) (h : ¬ 200 < (a.size : Int) → MayIs a false) : Calls Tryd.prog 6 #[.string a] w (TrueEnd w) := by
  have KU := Lib.hid HU
  clear HU
  by_cases za : 200 < (a.size : Int)
  · clear h
    go_enter Tryd.func6, Tryd.ntmps6
    go_wp2_with fail
    refine (KU.out _ hw).mono ?_
    rintro e w1 ⟨rfl, hb⟩
    go_wp2_with fail
    go_ret
    exact ⟨rfl, hb⟩
  · have KA := Lib.hid (h za)
    clear h
    go_enter Tryd.func6, Tryd.ntmps6
    go_wp2_with fail
    refine (KU.out _ hw).mono ?_
    rintro e w1 ⟨rfl, hb⟩
    go_wp2_with fail
    refine (KA.out _).mono ?_
    rintro e w2 ⟨rfl, rfl⟩
    go_wp2_with fail
    go_ret
    exact ⟨rfl, hb⟩
theorem bits_any (H : DyOk) (HM : MnOk) (HU : ShownIs) (a : ByteArray) (w : World) (ha : a.size ≤ maxLen) (hw : SC w) : Calls Tryd.prog 6 #[.string a] w (TrueEnd w) := by
  obtain ⟨o, ho⟩ := is_ex a ha
  have MA : MayIs a o.isSome := fun w => May_opt w ho
  by_cases za : 200 < (a.size : Int)
  · exact bits_no a w hw HU fun h => absurd za h
  cases o with
  | none => exact bits_no a w hw HU fun _ => MA
  | some x =>
  obtain ⟨n, m, h1, hn, h2, hm, hd, h3, h4, h5⟩ := bits_law x
  have i1 := mnO_is (k := 1) ho
  have i3 := mnO_is (k := 2) ho
  have g2 := HM (op := ⟨#[126]⟩) (by decide) i1
  have g4 := H (op := ⟨#[42]⟩) (by decide) i3 i3
  have g5 := H (op := ⟨#[126]⟩) (by decide) ho (lit_is S_0 (by decide))
  have e1 : T (mnO 1 (some x)).1 = S n := congrArg T h1
  have e2 : T (mnO 1 (mnO 1 (some x)).1).1 = S m := by rw [h1, h2]; rfl
  refine bits_main a _ _ _ _ _ _ _ _ _ _ w hw HU za MA (HM (op := ⟨#[126]⟩) (by decide) ho) g2 (HM (op := ⟨#[42]⟩) (by decide) ho) g4 g5 ?_ ?_ ?_
  · show (T (mnO 1 (some x)).1 = _ ∧ T (mnO 1 (mnO 1 (some x)).1).1 = _) ∨ (T (mnO 1 (some x)).1 = _ ∧ T (mnO 1 (mnO 1 (some x)).1).1 = _)
    rw [e1, e2]
    rcases hn with rfl | rfl <;> rcases hm with rfl | rfl
    · exact absurd rfl hd
    · exact .inl ⟨S_0, S_1⟩
    · exact .inr ⟨S_1, S_0⟩
    · exact absurd rfl hd
  · show T (dyO 2 (mnO 2 (some x)).1 (mnO 2 (some x)).1).1 = T (mnO 1 (mnO 1 (some x)).1).1
    rw [e2, h3, h4]; rfl
  · show T (dyO 10 (some x) (some 0)).1 = T (mnO 1 (mnO 1 (some x)).1).1
    rw [e2, h5]; rfl
end Go.Proofs.YtogphdflgcdiiaaDoor

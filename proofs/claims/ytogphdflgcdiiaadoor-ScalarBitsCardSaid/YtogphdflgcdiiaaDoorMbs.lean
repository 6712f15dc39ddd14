import Derived.Test.YtogphdflgcdiiaaDoorMbr
/-
  ScalarUnits and ScalarWhole, if scalar answers as the document says.
-/
namespace Go.Proofs.YtogphdflgcdiiaaDoor
set_option linter.unusedVariables false
set_option linter.unusedSimpArgs false
open Go.RowKit

set_option maxRecDepth 10000 in
set_option maxHeartbeats 6400000 in
theorem units_yes (op a u x y : ByteArray) (e f : Int) (w : World) (hw : SC w) (HU : ShownIs) (za : ¬ 200 < (a.size : Int)) (HN : UnIs op u true) (H1 : DyIs op a u x e) (H2 : DyIs op u a y f) (HA : MayIs a true) (he : e = 0) (hf : f = 0) (hx : x = a) (hy : y = a) : Calls Tryd.prog 5 #[.string op, .string a] w (TrueEnd w) := by
  subst he hf hx hy
  have KU := Lib.hid HU
  have KN := Lib.hid HN
  have K1 := Lib.hid H1
  have K2 := Lib.hid H2
  have KA := Lib.hid HA
  clear HU HN H1 H2 HA
  go_enter Tryd.func5, Tryd.ntmps5
  go_wp2_with fail
  refine (KU.out _ hw).mono ?_
  rintro e w1 ⟨rfl, hb⟩
  go_wp2_with fail
  refine (KN.out _ (hw.below hb)).mono ?_
  rintro e w2 ⟨rfl, hq⟩
  replace hb := hb.trans (hq.mono hb.size)
  clear hq
  go_wp2_with fail
  refine (K1.out _ (hw.below hb)).mono ?_
  rintro e w3 ⟨rfl, hq⟩
  replace hb := hb.trans (hq.mono hb.size)
  clear hq
  go_wp2_with fail
  refine (K2.out _ (hw.below hb)).mono ?_
  rintro e w4 ⟨rfl, hq⟩
  replace hb := hb.trans (hq.mono hb.size)
  clear hq
  go_wp2_with fail
  refine (KA.out _).mono ?_
  rintro e w5 ⟨rfl, rfl⟩
  go_wp2_with fail
  go_ret
  exact ⟨rfl, hb⟩
set_option maxRecDepth 10000 in
set_option maxHeartbeats 6400000 in
theorem units_arg (op a u x y : ByteArray) (e f : Int) (w : World) (hw : SC w) (HU : ShownIs) (za : ¬ 200 < (a.size : Int)) (HN : UnIs op u true) (H1 : DyIs op a u x e) (H2 : DyIs op u a y f) (HA : MayIs a false) (he : e = 1) (hf : f = 1) : Calls Tryd.prog 5 #[.string op, .string a] w (TrueEnd w) := by
  subst he hf
  have KU := Lib.hid HU
  have KN := Lib.hid HN
  have K1 := Lib.hid H1
  have K2 := Lib.hid H2
  have KA := Lib.hid HA
  clear HU HN H1 H2 HA
  go_enter Tryd.func5, Tryd.ntmps5
  go_wp2_with fail
  refine (KU.out _ hw).mono ?_
  rintro e w1 ⟨rfl, hb⟩
  go_wp2_with fail
  refine (KN.out _ (hw.below hb)).mono ?_
  rintro e w2 ⟨rfl, hq⟩
  replace hb := hb.trans (hq.mono hb.size)
  clear hq
  go_wp2_with fail
  refine (K1.out _ (hw.below hb)).mono ?_
  rintro e w3 ⟨rfl, hq⟩
  replace hb := hb.trans (hq.mono hb.size)
  clear hq
  go_wp2_with fail
  refine (K2.out _ (hw.below hb)).mono ?_
  rintro e w4 ⟨rfl, hq⟩
  replace hb := hb.trans (hq.mono hb.size)
  clear hq
  go_wp2_with fail
  refine (KA.out _).mono ?_
  rintro e w5 ⟨rfl, rfl⟩
  go_wp2_with fail
  go_ret
  exact ⟨rfl, hb⟩
set_option maxRecDepth 10000 in
set_option maxHeartbeats 6400000 in
theorem units_none (op a : ByteArray) (w : World) (hw : SC w) (HU : ShownIs) (za : ¬ 200 < (a.size : Int)) (HN : UnIs op ⟨#[]⟩ false) (g1 : (op.toList == [43]) = false) (g2 : (op.toList == [42]) = false) : Calls Tryd.prog 5 #[.string op, .string a] w (TrueEnd w) := by
  have KU := Lib.hid HU
  have KN := Lib.hid HN
  clear HU HN
  go_enter Tryd.func5, Tryd.ntmps5
  go_wp2_with fail
  refine (KU.out _ hw).mono ?_
  rintro e w1 ⟨rfl, hb⟩
  go_wp2_with fail
  refine (KN.out _ (hw.below hb)).mono ?_
  rintro e w2 ⟨rfl, hq⟩
  replace hb := hb.trans (hq.mono hb.size)
  clear hq
  go_wp2_with fail
  go_ret
  exact ⟨rfl, hb⟩
set_option maxRecDepth 10000 in
set_option maxHeartbeats 6400000 in
theorem units_long (op a : ByteArray) (w : World) (hw : SC w) (HU : ShownIs) (za : 200 < (a.size : Int)) : Calls Tryd.prog 5 #[.string op, .string a] w (TrueEnd w) := by
  have KU := Lib.hid HU
  clear HU
  go_enter Tryd.func5, Tryd.ntmps5
  go_wp2_with fail
  refine (KU.out _ hw).mono ?_
  rintro e w1 ⟨rfl, hb⟩
  go_wp2_with fail
  go_ret
  exact ⟨rfl, hb⟩
theorem units_any (H : DyOk) (HN : UnOk) (HU : ShownIs) (op a : ByteArray) (w : World) (ho : op.size ≤ maxLen) (ha : a.size ≤ maxLen) (hw : SC w) : Calls Tryd.prog 5 #[.string op, .string a] w (TrueEnd w) := by
  by_cases za : 200 < (a.size : Int)
  · exact units_long op a w hw HU za
  obtain ⟨o, hi⟩ := is_ex a ha
  have MA : MayIs a o.isSome := fun w => May_opt w hi
  have hN := HN ho
  by_cases h1 : op.data.toList = [43]
  · rw [if_pos h1, decide_eq_true h1, Bool.true_or] at hN
    have g1 := H ho hi (lit_is S_0 (by decide))
    have g2 := H ho (lit_is S_0 (by decide)) hi
    have hk : kdL op.data.toList = 0 := by rw [h1]; rfl
    rw [hk] at g1 g2
    cases o with
    | none => exact units_arg op a _ _ _ _ _ w hw HU za hN g1 g2 MA rfl rfl
    | some x =>
      obtain ⟨u1, u2, _, _⟩ := unit_law hi.2
      exact units_yes op a _ _ _ _ _ w hw HU za hN g1 g2 MA (congrArg Prod.snd u1) (congrArg Prod.snd u2) (by rw [u1]; exact hi.1.symm) (by rw [u2]; exact hi.1.symm)
  rw [if_neg h1, decide_eq_false h1, Bool.false_or] at hN
  by_cases h2 : op.data.toList = [42]
  · rw [if_pos h2, decide_eq_true h2] at hN
    have g1 := H ho hi (lit_is S_1 (by decide))
    have g2 := H ho (lit_is S_1 (by decide)) hi
    have hk : kdL op.data.toList = 2 := by rw [h2]; rfl
    rw [hk] at g1 g2
    cases o with
    | none => exact units_arg op a _ _ _ _ _ w hw HU za hN g1 g2 MA rfl rfl
    | some x =>
      obtain ⟨_, _, u1, u2⟩ := unit_law hi.2
      exact units_yes op a _ _ _ _ _ w hw HU za hN g1 g2 MA (congrArg Prod.snd u1) (congrArg Prod.snd u2) (by rw [u1]; exact hi.1.symm) (by rw [u2]; exact hi.1.symm)
  rw [if_neg h2, decide_eq_false h2] at hN
  exact units_none op a w hw HU za hN (by rw [str_tl]; exact beq_eq_false_iff_ne.2 h1) (by rw [str_tl]; exact beq_eq_false_iff_ne.2 h2)
set_option maxRecDepth 10000 in
set_option maxHeartbeats 6400000 in
theorem whole_w0 (y p : Nat) (hy : y ≤ 255) (hp : p = y % 11) (V a b x c : ByteArray) (e f : Int) (wh : Bool) (w : World) (hw : SC w) (HU : ShownIs) (HS : DsIs) (za : ¬ 200 < (a.size : Int)) (zb : ¬ 200 < (b.size : Int)) (HA : MayIs a true) (HB : MayIs b true)
    (hvx : (ByteArray.mk #[43, 45, 42, 37, 33, 38, 124, 60, 62, 61, 126]).extract p (p + 1) = V) (H1 : DyIs V a b x e) (H2 : DyIs V a ⟨#[48]⟩ c f) (HW : WhIs V wh)
    (he : e = 0) (HX : MayIs x true) (hh : wh = true) (hf : ¬ f = 5) : Calls Tryd.prog 4 #[.int .u8 (y : Int), .string a, .string b] w (TrueEnd w) := by
  subst he hh
  have hp11 : p < 11 := by omega
  have f1 : (y : Int).tmod 11 = (p : Int) := by rw [Int.tmod_eq_emod_of_nonneg (by omega)]; omega
  have f2 : (y : Int) % 11 = (p : Int) := by omega
  have f3 : IntKind.i64.wrap (p : Int) = (p : Int) := swr (by omega) (by omega)
  have f4 : IntKind.i64.wrap ((p : Int) + 1) = (p : Int) + 1 := swr (by omega) (by omega)
  have f5 : IntKind.i64.wrap (y : Int) = (y : Int) := swr (by omega) (by omega)
  have hf5 : (f != 5) = true := by simpa using hf
  have KU := Lib.hid HU
  have KS := Lib.hid HS
  have KA := Lib.hid HA
  have KB := Lib.hid HB
  have K1 := Lib.hid H1
  have K2 := Lib.hid H2
  have KW := Lib.hid HW
  have KX := Lib.hid HX
  clear HU HS HA HB H1 H2 HW HX
  clear hp
  go_enter Tryd.func4, Tryd.ntmps4
  go_wp2_with fail
  refine (KU.out _ hw).mono ?_
  rintro e w1 ⟨rfl, hb⟩
  go_wp2_with fail
  refine (KA.out _).mono ?_
  rintro e w2 ⟨rfl, rfl⟩
  go_wp2_with fail
  refine (KB.out _).mono ?_
  rintro e w3 ⟨rfl, rfl⟩
  go_wp2_with fail
  refine (KS.out _ (hw.below hb)).mono ?_
  rintro e w4 ⟨rfl, hq⟩
  replace hb := hb.trans (hq.mono hb.size)
  clear hq
  go_wp2_with fail
  refine (K1.out _ (hw.below hb)).mono ?_
  rintro e w5 ⟨rfl, hq⟩
  replace hb := hb.trans (hq.mono hb.size)
  clear hq
  go_wp2_with fail
  refine (K2.out _ (hw.below hb)).mono ?_
  rintro e w6 ⟨rfl, hq⟩
  replace hb := hb.trans (hq.mono hb.size)
  clear hq
  go_wp2_with fail
  refine (KW.out _ (hw.below hb)).mono ?_
  rintro e w7 ⟨rfl, hq⟩
  replace hb := hb.trans (hq.mono hb.size)
  clear hq
  go_wp2_with fail
  refine (KX.out _).mono ?_
  rintro e w8 ⟨rfl, rfl⟩
  go_wp2_with fail
  go_ret
  exact ⟨rfl, hb⟩
set_option maxRecDepth 10000 in
set_option maxHeartbeats 6400000 in
theorem whole_n0 (y p : Nat) (hy : y ≤ 255) (hp : p = y % 11) (V a b x c : ByteArray) (e f : Int) (wh : Bool) (w : World) (hw : SC w) (HU : ShownIs) (HS : DsIs) (za : ¬ 200 < (a.size : Int)) (zb : ¬ 200 < (b.size : Int)) (HA : MayIs a true) (HB : MayIs b true)
    (hvx : (ByteArray.mk #[43, 45, 42, 37, 33, 38, 124, 60, 62, 61, 126]).extract p (p + 1) = V) (H1 : DyIs V a b x e) (H2 : DyIs V a ⟨#[48]⟩ c f) (HW : WhIs V wh)
    (he : e = 0) (HX : MayIs x true) (hh : wh = false) (hf : f = 5) : Calls Tryd.prog 4 #[.int .u8 (y : Int), .string a, .string b] w (TrueEnd w) := by
  subst he hh hf
  have hp11 : p < 11 := by omega
  have f1 : (y : Int).tmod 11 = (p : Int) := by rw [Int.tmod_eq_emod_of_nonneg (by omega)]; omega
  have f2 : (y : Int) % 11 = (p : Int) := by omega
  have f3 : IntKind.i64.wrap (p : Int) = (p : Int) := swr (by omega) (by omega)
  have f4 : IntKind.i64.wrap ((p : Int) + 1) = (p : Int) + 1 := swr (by omega) (by omega)
  have f5 : IntKind.i64.wrap (y : Int) = (y : Int) := swr (by omega) (by omega)
  have KU := Lib.hid HU
  have KS := Lib.hid HS
  have KA := Lib.hid HA
  have KB := Lib.hid HB
  have K1 := Lib.hid H1
  have K2 := Lib.hid H2
  have KW := Lib.hid HW
  have KX := Lib.hid HX
  clear HU HS HA HB H1 H2 HW HX
  clear hp
  go_enter Tryd.func4, Tryd.ntmps4
  go_wp2_with fail
  refine (KU.out _ hw).mono ?_
  rintro e w1 ⟨rfl, hb⟩
  go_wp2_with fail
  refine (KA.out _).mono ?_
  rintro e w2 ⟨rfl, rfl⟩
  go_wp2_with fail
  refine (KB.out _).mono ?_
  rintro e w3 ⟨rfl, rfl⟩
  go_wp2_with fail
  refine (KS.out _ (hw.below hb)).mono ?_
  rintro e w4 ⟨rfl, hq⟩
  replace hb := hb.trans (hq.mono hb.size)
  clear hq
  go_wp2_with fail
  refine (K1.out _ (hw.below hb)).mono ?_
  rintro e w5 ⟨rfl, hq⟩
  replace hb := hb.trans (hq.mono hb.size)
  clear hq
  go_wp2_with fail
  refine (K2.out _ (hw.below hb)).mono ?_
  rintro e w6 ⟨rfl, hq⟩
  replace hb := hb.trans (hq.mono hb.size)
  clear hq
  go_wp2_with fail
  refine (KW.out _ (hw.below hb)).mono ?_
  rintro e w7 ⟨rfl, hq⟩
  replace hb := hb.trans (hq.mono hb.size)
  clear hq
  go_wp2_with fail
  refine (KX.out _).mono ?_
  rintro e w8 ⟨rfl, rfl⟩
  go_wp2_with fail
  go_ret
  exact ⟨rfl, hb⟩
set_option maxRecDepth 10000 in
set_option maxHeartbeats 6400000 in
theorem whole_w8 (y p : Nat) (hy : y ≤ 255) (hp : p = y % 11) (V a b x c : ByteArray) (e f : Int) (wh : Bool) (w : World) (hw : SC w) (HU : ShownIs) (HS : DsIs) (za : ¬ 200 < (a.size : Int)) (zb : ¬ 200 < (b.size : Int)) (HA : MayIs a true) (HB : MayIs b true)
    (hvx : (ByteArray.mk #[43, 45, 42, 37, 33, 38, 124, 60, 62, 61, 126]).extract p (p + 1) = V) (H1 : DyIs V a b x e) (H2 : DyIs V a ⟨#[48]⟩ c f) (HW : WhIs V wh)
    (he : e = 8) (hx : x = ⟨#[]⟩) (hh : wh = true) (hf : ¬ f = 5) : Calls Tryd.prog 4 #[.int .u8 (y : Int), .string a, .string b] w (TrueEnd w) := by
  subst he hx hh
  have hp11 : p < 11 := by omega
  have f1 : (y : Int).tmod 11 = (p : Int) := by rw [Int.tmod_eq_emod_of_nonneg (by omega)]; omega
  have f2 : (y : Int) % 11 = (p : Int) := by omega
  have f3 : IntKind.i64.wrap (p : Int) = (p : Int) := swr (by omega) (by omega)
  have f4 : IntKind.i64.wrap ((p : Int) + 1) = (p : Int) + 1 := swr (by omega) (by omega)
  have f5 : IntKind.i64.wrap (y : Int) = (y : Int) := swr (by omega) (by omega)
  have hf5 : (f != 5) = true := by simpa using hf
  have KU := Lib.hid HU
  have KS := Lib.hid HS
  have KA := Lib.hid HA
  have KB := Lib.hid HB
  have K1 := Lib.hid H1
  have K2 := Lib.hid H2
  have KW := Lib.hid HW
  clear HU HS HA HB H1 H2 HW
  clear hp
  go_enter Tryd.func4, Tryd.ntmps4
  go_wp2_with fail
  refine (KU.out _ hw).mono ?_
  rintro e w1 ⟨rfl, hb⟩
  go_wp2_with fail
  refine (KA.out _).mono ?_
  rintro e w2 ⟨rfl, rfl⟩
  go_wp2_with fail
  refine (KB.out _).mono ?_
  rintro e w3 ⟨rfl, rfl⟩
  go_wp2_with fail
  refine (KS.out _ (hw.below hb)).mono ?_
  rintro e w4 ⟨rfl, hq⟩
  replace hb := hb.trans (hq.mono hb.size)
  clear hq
  go_wp2_with fail
  refine (K1.out _ (hw.below hb)).mono ?_
  rintro e w5 ⟨rfl, hq⟩
  replace hb := hb.trans (hq.mono hb.size)
  clear hq
  go_wp2_with fail
  refine (K2.out _ (hw.below hb)).mono ?_
  rintro e w6 ⟨rfl, hq⟩
  replace hb := hb.trans (hq.mono hb.size)
  clear hq
  go_wp2_with fail
  refine (KW.out _ (hw.below hb)).mono ?_
  rintro e w7 ⟨rfl, hq⟩
  replace hb := hb.trans (hq.mono hb.size)
  clear hq
  go_wp2_with fail
  go_ret
  exact ⟨rfl, hb⟩
set_option maxRecDepth 10000 in
set_option maxHeartbeats 6400000 in
theorem whole_n8 (y p : Nat) (hy : y ≤ 255) (hp : p = y % 11) (V a b x c : ByteArray) (e f : Int) (wh : Bool) (w : World) (hw : SC w) (HU : ShownIs) (HS : DsIs) (za : ¬ 200 < (a.size : Int)) (zb : ¬ 200 < (b.size : Int)) (HA : MayIs a true) (HB : MayIs b true)
    (hvx : (ByteArray.mk #[43, 45, 42, 37, 33, 38, 124, 60, 62, 61, 126]).extract p (p + 1) = V) (H1 : DyIs V a b x e) (H2 : DyIs V a ⟨#[48]⟩ c f) (HW : WhIs V wh)
    (he : e = 8) (hx : x = ⟨#[]⟩) (hh : wh = false) (hf : f = 5) : Calls Tryd.prog 4 #[.int .u8 (y : Int), .string a, .string b] w (TrueEnd w) := by
  subst he hx hh hf
  have hp11 : p < 11 := by omega
  have f1 : (y : Int).tmod 11 = (p : Int) := by rw [Int.tmod_eq_emod_of_nonneg (by omega)]; omega
  have f2 : (y : Int) % 11 = (p : Int) := by omega
  have f3 : IntKind.i64.wrap (p : Int) = (p : Int) := swr (by omega) (by omega)
  have f4 : IntKind.i64.wrap ((p : Int) + 1) = (p : Int) + 1 := swr (by omega) (by omega)
  have f5 : IntKind.i64.wrap (y : Int) = (y : Int) := swr (by omega) (by omega)
  have KU := Lib.hid HU
  have KS := Lib.hid HS
  have KA := Lib.hid HA
  have KB := Lib.hid HB
  have K1 := Lib.hid H1
  have K2 := Lib.hid H2
  have KW := Lib.hid HW
  clear HU HS HA HB H1 H2 HW
  clear hp
  go_enter Tryd.func4, Tryd.ntmps4
  go_wp2_with fail
  refine (KU.out _ hw).mono ?_
  rintro e w1 ⟨rfl, hb⟩
  go_wp2_with fail
  refine (KA.out _).mono ?_
  rintro e w2 ⟨rfl, rfl⟩
  go_wp2_with fail
  refine (KB.out _).mono ?_
  rintro e w3 ⟨rfl, rfl⟩
  go_wp2_with fail
  refine (KS.out _ (hw.below hb)).mono ?_
  rintro e w4 ⟨rfl, hq⟩
  replace hb := hb.trans (hq.mono hb.size)
  clear hq
  go_wp2_with fail
  refine (K1.out _ (hw.below hb)).mono ?_
  rintro e w5 ⟨rfl, hq⟩
  replace hb := hb.trans (hq.mono hb.size)
  clear hq
  go_wp2_with fail
  refine (K2.out _ (hw.below hb)).mono ?_
  rintro e w6 ⟨rfl, hq⟩
  replace hb := hb.trans (hq.mono hb.size)
  clear hq
  go_wp2_with fail
  refine (KW.out _ (hw.below hb)).mono ?_
  rintro e w7 ⟨rfl, hq⟩
  replace hb := hb.trans (hq.mono hb.size)
  clear hq
  go_wp2_with fail
  go_ret
  exact ⟨rfl, hb⟩
set_option maxRecDepth 10000 in
set_option maxHeartbeats 6400000 in
theorem whole_n5 (y p : Nat) (hy : y ≤ 255) (hp : p = y % 11) (V a b x c : ByteArray) (e f : Int) (wh : Bool) (w : World) (hw : SC w) (HU : ShownIs) (HS : DsIs) (za : ¬ 200 < (a.size : Int)) (zb : ¬ 200 < (b.size : Int)) (HA : MayIs a true) (HB : MayIs b true)
    (hvx : (ByteArray.mk #[43, 45, 42, 37, 33, 38, 124, 60, 62, 61, 126]).extract p (p + 1) = V) (H1 : DyIs V a b x e) (H2 : DyIs V a ⟨#[48]⟩ c f) (HW : WhIs V wh)
    (he : e = 5) (hh : wh = false) (hf : f = 5) (h0 : (b.toList == [48]) = true) : Calls Tryd.prog 4 #[.int .u8 (y : Int), .string a, .string b] w (TrueEnd w) := by
  subst he hh hf
  have hp11 : p < 11 := by omega
  have f1 : (y : Int).tmod 11 = (p : Int) := by rw [Int.tmod_eq_emod_of_nonneg (by omega)]; omega
  have f2 : (y : Int) % 11 = (p : Int) := by omega
  have f3 : IntKind.i64.wrap (p : Int) = (p : Int) := swr (by omega) (by omega)
  have f4 : IntKind.i64.wrap ((p : Int) + 1) = (p : Int) + 1 := swr (by omega) (by omega)
  have f5 : IntKind.i64.wrap (y : Int) = (y : Int) := swr (by omega) (by omega)
  have KU := Lib.hid HU
  have KS := Lib.hid HS
  have KA := Lib.hid HA
  have KB := Lib.hid HB
  have K1 := Lib.hid H1
  have K2 := Lib.hid H2
  have KW := Lib.hid HW
  clear HU HS HA HB H1 H2 HW
  clear hp
  go_enter Tryd.func4, Tryd.ntmps4
  go_wp2_with fail
  refine (KU.out _ hw).mono ?_
  rintro e w1 ⟨rfl, hb⟩
  go_wp2_with fail
  refine (KA.out _).mono ?_
  rintro e w2 ⟨rfl, rfl⟩
  go_wp2_with fail
  refine (KB.out _).mono ?_
  rintro e w3 ⟨rfl, rfl⟩
  go_wp2_with fail
  refine (KS.out _ (hw.below hb)).mono ?_
  rintro e w4 ⟨rfl, hq⟩
  replace hb := hb.trans (hq.mono hb.size)
  clear hq
  go_wp2_with fail
  refine (K1.out _ (hw.below hb)).mono ?_
  rintro e w5 ⟨rfl, hq⟩
  replace hb := hb.trans (hq.mono hb.size)
  clear hq
  go_wp2_with fail
  refine (K2.out _ (hw.below hb)).mono ?_
  rintro e w6 ⟨rfl, hq⟩
  replace hb := hb.trans (hq.mono hb.size)
  clear hq
  go_wp2_with fail
  refine (KW.out _ (hw.below hb)).mono ?_
  rintro e w7 ⟨rfl, hq⟩
  replace hb := hb.trans (hq.mono hb.size)
  clear hq
  go_wp2_with fail
  go_ret
  exact ⟨rfl, hb⟩
set_option maxRecDepth 10000 in
set_option maxHeartbeats 6400000 in
theorem whole_long (y : Nat) (hy : y ≤ 255) (a b : ByteArray) (w : World) (hw : SC w) (HU : ShownIs) (h : 200 < a.size ∨ 200 < b.size) : Calls Tryd.prog 4 #[.int .u8 (y : Int), .string a, .string b] w (TrueEnd w) := by
  have KU := Lib.hid HU
  clear HU
  by_cases h1 : 200 < (a.size : Int)
  · clear h
    go_enter Tryd.func4, Tryd.ntmps4
    go_wp2_with fail
    refine (KU.out _ hw).mono ?_
    rintro e w1 ⟨rfl, hb⟩
    go_wp2_with fail
    go_ret
    exact ⟨rfl, hb⟩
  · have h2 : 200 < (b.size : Int) := by omega
    clear h
    go_enter Tryd.func4, Tryd.ntmps4
    go_wp2_with fail
    refine (KU.out _ hw).mono ?_
    rintro e w1 ⟨rfl, hb⟩
    go_wp2_with fail
    go_ret
    exact ⟨rfl, hb⟩
set_option maxRecDepth 10000 in
set_option maxHeartbeats 6400000 in
theorem whole_no (y : Nat) (hy : y ≤ 255) (a b : ByteArray) (u v : Bool) (w : World) (hw : SC w) (HU : ShownIs) (za : ¬ 200 < (a.size : Int)) (zb : ¬ 200 < (b.size : Int)) (HA : MayIs a u) (HB : MayIs b v) (hn : (u && v) = false) : Calls Tryd.prog 4 #[.int .u8 (y : Int), .string a, .string b] w (TrueEnd w) := by
  have KU := Lib.hid HU
  have KA := Lib.hid HA
  have KB := Lib.hid HB
  clear HU HA HB
  cases u with
  | false =>
    clear hn
    go_enter Tryd.func4, Tryd.ntmps4
    go_wp2_with fail
    refine (KU.out _ hw).mono ?_
    rintro e w1 ⟨rfl, hb⟩
    go_wp2_with fail
    refine (KA.out _).mono ?_
    rintro e w2 ⟨rfl, rfl⟩
    go_wp2_with fail
    go_ret
    exact ⟨rfl, hb⟩
  | true =>
    cases v with
    | false =>
      clear hn
      go_enter Tryd.func4, Tryd.ntmps4
      go_wp2_with fail
      refine (KU.out _ hw).mono ?_
      rintro e w1 ⟨rfl, hb⟩
      go_wp2_with fail
      refine (KA.out _).mono ?_
      rintro e w2 ⟨rfl, rfl⟩
      go_wp2_with fail
      refine (KB.out _).mono ?_
      rintro e w3 ⟨rfl, rfl⟩
      go_wp2_with fail
      go_ret
      exact ⟨rfl, hb⟩
    | true => exact absurd hn (by decide)
theorem dyad_at (p : Nat) (h : p < 11) : ∃ v : UInt8, kdL [v] = p ∧ (ByteArray.mk #[43, 45, 42, 37, 33, 38, 124, 60, 62, 61, 126]).extract p (p + 1) = ⟨#[v]⟩ := by
  rcases (by omega : p = 0 ∨ p = 1 ∨ p = 2 ∨ p = 3 ∨ p = 4 ∨ p = 5 ∨ p = 6 ∨ p = 7 ∨ p = 8 ∨ p = 9 ∨ p = 10) with e | e | e | e | e | e | e | e | e | e | e <;> subst e
  · exact ⟨43, by decide, by decide⟩
  · exact ⟨45, by decide, by decide⟩
  · exact ⟨42, by decide, by decide⟩
  · exact ⟨37, by decide, by decide⟩
  · exact ⟨33, by decide, by decide⟩
  · exact ⟨38, by decide, by decide⟩
  · exact ⟨124, by decide, by decide⟩
  · exact ⟨60, by decide, by decide⟩
  · exact ⟨62, by decide, by decide⟩
  · exact ⟨61, by decide, by decide⟩
  · exact ⟨126, by decide, by decide⟩
theorem whole_any (H : DyOk) (HW : WhOk) (HS : DsIs) (HU : ShownIs) (y : Nat) (hy : y ≤ 255) (a b : ByteArray) (w : World) (ha : a.size ≤ maxLen) (hb : b.size ≤ maxLen) (hw : SC w) : Calls Tryd.prog 4 #[.int .u8 (y : Int), .string a, .string b] w (TrueEnd w) := by
  by_cases hz : 200 < a.size ∨ 200 < b.size
  · exact whole_long y hy a b w hw HU hz
  have za : ¬ 200 < (a.size : Int) := by omega
  have zb : ¬ 200 < (b.size : Int) := by omega
  obtain ⟨o, ho⟩ := is_ex a ha
  obtain ⟨q, hq⟩ := is_ex b hb
  have MA : MayIs a o.isSome := fun w => May_opt w ho
  have MB : MayIs b q.isSome := fun w => May_opt w hq
  cases hn : (o.isSome && q.isSome)
  · exact whole_no y hy a b _ _ w hw HU za zb MA MB hn
  cases o with
  | none => cases hn
  | some X =>
  cases q with
  | none => cases hn
  | some Y =>
  obtain ⟨p, hp⟩ : ∃ p, p = y % 11 := ⟨_, rfl⟩
  have hp11 : p < 11 := by omega
  obtain ⟨v, hk, hvx⟩ := dyad_at p hp11
  have hV : (⟨#[v]⟩ : ByteArray).size ≤ maxLen := by show 1 ≤ maxLen; decide
  have g1 := H (op := ⟨#[v]⟩) hV ho hq
  have g2 := H (op := ⟨#[v]⟩) hV ho (lit_is S_0 (by decide))
  have gw := HW (op := ⟨#[v]⟩) hV
  have hk' : kdL (⟨#[v]⟩ : ByteArray).data.toList = p := hk
  rw [hk'] at g1 g2 gw
  obtain ⟨l1, l2, l3⟩ := whole_law hp11 X Y
  have hi := dyO_is (k := p) ho hq
  have hno := @dyO_none p (some X) (some Y)
  obtain ⟨wh, hwh⟩ : ∃ z, whB p = z := ⟨_, rfl⟩
  rw [hwh] at gw l1 l2 l3
  have GX : (dyO p (some X) (some Y)).2 = 0 → MayIs (T (dyO p (some X) (some Y)).1) true := by
    intro h0 w
    rcases hno with ⟨_, h⟩ | ⟨_, h⟩
    · rw [← h]; exact May_opt w hi
    · omega
  have GN : (dyO p (some X) (some Y)).2 = 8 → T (dyO p (some X) (some Y)).1 = ⟨#[]⟩ := by
    intro h0
    rcases hno with ⟨h, _⟩ | ⟨h, _⟩
    · omega
    · rw [h]; rfl
  rcases l1 with h | h | ⟨h1, h2, h⟩
  · cases wh
    · exact whole_n0 y p hy hp _ a b _ _ _ _ false w hw HU HS za zb MA MB hvx g1 g2 gw h (GX h) rfl (by rcases l2 with h | h; cases h; exact h)
    · exact whole_w0 y p hy hp _ a b _ _ _ _ true w hw HU HS za zb MA MB hvx g1 g2 gw h (GX h) rfl (by rcases l3 with h | h; cases h; exact h.2)
  · cases wh
    · exact whole_n8 y p hy hp _ a b _ _ _ _ false w hw HU HS za zb MA MB hvx g1 g2 gw h (GN h) rfl (by rcases l2 with h | h; cases h; exact h)
    · exact whole_w8 y p hy hp _ a b _ _ _ _ true w hw HU HS za zb MA MB hvx g1 g2 gw h (GN h) rfl (by rcases l3 with h | h; cases h; exact h.2)
  · exact whole_n5 y p hy hp _ a b _ _ _ _ wh w hw HU HS za zb MA MB hvx g1 g2 gw h h1 (by rcases l2 with h | h; rw [h1] at h; cases h; exact h) (by rw [is_zero hq]; exact decide_eq_true h2)
end Go.Proofs.YtogphdflgcdiiaaDoor

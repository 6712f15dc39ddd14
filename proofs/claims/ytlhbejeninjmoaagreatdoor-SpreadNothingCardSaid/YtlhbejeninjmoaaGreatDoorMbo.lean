import Derived.Test.YtlhbejeninjmoaaGreatDoorMbc
import Derived.Deep.RegionHeld3
import Derived.Deep.DeepCutAuto
/-
  SpreadNothing at any text, and any two arrays.
-/
namespace Go.Proofs.YtlhbejeninjmoaaGreatDoor
set_option linter.unusedVariables false
set_option linter.unusedSimpArgs false
open Go.RowKit

set_option maxRecDepth 100000 in
set_option maxHeartbeats 6400000 in
theorem snothing_few1 {op : ByteArray} {a1 b1 a2 b2 : Option Addr} {n1 c1 m1 d1 n2 c2 m2 d2 : Nat} {l m : List Int} {es fs : List ByteArray} (W : World) (hW : SC W) (hV : Vl W a1 n1 b1 m1 l es) (hz1 : ∀ j, j < m1 → (es.getD j ByteArray.empty).size ≤ maxLen) (hU : Vl W a2 n2 b2 m2 m fs) (hz2 : ∀ j, j < m2 → (fs.getD j ByteArray.empty).size ≤ maxLen) (hf : fewB l es = false) :
    Calls Tryz.prog 6 #[.string op, .agg #[.slice a1 n1 c1, .slice b1 m1 d1], .agg #[.slice a2 n2 c2, .slice b2 m2 d2]] W (TrueEnd W) := by
  have KF := fun w (hb : Below W.heap.size W w) => Few_is (c := c1) (d := d1) w (hV.below hb) hz1
  rw [hf] at KF
  replace KF := Lib.hid KF
  have KS := Lib.hid (fun w (hb : Below W.heap.size W w) => sshown_is w (hW.below hb))
  have hXv := (Bx.new W a1 n1 c1 b1 m1 d1).alloc (.cells #[.slice a2 n2 c2, .slice b2 m2 d2] 25)
  have hXu := Bx.two W (.cells #[.slice a1 n1 c1, .slice b1 m1 d1] 25) a2 n2 c2 b2 m2 d2
  have hb : Below W.heap.size W ((W.alloc (.cells #[.slice a1 n1 c1, .slice b1 m1 d1] 25)).alloc (.cells #[.slice a2 n2 c2, .slice b2 m2 d2] 25)) := ((Below.refl _ _).alloc (Nat.le_refl _) _).alloc (by simp) _
  have hVv := hV.below hb
  have hVu := hU.below hb
  clear hW hV hz1 hf hU hz2
  go_enter Tryz.func6, Tryz.ntmps6
  have cev0 := hXv.c0
  have cev1 := hXv.c1
  have ceu0 := hXu.c0
  have ceu1 := hXu.c1
  go_wp2_with fail
  refine (KS.out _ hb).mono ?_
  rintro e w1 ⟨rfl, hq⟩
  clear cev0 cev1 ceu0 ceu1
  replace hXv := hXv.below hq hXv.lt
  replace hVv := hVv.below hq
  replace hXu := hXu.below hq hXu.lt
  replace hVu := hVu.below hq
  replace hb := hb.trans (hq.mono hb.size)
  clear hq
  have cev0 := hXv.c0
  have cev1 := hXv.c1
  have ceu0 := hXu.c0
  have ceu1 := hXu.c1
  go_wp2_with fail
  refine (KF.out _ hb).mono ?_
  rintro e w2 ⟨rfl, hq⟩
  clear cev0 cev1 ceu0 ceu1
  replace hXv := hXv.below hq hXv.lt
  replace hVv := hVv.below hq
  replace hXu := hXu.below hq hXu.lt
  replace hVu := hVu.below hq
  replace hb := hb.trans (hq.mono hb.size)
  clear hq
  go_wp2_with fail
  go_ret
  exact ⟨rfl, hb⟩
set_option maxRecDepth 100000 in
set_option maxHeartbeats 6400000 in
theorem snothing_few2 {op : ByteArray} {a1 b1 a2 b2 : Option Addr} {n1 c1 m1 d1 n2 c2 m2 d2 : Nat} {l m : List Int} {es fs : List ByteArray} (W : World) (hW : SC W) (hV : Vl W a1 n1 b1 m1 l es) (hz1 : ∀ j, j < m1 → (es.getD j ByteArray.empty).size ≤ maxLen) (hU : Vl W a2 n2 b2 m2 m fs) (hz2 : ∀ j, j < m2 → (fs.getD j ByteArray.empty).size ≤ maxLen) (hf1 : fewB l es = true) (hf : fewB m fs = false) :
    Calls Tryz.prog 6 #[.string op, .agg #[.slice a1 n1 c1, .slice b1 m1 d1], .agg #[.slice a2 n2 c2, .slice b2 m2 d2]] W (TrueEnd W) := by
  have KF1 := fun w (hb : Below W.heap.size W w) => Few_is (c := c1) (d := d1) w (hV.below hb) hz1
  rw [hf1] at KF1
  replace KF1 := Lib.hid KF1
  have KF := fun w (hb : Below W.heap.size W w) => Few_is (c := c2) (d := d2) w (hU.below hb) hz2
  rw [hf] at KF
  replace KF := Lib.hid KF
  have KS := Lib.hid (fun w (hb : Below W.heap.size W w) => sshown_is w (hW.below hb))
  have hXv := (Bx.new W a1 n1 c1 b1 m1 d1).alloc (.cells #[.slice a2 n2 c2, .slice b2 m2 d2] 25)
  have hXu := Bx.two W (.cells #[.slice a1 n1 c1, .slice b1 m1 d1] 25) a2 n2 c2 b2 m2 d2
  have hb : Below W.heap.size W ((W.alloc (.cells #[.slice a1 n1 c1, .slice b1 m1 d1] 25)).alloc (.cells #[.slice a2 n2 c2, .slice b2 m2 d2] 25)) := ((Below.refl _ _).alloc (Nat.le_refl _) _).alloc (by simp) _
  have hVv := hV.below hb
  have hVu := hU.below hb
  clear hW hV hz1 hf hU hz2 hf1
  go_enter Tryz.func6, Tryz.ntmps6
  have cev0 := hXv.c0
  have cev1 := hXv.c1
  have ceu0 := hXu.c0
  have ceu1 := hXu.c1
  go_wp2_with fail
  refine (KS.out _ hb).mono ?_
  rintro e w1 ⟨rfl, hq⟩
  clear cev0 cev1 ceu0 ceu1
  replace hXv := hXv.below hq hXv.lt
  replace hVv := hVv.below hq
  replace hXu := hXu.below hq hXu.lt
  replace hVu := hVu.below hq
  replace hb := hb.trans (hq.mono hb.size)
  clear hq
  have cev0 := hXv.c0
  have cev1 := hXv.c1
  have ceu0 := hXu.c0
  have ceu1 := hXu.c1
  go_wp2_with fail
  refine (KF1.out _ hb).mono ?_
  rintro e w2 ⟨rfl, hq⟩
  clear cev0 cev1 ceu0 ceu1
  replace hXv := hXv.below hq hXv.lt
  replace hVv := hVv.below hq
  replace hXu := hXu.below hq hXu.lt
  replace hVu := hVu.below hq
  replace hb := hb.trans (hq.mono hb.size)
  clear hq
  have cev0 := hXv.c0
  have cev1 := hXv.c1
  have ceu0 := hXu.c0
  have ceu1 := hXu.c1
  go_wp2_with fail
  refine (KF.out _ hb).mono ?_
  rintro e w3 ⟨rfl, hq⟩
  clear cev0 cev1 ceu0 ceu1
  replace hXv := hXv.below hq hXv.lt
  replace hVv := hVv.below hq
  replace hXu := hXu.below hq hXu.lt
  replace hVu := hVu.below hq
  replace hb := hb.trans (hq.mono hb.size)
  clear hq
  go_wp2_with fail
  go_ret
  exact ⟨rfl, hb⟩
set_option maxRecDepth 100000 in
set_option maxHeartbeats 6400000 in
theorem snothing_1 {op : ByteArray} {a1 b1 a2 b2 : Option Addr} {n1 c1 m1 d1 n2 c2 m2 d2 : Nat} {l m : List Int} {es fs : List ByteArray} (W : World) (hW : SC W) (hV : Vl W a1 n1 b1 m1 l es) (hz1 : ∀ j, j < m1 → (es.getD j ByteArray.empty).size ≤ maxLen) (hU : Vl W a2 n2 b2 m2 m fs) (hz2 : ∀ j, j < m2 → (fs.getD j ByteArray.empty).size ≤ maxLen) (hf1 : fewB l es = true) (hf2 : fewB m fs = true) (hm1 : mayV l es = false) :
    Calls Tryz.prog 6 #[.string op, .agg #[.slice a1 n1 c1, .slice b1 m1 d1], .agg #[.slice a2 n2 c2, .slice b2 m2 d2]] W (TrueEnd W) := by
  have KF1 := fun w (hb : Below W.heap.size W w) => Few_is (c := c1) (d := d1) w (hV.below hb) hz1
  rw [hf1] at KF1
  replace KF1 := Lib.hid KF1
  have KF2 := fun w (hb : Below W.heap.size W w) => Few_is (c := c2) (d := d2) w (hU.below hb) hz2
  rw [hf2] at KF2
  replace KF2 := Lib.hid KF2
  have KY1 := fun w (hb : Below W.heap.size W w) => VMay_is (c := c1) (d := d1) w (hV.below hb) hz1
  rw [hm1] at KY1
  replace KY1 := Lib.hid KY1
  have KS := Lib.hid (fun w (hb : Below W.heap.size W w) => sshown_is w (hW.below hb))
  have hXv := (Bx.new W a1 n1 c1 b1 m1 d1).alloc (.cells #[.slice a2 n2 c2, .slice b2 m2 d2] 25)
  have hXu := Bx.two W (.cells #[.slice a1 n1 c1, .slice b1 m1 d1] 25) a2 n2 c2 b2 m2 d2
  have hb : Below W.heap.size W ((W.alloc (.cells #[.slice a1 n1 c1, .slice b1 m1 d1] 25)).alloc (.cells #[.slice a2 n2 c2, .slice b2 m2 d2] 25)) := ((Below.refl _ _).alloc (Nat.le_refl _) _).alloc (by simp) _
  have hVv := hV.below hb
  have hVu := hU.below hb
  clear hW hV hz1 hf1 hU hz2 hf2 hm1
  go_enter Tryz.func6, Tryz.ntmps6
  have cev0 := hXv.c0
  have cev1 := hXv.c1
  have ceu0 := hXu.c0
  have ceu1 := hXu.c1
  go_wp2_with fail
  refine (KS.out _ hb).mono ?_
  rintro e w1 ⟨rfl, hq⟩
  clear cev0 cev1 ceu0 ceu1
  replace hXv := hXv.below hq hXv.lt
  replace hVv := hVv.below hq
  replace hXu := hXu.below hq hXu.lt
  replace hVu := hVu.below hq
  replace hb := hb.trans (hq.mono hb.size)
  clear hq
  have cev0 := hXv.c0
  have cev1 := hXv.c1
  have ceu0 := hXu.c0
  have ceu1 := hXu.c1
  go_wp2_with fail
  refine (KF1.out _ hb).mono ?_
  rintro e w2 ⟨rfl, hq⟩
  clear cev0 cev1 ceu0 ceu1
  replace hXv := hXv.below hq hXv.lt
  replace hVv := hVv.below hq
  replace hXu := hXu.below hq hXu.lt
  replace hVu := hVu.below hq
  replace hb := hb.trans (hq.mono hb.size)
  clear hq
  have cev0 := hXv.c0
  have cev1 := hXv.c1
  have ceu0 := hXu.c0
  have ceu1 := hXu.c1
  go_wp2_with fail
  refine (KF2.out _ hb).mono ?_
  rintro e w3 ⟨rfl, hq⟩
  clear cev0 cev1 ceu0 ceu1
  replace hXv := hXv.below hq hXv.lt
  replace hVv := hVv.below hq
  replace hXu := hXu.below hq hXu.lt
  replace hVu := hVu.below hq
  replace hb := hb.trans (hq.mono hb.size)
  clear hq
  have cev0 := hXv.c0
  have cev1 := hXv.c1
  have ceu0 := hXu.c0
  have ceu1 := hXu.c1
  go_wp2_with fail
  refine (KY1.out _ hb).mono ?_
  rintro e w4 ⟨rfl, hq⟩
  clear cev0 cev1 ceu0 ceu1
  replace hXv := hXv.below hq hXv.lt
  replace hVv := hVv.below hq
  replace hXu := hXu.below hq hXu.lt
  replace hVu := hVu.below hq
  replace hb := hb.trans (hq.mono hb.size)
  clear hq
  go_wp2_with fail
  go_ret
  exact ⟨rfl, hb⟩
set_option maxRecDepth 100000 in
set_option maxHeartbeats 6400000 in
theorem snothing_2 {op : ByteArray} {a1 b1 a2 b2 : Option Addr} {n1 c1 m1 d1 n2 c2 m2 d2 : Nat} {l m : List Int} {es fs : List ByteArray} (W : World) (hW : SC W) (hV : Vl W a1 n1 b1 m1 l es) (hz1 : ∀ j, j < m1 → (es.getD j ByteArray.empty).size ≤ maxLen) (hU : Vl W a2 n2 b2 m2 m fs) (hz2 : ∀ j, j < m2 → (fs.getD j ByteArray.empty).size ≤ maxLen) (hf1 : fewB l es = true) (hf2 : fewB m fs = true) (hm1 : mayV l es = true) (hm2 : mayV m fs = false) :
    Calls Tryz.prog 6 #[.string op, .agg #[.slice a1 n1 c1, .slice b1 m1 d1], .agg #[.slice a2 n2 c2, .slice b2 m2 d2]] W (TrueEnd W) := by
  have KF1 := fun w (hb : Below W.heap.size W w) => Few_is (c := c1) (d := d1) w (hV.below hb) hz1
  rw [hf1] at KF1
  replace KF1 := Lib.hid KF1
  have KF2 := fun w (hb : Below W.heap.size W w) => Few_is (c := c2) (d := d2) w (hU.below hb) hz2
  rw [hf2] at KF2
  replace KF2 := Lib.hid KF2
  have KY1 := fun w (hb : Below W.heap.size W w) => VMay_is (c := c1) (d := d1) w (hV.below hb) hz1
  rw [hm1] at KY1
  replace KY1 := Lib.hid KY1
  have KY2 := fun w (hb : Below W.heap.size W w) => VMay_is (c := c2) (d := d2) w (hU.below hb) hz2
  rw [hm2] at KY2
  replace KY2 := Lib.hid KY2
  have KS := Lib.hid (fun w (hb : Below W.heap.size W w) => sshown_is w (hW.below hb))
  have hXv := (Bx.new W a1 n1 c1 b1 m1 d1).alloc (.cells #[.slice a2 n2 c2, .slice b2 m2 d2] 25)
  have hXu := Bx.two W (.cells #[.slice a1 n1 c1, .slice b1 m1 d1] 25) a2 n2 c2 b2 m2 d2
  have hb : Below W.heap.size W ((W.alloc (.cells #[.slice a1 n1 c1, .slice b1 m1 d1] 25)).alloc (.cells #[.slice a2 n2 c2, .slice b2 m2 d2] 25)) := ((Below.refl _ _).alloc (Nat.le_refl _) _).alloc (by simp) _
  have hVv := hV.below hb
  have hVu := hU.below hb
  clear hW hV hz1 hf1 hU hz2 hf2 hm1 hm2
  go_enter Tryz.func6, Tryz.ntmps6
  have cev0 := hXv.c0
  have cev1 := hXv.c1
  have ceu0 := hXu.c0
  have ceu1 := hXu.c1
  go_wp2_with fail
  refine (KS.out _ hb).mono ?_
  rintro e w1 ⟨rfl, hq⟩
  clear cev0 cev1 ceu0 ceu1
  replace hXv := hXv.below hq hXv.lt
  replace hVv := hVv.below hq
  replace hXu := hXu.below hq hXu.lt
  replace hVu := hVu.below hq
  replace hb := hb.trans (hq.mono hb.size)
  clear hq
  have cev0 := hXv.c0
  have cev1 := hXv.c1
  have ceu0 := hXu.c0
  have ceu1 := hXu.c1
  go_wp2_with fail
  refine (KF1.out _ hb).mono ?_
  rintro e w2 ⟨rfl, hq⟩
  clear cev0 cev1 ceu0 ceu1
  replace hXv := hXv.below hq hXv.lt
  replace hVv := hVv.below hq
  replace hXu := hXu.below hq hXu.lt
  replace hVu := hVu.below hq
  replace hb := hb.trans (hq.mono hb.size)
  clear hq
  have cev0 := hXv.c0
  have cev1 := hXv.c1
  have ceu0 := hXu.c0
  have ceu1 := hXu.c1
  go_wp2_with fail
  refine (KF2.out _ hb).mono ?_
  rintro e w3 ⟨rfl, hq⟩
  clear cev0 cev1 ceu0 ceu1
  replace hXv := hXv.below hq hXv.lt
  replace hVv := hVv.below hq
  replace hXu := hXu.below hq hXu.lt
  replace hVu := hVu.below hq
  replace hb := hb.trans (hq.mono hb.size)
  clear hq
  have cev0 := hXv.c0
  have cev1 := hXv.c1
  have ceu0 := hXu.c0
  have ceu1 := hXu.c1
  go_wp2_with fail
  refine (KY1.out _ hb).mono ?_
  rintro e w4 ⟨rfl, hq⟩
  clear cev0 cev1 ceu0 ceu1
  replace hXv := hXv.below hq hXv.lt
  replace hVv := hVv.below hq
  replace hXu := hXu.below hq hXu.lt
  replace hVu := hVu.below hq
  replace hb := hb.trans (hq.mono hb.size)
  clear hq
  have cev0 := hXv.c0
  have cev1 := hXv.c1
  have ceu0 := hXu.c0
  have ceu1 := hXu.c1
  go_wp2_with fail
  refine (KY2.out _ hb).mono ?_
  rintro e w5 ⟨rfl, hq⟩
  clear cev0 cev1 ceu0 ceu1
  replace hXv := hXv.below hq hXv.lt
  replace hVv := hVv.below hq
  replace hXu := hXu.below hq hXu.lt
  replace hVu := hVu.below hq
  replace hb := hb.trans (hq.mono hb.size)
  clear hq
  go_wp2_with fail
  go_ret
  exact ⟨rfl, hb⟩
set_option maxRecDepth 100000 in
set_option maxHeartbeats 6400000 in
theorem snothing_3 {op : ByteArray} {a1 b1 a2 b2 : Option Addr} {n1 c1 m1 d1 n2 c2 m2 d2 : Nat} {l m : List Int} {es fs : List ByteArray} (W : World) (hW : SC W) (hV : Vl W a1 n1 b1 m1 l es) (hz1 : ∀ j, j < m1 → (es.getD j ByteArray.empty).size ≤ maxLen) (hU : Vl W a2 n2 b2 m2 m fs) (hz2 : ∀ j, j < m2 → (fs.getD j ByteArray.empty).size ≤ maxLen) (hf1 : fewB l es = true) (hf2 : fewB m fs = true) (hm1 : mayV l es = true) (hm2 : mayV m fs = true) (ho : op.size ≤ maxLen) (hk : ¬ kdL op.data.toList < 11) :
    Calls Tryz.prog 6 #[.string op, .agg #[.slice a1 n1 c1, .slice b1 m1 d1], .agg #[.slice a2 n2 c2, .slice b2 m2 d2]] W (TrueEnd W) := by
  have KF1 := fun w (hb : Below W.heap.size W w) => Few_is (c := c1) (d := d1) w (hV.below hb) hz1
  rw [hf1] at KF1
  replace KF1 := Lib.hid KF1
  have KF2 := fun w (hb : Below W.heap.size W w) => Few_is (c := c2) (d := d2) w (hU.below hb) hz2
  rw [hf2] at KF2
  replace KF2 := Lib.hid KF2
  have KY1 := fun w (hb : Below W.heap.size W w) => VMay_is (c := c1) (d := d1) w (hV.below hb) hz1
  rw [hm1] at KY1
  replace KY1 := Lib.hid KY1
  have KY2 := fun w (hb : Below W.heap.size W w) => VMay_is (c := c2) (d := d2) w (hU.below hb) hz2
  rw [hm2] at KY2
  replace KY2 := Lib.hid KY2
  have KO := fun w (hb : Below W.heap.size W w) => Ops_is op ho w (hW.below hb)
  rw [decide_eq_false hk] at KO
  replace KO := Lib.hid KO
  have KS := Lib.hid (fun w (hb : Below W.heap.size W w) => sshown_is w (hW.below hb))
  have hXv := (Bx.new W a1 n1 c1 b1 m1 d1).alloc (.cells #[.slice a2 n2 c2, .slice b2 m2 d2] 25)
  have hXu := Bx.two W (.cells #[.slice a1 n1 c1, .slice b1 m1 d1] 25) a2 n2 c2 b2 m2 d2
  have hb : Below W.heap.size W ((W.alloc (.cells #[.slice a1 n1 c1, .slice b1 m1 d1] 25)).alloc (.cells #[.slice a2 n2 c2, .slice b2 m2 d2] 25)) := ((Below.refl _ _).alloc (Nat.le_refl _) _).alloc (by simp) _
  have hVv := hV.below hb
  have hVu := hU.below hb
  clear hW hV hz1 hf1 hU hz2 hf2 hm1 hm2 hk ho
  go_enter Tryz.func6, Tryz.ntmps6
  have cev0 := hXv.c0
  have cev1 := hXv.c1
  have ceu0 := hXu.c0
  have ceu1 := hXu.c1
  go_wp2_with fail
  refine (KS.out _ hb).mono ?_
  rintro e w1 ⟨rfl, hq⟩
  clear cev0 cev1 ceu0 ceu1
  replace hXv := hXv.below hq hXv.lt
  replace hVv := hVv.below hq
  replace hXu := hXu.below hq hXu.lt
  replace hVu := hVu.below hq
  replace hb := hb.trans (hq.mono hb.size)
  clear hq
  have cev0 := hXv.c0
  have cev1 := hXv.c1
  have ceu0 := hXu.c0
  have ceu1 := hXu.c1
  go_wp2_with fail
  refine (KF1.out _ hb).mono ?_
  rintro e w2 ⟨rfl, hq⟩
  clear cev0 cev1 ceu0 ceu1
  replace hXv := hXv.below hq hXv.lt
  replace hVv := hVv.below hq
  replace hXu := hXu.below hq hXu.lt
  replace hVu := hVu.below hq
  replace hb := hb.trans (hq.mono hb.size)
  clear hq
  have cev0 := hXv.c0
  have cev1 := hXv.c1
  have ceu0 := hXu.c0
  have ceu1 := hXu.c1
  go_wp2_with fail
  refine (KF2.out _ hb).mono ?_
  rintro e w3 ⟨rfl, hq⟩
  clear cev0 cev1 ceu0 ceu1
  replace hXv := hXv.below hq hXv.lt
  replace hVv := hVv.below hq
  replace hXu := hXu.below hq hXu.lt
  replace hVu := hVu.below hq
  replace hb := hb.trans (hq.mono hb.size)
  clear hq
  have cev0 := hXv.c0
  have cev1 := hXv.c1
  have ceu0 := hXu.c0
  have ceu1 := hXu.c1
  go_wp2_with fail
  refine (KY1.out _ hb).mono ?_
  rintro e w4 ⟨rfl, hq⟩
  clear cev0 cev1 ceu0 ceu1
  replace hXv := hXv.below hq hXv.lt
  replace hVv := hVv.below hq
  replace hXu := hXu.below hq hXu.lt
  replace hVu := hVu.below hq
  replace hb := hb.trans (hq.mono hb.size)
  clear hq
  have cev0 := hXv.c0
  have cev1 := hXv.c1
  have ceu0 := hXu.c0
  have ceu1 := hXu.c1
  go_wp2_with fail
  refine (KY2.out _ hb).mono ?_
  rintro e w5 ⟨rfl, hq⟩
  clear cev0 cev1 ceu0 ceu1
  replace hXv := hXv.below hq hXv.lt
  replace hVv := hVv.below hq
  replace hXu := hXu.below hq hXu.lt
  replace hVu := hVu.below hq
  replace hb := hb.trans (hq.mono hb.size)
  clear hq
  have cev0 := hXv.c0
  have cev1 := hXv.c1
  have ceu0 := hXu.c0
  have ceu1 := hXu.c1
  go_wp2_with fail
  refine (KO.out _ hb).mono ?_
  rintro e w6 ⟨rfl, hq⟩
  clear cev0 cev1 ceu0 ceu1
  replace hXv := hXv.below hq hXv.lt
  replace hVv := hVv.below hq
  replace hXu := hXu.below hq hXu.lt
  replace hVu := hVu.below hq
  replace hb := hb.trans (hq.mono hb.size)
  clear hq
  go_wp2_with fail
  go_ret
  exact ⟨rfl, hb⟩
theorem vl_row0 {w : World} {g : Nat} (h : w.heap[g]? = some (.cells #[.int .i64 0] 3 (0, 0))) : Vl w (some ⟨g, 0, none⟩) 1 none 0 [0] [] := ⟨Sl.row (l := [0]) h, St.nil _ _, by omega⟩
theorem Bx.on {W W' : World} {a b : Option Addr} {g n c m d : Nat} (h : Bx W g a n c b m d) (hb : Below W.heap.size W W') : Bx W' g a n c b m d := h.below hb h.lt
theorem cell_alloc_far (w : World) (o : Obj) (p : Addr) (h : p.block < w.heap.size) : (w.alloc o).cell? p = w.cell? p := World.cell?_of_block (Below.heap_alloc w o _ h)
/-- What is kept behind what nothing comes to. -/
def NoCut (wz : World) (p q : Value) (wx : World) : Prop :=
  ∃ g a n c b m d, p = .pointer (some ⟨g, 0, none⟩) ∧ q = .int .i64 0 ∧ Bx wx g a n c b m d ∧ Vl wx a n b m [0] [] ∧ Below wz.heap.size wz wx
theorem NoCut.new {wz wb : World} {a b : Option Addr} {n c m d : Nat} (hb : Below wz.heap.size wz wb) (hv : Vl wb a n b m [0] []) : NoCut wz (.pointer (some ⟨wb.heap.size, 0, none⟩)) (.int .i64 0) (wb.alloc (.cells #[.slice a n c, .slice b m d] 25)) :=
  ⟨_, a, n, c, b, m, d, rfl, rfl, Bx.new _ _ _ _ _ _ _, hv.below ((Below.refl _ _).alloc (Nat.le_refl _) _), hb.alloc hb.size _⟩
theorem NoCut.set {wz wb : World} {a b : Option Addr} {g n c m d : Nat} (hb : Below wz.heap.size wz wb) (hv : Vl wb a n b m [0] []) (hZ : Bx wb g none 0 0 none 0 0) (h3 : wz.heap.size ≤ g) : NoCut wz (.pointer (some ⟨g, 0, none⟩)) (.int .i64 0) ((wb.setCell ⟨g, 0, none⟩ (.slice a n c)).setCell ⟨g, 1, none⟩ (.slice b m d)) :=
  ⟨_, a, n, c, b, m, d, rfl, rfl, hZ.set _ _ _ _ _ _, ⟨hZ.sl hv.s _ _, hZ.st hv.t _ _, hv.mm⟩, below_made hb h3 _ _⟩
theorem nil_ais : AIs [0] [] (some ([0], [])) := ais_of (l := [0]) (xs := []) (by decide) (by decide) (fun x hx => by cases hx)
theorem zero_ais : AIs [] [⟨#[48]⟩] (some ([], [0])) := by
  have h := ais_of (l := []) (xs := [0]) (by decide) (by decide) (by intro x hx; apply small_lim; simp at hx; omega)
  simp only [List.map, S_0] at h
  exact h
/-- Nothing, and a number. -/
theorem nothing_go {op : ByteArray} (W : World) (hW : SC W) (ho : op.size ≤ maxLen) (hk : kdL op.data.toList < 11) (g h : Nat) (hg : W.heap[g]? = some (.cells #[.int .i64 0] 3 (0, 0))) (hh : W.cell? ⟨h, 0, none⟩ = some (.string ⟨#[48]⟩)) :
    Calls Tryz.prog 11 #[.string op, .agg #[.slice (some ⟨g, 0, none⟩) 1 1, .slice none 0 0], .agg #[.slice none 0 0, .slice (some ⟨h, 0, none⟩) 1 1]] W (AEnd [0] [] 0 W) := by
  have hv : Vl W (some ⟨g, 0, none⟩) 1 none 0 [0] [] := ⟨Sl.row (l := [0]) hg, St.nil _ _, by omega⟩
  have h := SDyad_is (op := op) (c1 := 1) (d1 := 0) (c2 := 0) (d2 := 1) W hW ho hv (Vl.one hh) (ais_sz nil_ais rfl) (ais_sz zero_ais rfl) nil_ais zero_ais
  rw [dyA_nothing hk] at h
  exact h
set_option maxRecDepth 100000 in
set_option maxHeartbeats 6400000 in
theorem snothing_A {op : ByteArray} {a1 b1 a2 b2 : Option Addr} {c1 m1 d1 n2 c2 m2 d2 : Nat} {l m : List Int} {es fs : List ByteArray} {o p : Option Ar} (W : World) (hW : SC W) (ho : op.size ≤ maxLen) (hV : Vl W a1 0 b1 m1 l es) (hz1 : ∀ j, j < m1 → (es.getD j ByteArray.empty).size ≤ maxLen) (hU : Vl W a2 n2 b2 m2 m fs) (hz2 : ∀ j, j < m2 → (fs.getD j ByteArray.empty).size ≤ maxLen) (hf1 : fewB l es = true) (hf2 : fewB m fs = true) (hm1 : mayV l es = true) (hm2 : mayV m fs = true) (hk : kdL op.data.toList < 11) (A1 : AIs l es o) (A2 : AIs m fs p)  (r : Int) (hr : (dyA (kdL op.data.toList) o p).2 = r) (hr4 : ¬ r = 4) :
    Calls Tryz.prog 6 #[.string op, .agg #[.slice a1 0 c1, .slice b1 m1 d1], .agg #[.slice a2 n2 c2, .slice b2 m2 d2]] W (TrueEnd W) := by
  have KF1 := fun w (hb : Below W.heap.size W w) => Few_is (c := c1) (d := d1) w (hV.below hb) hz1
  rw [hf1] at KF1
  replace KF1 := Lib.hid KF1
  have KF2 := fun w (hb : Below W.heap.size W w) => Few_is (c := c2) (d := d2) w (hU.below hb) hz2
  rw [hf2] at KF2
  replace KF2 := Lib.hid KF2
  have KY1 := fun w (hb : Below W.heap.size W w) => VMay_is (c := c1) (d := d1) w (hV.below hb) hz1
  rw [hm1] at KY1
  replace KY1 := Lib.hid KY1
  have KY2 := fun w (hb : Below W.heap.size W w) => VMay_is (c := c2) (d := d2) w (hU.below hb) hz2
  rw [hm2] at KY2
  replace KY2 := Lib.hid KY2
  have KO := fun w (hb : Below W.heap.size W w) => Ops_is op ho w (hW.below hb)
  rw [decide_eq_true hk] at KO
  replace KO := Lib.hid KO
  have KD := fun w (hb : Below W.heap.size W w) => SDyad_is (op := op) (c1 := c1) (d1 := d1) (c2 := c2) (d2 := d2) w (hW.below hb) ho (hV.below hb) (hU.below hb) hz1 hz2 A1 A2
  rw [hr] at KD
  replace KD := Lib.hid KD
  have KX := fun w (hb : Below W.heap.size W w) g h (hg : w.heap[g]? = some (.cells #[.int .i64 0] 3 (0, 0))) (hh : w.cell? ⟨h, 0, none⟩ = some (.string ⟨#[48]⟩)) => nothing_go (op := op) w (hW.below hb) ho hk g h hg hh
  replace KX := Lib.hid KX
  have KS := Lib.hid (fun w (hb : Below W.heap.size W w) => sshown_is w (hW.below hb))
  have hXv := (Bx.new W a1 0 c1 b1 m1 d1).alloc (.cells #[.slice a2 n2 c2, .slice b2 m2 d2] 25)
  have hXu := Bx.two W (.cells #[.slice a1 0 c1, .slice b1 m1 d1] 25) a2 n2 c2 b2 m2 d2
  have hb : Below W.heap.size W ((W.alloc (.cells #[.slice a1 0 c1, .slice b1 m1 d1] 25)).alloc (.cells #[.slice a2 n2 c2, .slice b2 m2 d2] 25)) := ((Below.refl _ _).alloc (Nat.le_refl _) _).alloc (by simp) _
  have hVv := hV.below hb
  have hVu := hU.below hb
  have hr5 : (r == (4 : Int)) = false := beq_eq_false_iff_ne.2 hr4
  clear hW hV hz1 hf1 hU hz2 hf2 hm1 hm2 hk hr A1 A2 ho
  go_enter Tryz.func6, Tryz.ntmps6
  have cev0 := hXv.c0
  have cev1 := hXv.c1
  have ceu0 := hXu.c0
  have ceu1 := hXu.c1
  go_wp2_with fail
  refine (KS.out _ hb).mono ?_
  rintro e w1 ⟨rfl, hq⟩
  clear cev0 cev1 ceu0 ceu1
  replace hXv := hXv.below hq hXv.lt
  replace hVv := hVv.below hq
  replace hXu := hXu.below hq hXu.lt
  replace hVu := hVu.below hq
  replace hb := hb.trans (hq.mono hb.size)
  clear hq
  have cev0 := hXv.c0
  have cev1 := hXv.c1
  have ceu0 := hXu.c0
  have ceu1 := hXu.c1
  go_wp2_with fail
  refine (KF1.out _ hb).mono ?_
  rintro e w2 ⟨rfl, hq⟩
  clear cev0 cev1 ceu0 ceu1
  replace hXv := hXv.below hq hXv.lt
  replace hVv := hVv.below hq
  replace hXu := hXu.below hq hXu.lt
  replace hVu := hVu.below hq
  replace hb := hb.trans (hq.mono hb.size)
  clear hq
  have cev0 := hXv.c0
  have cev1 := hXv.c1
  have ceu0 := hXu.c0
  have ceu1 := hXu.c1
  go_wp2_with fail
  refine (KF2.out _ hb).mono ?_
  rintro e w3 ⟨rfl, hq⟩
  clear cev0 cev1 ceu0 ceu1
  replace hXv := hXv.below hq hXv.lt
  replace hVv := hVv.below hq
  replace hXu := hXu.below hq hXu.lt
  replace hVu := hVu.below hq
  replace hb := hb.trans (hq.mono hb.size)
  clear hq
  have cev0 := hXv.c0
  have cev1 := hXv.c1
  have ceu0 := hXu.c0
  have ceu1 := hXu.c1
  go_wp2_with fail
  refine (KY1.out _ hb).mono ?_
  rintro e w4 ⟨rfl, hq⟩
  clear cev0 cev1 ceu0 ceu1
  replace hXv := hXv.below hq hXv.lt
  replace hVv := hVv.below hq
  replace hXu := hXu.below hq hXu.lt
  replace hVu := hVu.below hq
  replace hb := hb.trans (hq.mono hb.size)
  clear hq
  have cev0 := hXv.c0
  have cev1 := hXv.c1
  have ceu0 := hXu.c0
  have ceu1 := hXu.c1
  go_wp2_with fail
  refine (KY2.out _ hb).mono ?_
  rintro e w5 ⟨rfl, hq⟩
  clear cev0 cev1 ceu0 ceu1
  replace hXv := hXv.below hq hXv.lt
  replace hVv := hVv.below hq
  replace hXu := hXu.below hq hXu.lt
  replace hVu := hVu.below hq
  replace hb := hb.trans (hq.mono hb.size)
  clear hq
  have cev0 := hXv.c0
  have cev1 := hXv.c1
  have ceu0 := hXu.c0
  have ceu1 := hXu.c1
  go_wp2_with fail
  refine (KO.out _ hb).mono ?_
  rintro e w6 ⟨rfl, hq⟩
  clear cev0 cev1 ceu0 ceu1
  replace hXv := hXv.below hq hXv.lt
  replace hVv := hVv.below hq
  replace hXu := hXu.below hq hXu.lt
  replace hVu := hVu.below hq
  replace hb := hb.trans (hq.mono hb.size)
  clear hq
  go_upto_region 5 with fail
  obtain ⟨hgz, hXz, hbl⟩ := rows2 w6 (.cells #[.int .i64 0] 3) (.cells #[.slice (some ⟨w6.heap.size, 0, none⟩) 1 1, .slice none 0 0] 25)
  replace hXv := hXv.below hbl hXv.lt
  replace hVv := hVv.below hbl
  replace hXu := hXu.below hbl hXu.lt
  replace hVu := hVu.below hbl
  replace hb := hb.trans (hbl.mono hb.size)
  have hXz : Bx ((w6.alloc (.cells #[.int .i64 0] 3)).alloc (.cells #[.slice (some ⟨w6.heap.size, 0, none⟩) 1 1, .slice none 0 0] 25)) (w6.heap.size + 1) (some ⟨w6.heap.size, 0, none⟩) 1 1 none 0 0 := hXz
  clear hbl
  generalize (w6.alloc (.cells #[.int .i64 0] 3)).alloc (.cells #[.slice (some ⟨w6.heap.size, 0, none⟩) 1 1, .slice none 0 0] 25) = wz at *
  have z0 := hXz.c0
  have z1 := hXz.c1
  have lz : w6.heap.size + 1 < wz.heap.size := hXz.lt
  have Q1 := Lib.hid (fun z (hz : Below wz.heap.size wz z) => (Scalar_is ⟨#[48]⟩ z).mono (R' := fun e W' => ∃ h, e = .returned (.agg #[.slice none 0 0, .slice (some ⟨h, 0, none⟩) 1 1]) ∧ W'.cell? ⟨h, 0, none⟩ = some (.string ⟨#[48]⟩) ∧ Below wz.heap.size wz W' ∧ Below z.heap.size z W') (fun e W' ⟨h, h1, h2, h3⟩ => ⟨h, h1, h2, hz.trans (h3.mono hz.size), h3⟩))
  have Q2 := Lib.hid (fun z (hz : Below wz.heap.size wz z) h (hh : z.cell? ⟨h, 0, none⟩ = some (.string ⟨#[48]⟩)) => (KX.out z (hb.trans (hz.mono hb.size)) w6.heap.size h ((hz.block _ (by omega)).trans hgz) hh).mono (R' := fun e W' => ∃ a n c b m d, e = .returned (.tuple #[.agg #[.slice a n c, .slice b m d], .int .i64 0]) ∧ Vl W' a n b m [0] [] ∧ Below wz.heap.size wz W' ∧ Below z.heap.size z W') (fun e W' ⟨a, n, c, b, m, d, h1, h2, h3, h4⟩ => ⟨a, n, c, b, m, d, h1, h2, hz.trans (h4.mono hz.size), h4⟩))
  have hq : Below wz.heap.size wz wz := Below.refl _ _
  have hqz := hq.size
  go_cut [9, 10] (fun p q wx => NoCut wz p q wx)
  case first =>
    clear hXv hXu hXz hVv hVu hgz hb KX KD
    go_region_held3 (fun w' => w'.cell? ⟨w6.heap.size + 1, 0, none⟩ = some (.slice (some ⟨w6.heap.size, 0, none⟩) 1 1) ∧ w'.cell? ⟨w6.heap.size + 1, 1, none⟩ = some (.slice none 0 0))
      (first | exact ⟨(Below.cell (p := ⟨w6.heap.size + 1, 0, none⟩) (by repeat' (first | exact hq | refine Below.drew ?_ | refine below_drewN ?_ _ | refine Below.alloc ?_ ?_ _ | refine Below.setCell ?_ ?_ _ | exact hqz | exact Nat.le_refl _ | omega | (simp; done) | (simp; omega))) lz).trans z0, (Below.cell (p := ⟨w6.heap.size + 1, 1, none⟩) (by repeat' (first | exact hq | refine Below.drew ?_ | refine below_drewN ?_ _ | refine Below.alloc ?_ ?_ _ | refine Below.setCell ?_ ?_ _ | exact hqz | exact Nat.le_refl _ | omega | (simp; done) | (simp; omega))) lz).trans z1⟩ | fail)
      (first
        | (go_at_call 22; (with_reducible refine (Q1.out _ (by repeat' (first | exact hq | refine Below.drew ?_ | refine below_drewN ?_ _ | refine Below.alloc ?_ ?_ _ | refine Below.setCell ?_ ?_ _ | exact hqz | exact Nat.le_refl _ | omega | (simp; done) | (simp; omega)))).mono ?_); rintro e wa ⟨h', rfl, hh', hq, hr⟩; have hqz := hq.size; (try (have hZa := Bx.on (a := none) (n := 0) (c := 0) (b := none) (m := 0) (d := 0) (by first | exact Bx.new _ _ _ _ _ _ _ | exact Bx.drewN (Bx.new _ _ _ _ _ _ _) _ | exact Bx.new (World.drew _) _ _ _ _ _ _) hr; have y0 := hZa.c0; have y1 := hZa.c1; have g0 := hZa.f 0; have g1 := hZa.f 1)))
        | (go_at_call 11; (with_reducible refine (Q2.out _ (by repeat' (first | exact hq | refine Below.drew ?_ | refine below_drewN ?_ _ | refine Below.alloc ?_ ?_ _ | refine Below.setCell ?_ ?_ _ | exact hqz | exact Nat.le_refl _ | omega | (simp; done) | (simp; omega))) _ (by first | exact hh' | (refine Eq.trans ?_ hh'; first | exact cell_alloc_far _ _ _ (World.block_lt_of_cell? _ _ hh')))).mono ?_); rintro e wb ⟨a', n', c', b', m', d', rfl, hv', hq, hr⟩; have hqz := hq.size; (try (have hZb := Bx.on (a := none) (n := 0) (c := 0) (b := none) (m := 0) (d := 0) (by first | exact Bx.new _ _ _ _ _ _ _ | exact Bx.drewN (Bx.new _ _ _ _ _ _ _) _ | exact Bx.new (World.drew _) _ _ _ _ _ _) hr; have y0 := hZb.c0; have y1 := hZb.c1; have g0 := hZb.f 0; have g1 := hZb.f 1)); (try (have hZb := Bx.on hZa hr; have y0 := hZb.c0; have y1 := hZb.c1; have g0 := hZb.f 0; have g1 := hZb.f 1))))
    all_goals
      go_wp2_with fail
      go_meet
      case rel => with_reducible first | exact NoCut.new hq hv' | (refine NoCut.set hq hv' hZb ?_ <;> first | exact Nat.le_refl _ | exact hqz | omega | (simp; done) | (simp; omega))
  case rest =>
    clear hq hqz Q1 Q2 z0 z1 lz
    obtain ⟨gx, ax, nx', cx, bx, mx, dx, rfl, rfl, hXx, hVx, hbc⟩ := hcut
    replace hXv := hXv.below hbc hXv.lt
    replace hVv := hVv.below hbc
    replace hXu := hXu.below hbc hXu.lt
    replace hVu := hVu.below hbc
    replace hb := hb.trans (hbc.mono hb.size)
    replace hXz := hXz.below hbc hXz.lt
    have hVz := vl_row0 ((hbc.block _ (Array.getElem?_eq_some_iff.1 hgz).1).trans hgz)
    clear hbc hgz
    have cev0 := hXv.c0
    have cev1 := hXv.c1
    have ceu0 := hXu.c0
    have ceu1 := hXu.c1
    have cez0 := hXz.c0
    have cez1 := hXz.c1
    have cex0 := hXx.c0
    have cex1 := hXx.c1
    go_wp2_with fail
    refine (KD.out _ hb).mono ?_
    rintro e w7 ⟨ay1, ny1, cy1, by1, my1, dy1, rfl, hVy1, hCy1, hq⟩
    clear cev0 cev1 ceu0 ceu1 cez0 cez1 cex0 cex1
    have hbl := (Below.refl w7.heap.size w7).alloc (Nat.le_refl _) (.cells #[.slice ay1 ny1 cy1, .slice by1 my1 dy1] 25)
    have hq2 := hq.trans (hbl.mono hq.size)
    replace hXv := hXv.below hq2 hXv.lt
    replace hVv := hVv.below hq2
    replace hXu := hXu.below hq2 hXu.lt
    replace hVu := hVu.below hq2
    replace hXz := hXz.below hq2 hXz.lt
    replace hVz := hVz.below hq2
    replace hXx := hXx.below hq2 hXx.lt
    replace hVx := hVx.below hq2
    replace hb := hb.trans (hq2.mono hb.size)
    have hXy1 := Bx.new w7 ay1 ny1 cy1 by1 my1 dy1
    replace hVy1 := hVy1.below hbl
    clear hq hbl hq2
    have cev0 := hXv.c0
    have cev1 := hXv.c1
    have ceu0 := hXu.c0
    have ceu1 := hXu.c1
    have cez0 := hXz.c0
    have cez1 := hXz.c1
    have cex0 := hXx.c0
    have cex1 := hXx.c1
    have cey10 := hXy1.c0
    have cey11 := hXy1.c1
    go_wp2_with fail
    refine (VSame_y _ hVx hVz (by decide)).mono ?_
    rintro e w8 ⟨rfl, hq⟩
    clear cev0 cev1 ceu0 ceu1 cez0 cez1 cex0 cex1 cey10 cey11
    replace hXv := hXv.below hq hXv.lt
    replace hVv := hVv.below hq
    replace hXu := hXu.below hq hXu.lt
    replace hVu := hVu.below hq
    replace hXz := hXz.below hq hXz.lt
    replace hVz := hVz.below hq
    replace hXx := hXx.below hq hXx.lt
    replace hVx := hVx.below hq
    replace hXy1 := hXy1.below hq hXy1.lt
    replace hVy1 := hVy1.below hq
    replace hb := hb.trans (hq.mono hb.size)
    clear hq
    go_wp2_with fail
    go_ret
    exact ⟨rfl, hb⟩
set_option maxRecDepth 100000 in
set_option maxHeartbeats 6400000 in
theorem snothing_B {op : ByteArray} {a1 b1 a2 b2 : Option Addr} {n1 c1 m1 d1 c2 m2 d2 : Nat} {l m : List Int} {es fs : List ByteArray} {o p : Option Ar} (W : World) (hW : SC W) (ho : op.size ≤ maxLen) (hV : Vl W a1 n1 b1 m1 l es) (hz1 : ∀ j, j < m1 → (es.getD j ByteArray.empty).size ≤ maxLen) (hU : Vl W a2 0 b2 m2 m fs) (hz2 : ∀ j, j < m2 → (fs.getD j ByteArray.empty).size ≤ maxLen) (hf1 : fewB l es = true) (hf2 : fewB m fs = true) (hm1 : mayV l es = true) (hm2 : mayV m fs = true) (hk : kdL op.data.toList < 11) (A1 : AIs l es o) (A2 : AIs m fs p) (hc : 0 < n1) (r : Int) (hr : (dyA (kdL op.data.toList) o p).2 = r) (hr4 : ¬ r = 4) :
    Calls Tryz.prog 6 #[.string op, .agg #[.slice a1 n1 c1, .slice b1 m1 d1], .agg #[.slice a2 0 c2, .slice b2 m2 d2]] W (TrueEnd W) := by
  have KF1 := fun w (hb : Below W.heap.size W w) => Few_is (c := c1) (d := d1) w (hV.below hb) hz1
  rw [hf1] at KF1
  replace KF1 := Lib.hid KF1
  have KF2 := fun w (hb : Below W.heap.size W w) => Few_is (c := c2) (d := d2) w (hU.below hb) hz2
  rw [hf2] at KF2
  replace KF2 := Lib.hid KF2
  have KY1 := fun w (hb : Below W.heap.size W w) => VMay_is (c := c1) (d := d1) w (hV.below hb) hz1
  rw [hm1] at KY1
  replace KY1 := Lib.hid KY1
  have KY2 := fun w (hb : Below W.heap.size W w) => VMay_is (c := c2) (d := d2) w (hU.below hb) hz2
  rw [hm2] at KY2
  replace KY2 := Lib.hid KY2
  have KO := fun w (hb : Below W.heap.size W w) => Ops_is op ho w (hW.below hb)
  rw [decide_eq_true hk] at KO
  replace KO := Lib.hid KO
  have KD := fun w (hb : Below W.heap.size W w) => SDyad_is (op := op) (c1 := c1) (d1 := d1) (c2 := c2) (d2 := d2) w (hW.below hb) ho (hV.below hb) (hU.below hb) hz1 hz2 A1 A2
  rw [hr] at KD
  replace KD := Lib.hid KD
  have KX := fun w (hb : Below W.heap.size W w) g h (hg : w.heap[g]? = some (.cells #[.int .i64 0] 3 (0, 0))) (hh : w.cell? ⟨h, 0, none⟩ = some (.string ⟨#[48]⟩)) => nothing_go (op := op) w (hW.below hb) ho hk g h hg hh
  replace KX := Lib.hid KX
  have KS := Lib.hid (fun w (hb : Below W.heap.size W w) => sshown_is w (hW.below hb))
  have hXv := (Bx.new W a1 n1 c1 b1 m1 d1).alloc (.cells #[.slice a2 0 c2, .slice b2 m2 d2] 25)
  have hXu := Bx.two W (.cells #[.slice a1 n1 c1, .slice b1 m1 d1] 25) a2 0 c2 b2 m2 d2
  have hb : Below W.heap.size W ((W.alloc (.cells #[.slice a1 n1 c1, .slice b1 m1 d1] 25)).alloc (.cells #[.slice a2 0 c2, .slice b2 m2 d2] 25)) := ((Below.refl _ _).alloc (Nat.le_refl _) _).alloc (by simp) _
  have hVv := hV.below hb
  have hVu := hU.below hb
  have hr5 : (r == (4 : Int)) = false := beq_eq_false_iff_ne.2 hr4
  clear hW hV hz1 hf1 hU hz2 hf2 hm1 hm2 hk hr A1 A2 ho
  go_enter Tryz.func6, Tryz.ntmps6
  have cev0 := hXv.c0
  have cev1 := hXv.c1
  have ceu0 := hXu.c0
  have ceu1 := hXu.c1
  go_wp2_with fail
  refine (KS.out _ hb).mono ?_
  rintro e w1 ⟨rfl, hq⟩
  clear cev0 cev1 ceu0 ceu1
  replace hXv := hXv.below hq hXv.lt
  replace hVv := hVv.below hq
  replace hXu := hXu.below hq hXu.lt
  replace hVu := hVu.below hq
  replace hb := hb.trans (hq.mono hb.size)
  clear hq
  have cev0 := hXv.c0
  have cev1 := hXv.c1
  have ceu0 := hXu.c0
  have ceu1 := hXu.c1
  go_wp2_with fail
  refine (KF1.out _ hb).mono ?_
  rintro e w2 ⟨rfl, hq⟩
  clear cev0 cev1 ceu0 ceu1
  replace hXv := hXv.below hq hXv.lt
  replace hVv := hVv.below hq
  replace hXu := hXu.below hq hXu.lt
  replace hVu := hVu.below hq
  replace hb := hb.trans (hq.mono hb.size)
  clear hq
  have cev0 := hXv.c0
  have cev1 := hXv.c1
  have ceu0 := hXu.c0
  have ceu1 := hXu.c1
  go_wp2_with fail
  refine (KF2.out _ hb).mono ?_
  rintro e w3 ⟨rfl, hq⟩
  clear cev0 cev1 ceu0 ceu1
  replace hXv := hXv.below hq hXv.lt
  replace hVv := hVv.below hq
  replace hXu := hXu.below hq hXu.lt
  replace hVu := hVu.below hq
  replace hb := hb.trans (hq.mono hb.size)
  clear hq
  have cev0 := hXv.c0
  have cev1 := hXv.c1
  have ceu0 := hXu.c0
  have ceu1 := hXu.c1
  go_wp2_with fail
  refine (KY1.out _ hb).mono ?_
  rintro e w4 ⟨rfl, hq⟩
  clear cev0 cev1 ceu0 ceu1
  replace hXv := hXv.below hq hXv.lt
  replace hVv := hVv.below hq
  replace hXu := hXu.below hq hXu.lt
  replace hVu := hVu.below hq
  replace hb := hb.trans (hq.mono hb.size)
  clear hq
  have cev0 := hXv.c0
  have cev1 := hXv.c1
  have ceu0 := hXu.c0
  have ceu1 := hXu.c1
  go_wp2_with fail
  refine (KY2.out _ hb).mono ?_
  rintro e w5 ⟨rfl, hq⟩
  clear cev0 cev1 ceu0 ceu1
  replace hXv := hXv.below hq hXv.lt
  replace hVv := hVv.below hq
  replace hXu := hXu.below hq hXu.lt
  replace hVu := hVu.below hq
  replace hb := hb.trans (hq.mono hb.size)
  clear hq
  have cev0 := hXv.c0
  have cev1 := hXv.c1
  have ceu0 := hXu.c0
  have ceu1 := hXu.c1
  go_wp2_with fail
  refine (KO.out _ hb).mono ?_
  rintro e w6 ⟨rfl, hq⟩
  clear cev0 cev1 ceu0 ceu1
  replace hXv := hXv.below hq hXv.lt
  replace hVv := hVv.below hq
  replace hXu := hXu.below hq hXu.lt
  replace hVu := hVu.below hq
  replace hb := hb.trans (hq.mono hb.size)
  clear hq
  go_upto_region 5 with fail
  obtain ⟨hgz, hXz, hbl⟩ := rows2 w6 (.cells #[.int .i64 0] 3) (.cells #[.slice (some ⟨w6.heap.size, 0, none⟩) 1 1, .slice none 0 0] 25)
  replace hXv := hXv.below hbl hXv.lt
  replace hVv := hVv.below hbl
  replace hXu := hXu.below hbl hXu.lt
  replace hVu := hVu.below hbl
  replace hb := hb.trans (hbl.mono hb.size)
  have hXz : Bx ((w6.alloc (.cells #[.int .i64 0] 3)).alloc (.cells #[.slice (some ⟨w6.heap.size, 0, none⟩) 1 1, .slice none 0 0] 25)) (w6.heap.size + 1) (some ⟨w6.heap.size, 0, none⟩) 1 1 none 0 0 := hXz
  clear hbl
  generalize (w6.alloc (.cells #[.int .i64 0] 3)).alloc (.cells #[.slice (some ⟨w6.heap.size, 0, none⟩) 1 1, .slice none 0 0] 25) = wz at *
  have z0 := hXz.c0
  have z1 := hXz.c1
  have lz : w6.heap.size + 1 < wz.heap.size := hXz.lt
  have Q1 := Lib.hid (fun z (hz : Below wz.heap.size wz z) => (Scalar_is ⟨#[48]⟩ z).mono (R' := fun e W' => ∃ h, e = .returned (.agg #[.slice none 0 0, .slice (some ⟨h, 0, none⟩) 1 1]) ∧ W'.cell? ⟨h, 0, none⟩ = some (.string ⟨#[48]⟩) ∧ Below wz.heap.size wz W' ∧ Below z.heap.size z W') (fun e W' ⟨h, h1, h2, h3⟩ => ⟨h, h1, h2, hz.trans (h3.mono hz.size), h3⟩))
  have Q2 := Lib.hid (fun z (hz : Below wz.heap.size wz z) h (hh : z.cell? ⟨h, 0, none⟩ = some (.string ⟨#[48]⟩)) => (KX.out z (hb.trans (hz.mono hb.size)) w6.heap.size h ((hz.block _ (by omega)).trans hgz) hh).mono (R' := fun e W' => ∃ a n c b m d, e = .returned (.tuple #[.agg #[.slice a n c, .slice b m d], .int .i64 0]) ∧ Vl W' a n b m [0] [] ∧ Below wz.heap.size wz W' ∧ Below z.heap.size z W') (fun e W' ⟨a, n, c, b, m, d, h1, h2, h3, h4⟩ => ⟨a, n, c, b, m, d, h1, h2, hz.trans (h4.mono hz.size), h4⟩))
  have hq : Below wz.heap.size wz wz := Below.refl _ _
  have hqz := hq.size
  go_cut [9, 10] (fun p q wx => NoCut wz p q wx)
  case first =>
    clear hXv hXu hXz hVv hVu hgz hb KX KD
    go_region_held3 (fun w' => w'.cell? ⟨w6.heap.size + 1, 0, none⟩ = some (.slice (some ⟨w6.heap.size, 0, none⟩) 1 1) ∧ w'.cell? ⟨w6.heap.size + 1, 1, none⟩ = some (.slice none 0 0))
      (first | exact ⟨(Below.cell (p := ⟨w6.heap.size + 1, 0, none⟩) (by repeat' (first | exact hq | refine Below.drew ?_ | refine below_drewN ?_ _ | refine Below.alloc ?_ ?_ _ | refine Below.setCell ?_ ?_ _ | exact hqz | exact Nat.le_refl _ | omega | (simp; done) | (simp; omega))) lz).trans z0, (Below.cell (p := ⟨w6.heap.size + 1, 1, none⟩) (by repeat' (first | exact hq | refine Below.drew ?_ | refine below_drewN ?_ _ | refine Below.alloc ?_ ?_ _ | refine Below.setCell ?_ ?_ _ | exact hqz | exact Nat.le_refl _ | omega | (simp; done) | (simp; omega))) lz).trans z1⟩ | fail)
      (first
        | (go_at_call 22; (with_reducible refine (Q1.out _ (by repeat' (first | exact hq | refine Below.drew ?_ | refine below_drewN ?_ _ | refine Below.alloc ?_ ?_ _ | refine Below.setCell ?_ ?_ _ | exact hqz | exact Nat.le_refl _ | omega | (simp; done) | (simp; omega)))).mono ?_); rintro e wa ⟨h', rfl, hh', hq, hr⟩; have hqz := hq.size; (try (have hZa := Bx.on (a := none) (n := 0) (c := 0) (b := none) (m := 0) (d := 0) (by first | exact Bx.new _ _ _ _ _ _ _ | exact Bx.drewN (Bx.new _ _ _ _ _ _ _) _ | exact Bx.new (World.drew _) _ _ _ _ _ _) hr; have y0 := hZa.c0; have y1 := hZa.c1; have g0 := hZa.f 0; have g1 := hZa.f 1)))
        | (go_at_call 11; (with_reducible refine (Q2.out _ (by repeat' (first | exact hq | refine Below.drew ?_ | refine below_drewN ?_ _ | refine Below.alloc ?_ ?_ _ | refine Below.setCell ?_ ?_ _ | exact hqz | exact Nat.le_refl _ | omega | (simp; done) | (simp; omega))) _ (by first | exact hh' | (refine Eq.trans ?_ hh'; first | exact cell_alloc_far _ _ _ (World.block_lt_of_cell? _ _ hh')))).mono ?_); rintro e wb ⟨a', n', c', b', m', d', rfl, hv', hq, hr⟩; have hqz := hq.size; (try (have hZb := Bx.on (a := none) (n := 0) (c := 0) (b := none) (m := 0) (d := 0) (by first | exact Bx.new _ _ _ _ _ _ _ | exact Bx.drewN (Bx.new _ _ _ _ _ _ _) _ | exact Bx.new (World.drew _) _ _ _ _ _ _) hr; have y0 := hZb.c0; have y1 := hZb.c1; have g0 := hZb.f 0; have g1 := hZb.f 1)); (try (have hZb := Bx.on hZa hr; have y0 := hZb.c0; have y1 := hZb.c1; have g0 := hZb.f 0; have g1 := hZb.f 1))))
    all_goals
      go_wp2_with fail
      go_meet
      case rel => with_reducible first | exact NoCut.new hq hv' | (refine NoCut.set hq hv' hZb ?_ <;> first | exact Nat.le_refl _ | exact hqz | omega | (simp; done) | (simp; omega))
  case rest =>
    clear hq hqz Q1 Q2 z0 z1 lz
    obtain ⟨gx, ax, nx', cx, bx, mx, dx, rfl, rfl, hXx, hVx, hbc⟩ := hcut
    replace hXv := hXv.below hbc hXv.lt
    replace hVv := hVv.below hbc
    replace hXu := hXu.below hbc hXu.lt
    replace hVu := hVu.below hbc
    replace hb := hb.trans (hbc.mono hb.size)
    replace hXz := hXz.below hbc hXz.lt
    have hVz := vl_row0 ((hbc.block _ (Array.getElem?_eq_some_iff.1 hgz).1).trans hgz)
    clear hbc hgz
    have cev0 := hXv.c0
    have cev1 := hXv.c1
    have ceu0 := hXu.c0
    have ceu1 := hXu.c1
    have cez0 := hXz.c0
    have cez1 := hXz.c1
    have cex0 := hXx.c0
    have cex1 := hXx.c1
    go_wp2_with fail
    refine (KD.out _ hb).mono ?_
    rintro e w7 ⟨ay1, ny1, cy1, by1, my1, dy1, rfl, hVy1, hCy1, hq⟩
    clear cev0 cev1 ceu0 ceu1 cez0 cez1 cex0 cex1
    have hbl := (Below.refl w7.heap.size w7).alloc (Nat.le_refl _) (.cells #[.slice ay1 ny1 cy1, .slice by1 my1 dy1] 25)
    have hq2 := hq.trans (hbl.mono hq.size)
    replace hXv := hXv.below hq2 hXv.lt
    replace hVv := hVv.below hq2
    replace hXu := hXu.below hq2 hXu.lt
    replace hVu := hVu.below hq2
    replace hXz := hXz.below hq2 hXz.lt
    replace hVz := hVz.below hq2
    replace hXx := hXx.below hq2 hXx.lt
    replace hVx := hVx.below hq2
    replace hb := hb.trans (hq2.mono hb.size)
    have hXy1 := Bx.new w7 ay1 ny1 cy1 by1 my1 dy1
    replace hVy1 := hVy1.below hbl
    clear hq hbl hq2
    have cev0 := hXv.c0
    have cev1 := hXv.c1
    have ceu0 := hXu.c0
    have ceu1 := hXu.c1
    have cez0 := hXz.c0
    have cez1 := hXz.c1
    have cex0 := hXx.c0
    have cex1 := hXx.c1
    have cey10 := hXy1.c0
    have cey11 := hXy1.c1
    go_wp2_with fail
    refine (VSame_y _ hVx hVz (by decide)).mono ?_
    rintro e w8 ⟨rfl, hq⟩
    clear cev0 cev1 ceu0 ceu1 cez0 cez1 cex0 cex1 cey10 cey11
    replace hXv := hXv.below hq hXv.lt
    replace hVv := hVv.below hq
    replace hXu := hXu.below hq hXu.lt
    replace hVu := hVu.below hq
    replace hXz := hXz.below hq hXz.lt
    replace hVz := hVz.below hq
    replace hXx := hXx.below hq hXx.lt
    replace hVx := hVx.below hq
    replace hXy1 := hXy1.below hq hXy1.lt
    replace hVy1 := hVy1.below hq
    replace hb := hb.trans (hq.mono hb.size)
    clear hq
    go_wp2_with fail
    go_ret
    exact ⟨rfl, hb⟩
set_option maxRecDepth 100000 in
set_option maxHeartbeats 6400000 in
theorem snothing_C {op : ByteArray} {a1 b1 a2 b2 : Option Addr} {n1 c1 m1 d1 n2 c2 m2 d2 : Nat} {l m : List Int} {es fs : List ByteArray} {o p : Option Ar} (W : World) (hW : SC W) (ho : op.size ≤ maxLen) (hV : Vl W a1 n1 b1 m1 l es) (hz1 : ∀ j, j < m1 → (es.getD j ByteArray.empty).size ≤ maxLen) (hU : Vl W a2 n2 b2 m2 m fs) (hz2 : ∀ j, j < m2 → (fs.getD j ByteArray.empty).size ≤ maxLen) (hf1 : fewB l es = true) (hf2 : fewB m fs = true) (hm1 : mayV l es = true) (hm2 : mayV m fs = true) (hk : kdL op.data.toList < 11) (A1 : AIs l es o) (A2 : AIs m fs p) (hc : 0 < n1) (hc2 : 0 < n2) (hlm : (l == m) = true) (r : Int) (hr : (dyA (kdL op.data.toList) o p).2 = r) (hr4 : ¬ r = 4) :
    Calls Tryz.prog 6 #[.string op, .agg #[.slice a1 n1 c1, .slice b1 m1 d1], .agg #[.slice a2 n2 c2, .slice b2 m2 d2]] W (TrueEnd W) := by
  have KF1 := fun w (hb : Below W.heap.size W w) => Few_is (c := c1) (d := d1) w (hV.below hb) hz1
  rw [hf1] at KF1
  replace KF1 := Lib.hid KF1
  have KF2 := fun w (hb : Below W.heap.size W w) => Few_is (c := c2) (d := d2) w (hU.below hb) hz2
  rw [hf2] at KF2
  replace KF2 := Lib.hid KF2
  have KY1 := fun w (hb : Below W.heap.size W w) => VMay_is (c := c1) (d := d1) w (hV.below hb) hz1
  rw [hm1] at KY1
  replace KY1 := Lib.hid KY1
  have KY2 := fun w (hb : Below W.heap.size W w) => VMay_is (c := c2) (d := d2) w (hU.below hb) hz2
  rw [hm2] at KY2
  replace KY2 := Lib.hid KY2
  have KO := fun w (hb : Below W.heap.size W w) => Ops_is op ho w (hW.below hb)
  rw [decide_eq_true hk] at KO
  replace KO := Lib.hid KO
  have KD := fun w (hb : Below W.heap.size W w) => SDyad_is (op := op) (c1 := c1) (d1 := d1) (c2 := c2) (d2 := d2) w (hW.below hb) ho (hV.below hb) (hU.below hb) hz1 hz2 A1 A2
  rw [hr] at KD
  replace KD := Lib.hid KD
  have KX := fun w (hb : Below W.heap.size W w) g h (hg : w.heap[g]? = some (.cells #[.int .i64 0] 3 (0, 0))) (hh : w.cell? ⟨h, 0, none⟩ = some (.string ⟨#[48]⟩)) => nothing_go (op := op) w (hW.below hb) ho hk g h hg hh
  replace KX := Lib.hid KX
  have KS := Lib.hid (fun w (hb : Below W.heap.size W w) => sshown_is w (hW.below hb))
  have hXv := (Bx.new W a1 n1 c1 b1 m1 d1).alloc (.cells #[.slice a2 n2 c2, .slice b2 m2 d2] 25)
  have hXu := Bx.two W (.cells #[.slice a1 n1 c1, .slice b1 m1 d1] 25) a2 n2 c2 b2 m2 d2
  have hb : Below W.heap.size W ((W.alloc (.cells #[.slice a1 n1 c1, .slice b1 m1 d1] 25)).alloc (.cells #[.slice a2 n2 c2, .slice b2 m2 d2] 25)) := ((Below.refl _ _).alloc (Nat.le_refl _) _).alloc (by simp) _
  have hVv := hV.below hb
  have hVu := hU.below hb
  have hr5 : (r == (4 : Int)) = false := beq_eq_false_iff_ne.2 hr4
  have hn1 : n1 ≤ 20 := by have := (fewB_yes hf1).1; rw [hV.s.1] at this; exact this
  have hn2 : n2 ≤ 20 := by have := (fewB_yes hf2).1; rw [hU.s.1] at this; exact this
  clear hW hV hz1 hf1 hU hz2 hf2 hm1 hm2 hk hr A1 A2 ho
  go_enter Tryz.func6, Tryz.ntmps6
  have cev0 := hXv.c0
  have cev1 := hXv.c1
  have ceu0 := hXu.c0
  have ceu1 := hXu.c1
  go_wp2_with fail
  refine (KS.out _ hb).mono ?_
  rintro e w1 ⟨rfl, hq⟩
  clear cev0 cev1 ceu0 ceu1
  replace hXv := hXv.below hq hXv.lt
  replace hVv := hVv.below hq
  replace hXu := hXu.below hq hXu.lt
  replace hVu := hVu.below hq
  replace hb := hb.trans (hq.mono hb.size)
  clear hq
  have cev0 := hXv.c0
  have cev1 := hXv.c1
  have ceu0 := hXu.c0
  have ceu1 := hXu.c1
  go_wp2_with fail
  refine (KF1.out _ hb).mono ?_
  rintro e w2 ⟨rfl, hq⟩
  clear cev0 cev1 ceu0 ceu1
  replace hXv := hXv.below hq hXv.lt
  replace hVv := hVv.below hq
  replace hXu := hXu.below hq hXu.lt
  replace hVu := hVu.below hq
  replace hb := hb.trans (hq.mono hb.size)
  clear hq
  have cev0 := hXv.c0
  have cev1 := hXv.c1
  have ceu0 := hXu.c0
  have ceu1 := hXu.c1
  go_wp2_with fail
  refine (KF2.out _ hb).mono ?_
  rintro e w3 ⟨rfl, hq⟩
  clear cev0 cev1 ceu0 ceu1
  replace hXv := hXv.below hq hXv.lt
  replace hVv := hVv.below hq
  replace hXu := hXu.below hq hXu.lt
  replace hVu := hVu.below hq
  replace hb := hb.trans (hq.mono hb.size)
  clear hq
  have cev0 := hXv.c0
  have cev1 := hXv.c1
  have ceu0 := hXu.c0
  have ceu1 := hXu.c1
  go_wp2_with fail
  refine (KY1.out _ hb).mono ?_
  rintro e w4 ⟨rfl, hq⟩
  clear cev0 cev1 ceu0 ceu1
  replace hXv := hXv.below hq hXv.lt
  replace hVv := hVv.below hq
  replace hXu := hXu.below hq hXu.lt
  replace hVu := hVu.below hq
  replace hb := hb.trans (hq.mono hb.size)
  clear hq
  have cev0 := hXv.c0
  have cev1 := hXv.c1
  have ceu0 := hXu.c0
  have ceu1 := hXu.c1
  go_wp2_with fail
  refine (KY2.out _ hb).mono ?_
  rintro e w5 ⟨rfl, hq⟩
  clear cev0 cev1 ceu0 ceu1
  replace hXv := hXv.below hq hXv.lt
  replace hVv := hVv.below hq
  replace hXu := hXu.below hq hXu.lt
  replace hVu := hVu.below hq
  replace hb := hb.trans (hq.mono hb.size)
  clear hq
  have cev0 := hXv.c0
  have cev1 := hXv.c1
  have ceu0 := hXu.c0
  have ceu1 := hXu.c1
  go_wp2_with fail
  refine (KO.out _ hb).mono ?_
  rintro e w6 ⟨rfl, hq⟩
  clear cev0 cev1 ceu0 ceu1
  replace hXv := hXv.below hq hXv.lt
  replace hVv := hVv.below hq
  replace hXu := hXu.below hq hXu.lt
  replace hVu := hVu.below hq
  replace hb := hb.trans (hq.mono hb.size)
  clear hq
  go_upto_region 5 with fail
  obtain ⟨hgz, hXz, hbl⟩ := rows2 w6 (.cells #[.int .i64 0] 3) (.cells #[.slice (some ⟨w6.heap.size, 0, none⟩) 1 1, .slice none 0 0] 25)
  replace hXv := hXv.below hbl hXv.lt
  replace hVv := hVv.below hbl
  replace hXu := hXu.below hbl hXu.lt
  replace hVu := hVu.below hbl
  replace hb := hb.trans (hbl.mono hb.size)
  have hXz : Bx ((w6.alloc (.cells #[.int .i64 0] 3)).alloc (.cells #[.slice (some ⟨w6.heap.size, 0, none⟩) 1 1, .slice none 0 0] 25)) (w6.heap.size + 1) (some ⟨w6.heap.size, 0, none⟩) 1 1 none 0 0 := hXz
  clear hbl
  generalize (w6.alloc (.cells #[.int .i64 0] 3)).alloc (.cells #[.slice (some ⟨w6.heap.size, 0, none⟩) 1 1, .slice none 0 0] 25) = wz at *
  have z0 := hXz.c0
  have z1 := hXz.c1
  have lz : w6.heap.size + 1 < wz.heap.size := hXz.lt
  have Q1 := Lib.hid (fun z (hz : Below wz.heap.size wz z) => (Scalar_is ⟨#[48]⟩ z).mono (R' := fun e W' => ∃ h, e = .returned (.agg #[.slice none 0 0, .slice (some ⟨h, 0, none⟩) 1 1]) ∧ W'.cell? ⟨h, 0, none⟩ = some (.string ⟨#[48]⟩) ∧ Below wz.heap.size wz W' ∧ Below z.heap.size z W') (fun e W' ⟨h, h1, h2, h3⟩ => ⟨h, h1, h2, hz.trans (h3.mono hz.size), h3⟩))
  have Q2 := Lib.hid (fun z (hz : Below wz.heap.size wz z) h (hh : z.cell? ⟨h, 0, none⟩ = some (.string ⟨#[48]⟩)) => (KX.out z (hb.trans (hz.mono hb.size)) w6.heap.size h ((hz.block _ (by omega)).trans hgz) hh).mono (R' := fun e W' => ∃ a n c b m d, e = .returned (.tuple #[.agg #[.slice a n c, .slice b m d], .int .i64 0]) ∧ Vl W' a n b m [0] [] ∧ Below wz.heap.size wz W' ∧ Below z.heap.size z W') (fun e W' ⟨a, n, c, b, m, d, h1, h2, h3, h4⟩ => ⟨a, n, c, b, m, d, h1, h2, hz.trans (h4.mono hz.size), h4⟩))
  have hq : Below wz.heap.size wz wz := Below.refl _ _
  have hqz := hq.size
  go_cut [9, 10] (fun p q wx => NoCut wz p q wx)
  case first =>
    clear hXv hXu hXz hVv hVu hgz hb KX KD
    go_region_held3 (fun w' => w'.cell? ⟨w6.heap.size + 1, 0, none⟩ = some (.slice (some ⟨w6.heap.size, 0, none⟩) 1 1) ∧ w'.cell? ⟨w6.heap.size + 1, 1, none⟩ = some (.slice none 0 0))
      (first | exact ⟨(Below.cell (p := ⟨w6.heap.size + 1, 0, none⟩) (by repeat' (first | exact hq | refine Below.drew ?_ | refine below_drewN ?_ _ | refine Below.alloc ?_ ?_ _ | refine Below.setCell ?_ ?_ _ | exact hqz | exact Nat.le_refl _ | omega | (simp; done) | (simp; omega))) lz).trans z0, (Below.cell (p := ⟨w6.heap.size + 1, 1, none⟩) (by repeat' (first | exact hq | refine Below.drew ?_ | refine below_drewN ?_ _ | refine Below.alloc ?_ ?_ _ | refine Below.setCell ?_ ?_ _ | exact hqz | exact Nat.le_refl _ | omega | (simp; done) | (simp; omega))) lz).trans z1⟩ | fail)
      (first
        | (go_at_call 22; (with_reducible refine (Q1.out _ (by repeat' (first | exact hq | refine Below.drew ?_ | refine below_drewN ?_ _ | refine Below.alloc ?_ ?_ _ | refine Below.setCell ?_ ?_ _ | exact hqz | exact Nat.le_refl _ | omega | (simp; done) | (simp; omega)))).mono ?_); rintro e wa ⟨h', rfl, hh', hq, hr⟩; have hqz := hq.size; (try (have hZa := Bx.on (a := none) (n := 0) (c := 0) (b := none) (m := 0) (d := 0) (by first | exact Bx.new _ _ _ _ _ _ _ | exact Bx.drewN (Bx.new _ _ _ _ _ _ _) _ | exact Bx.new (World.drew _) _ _ _ _ _ _) hr; have y0 := hZa.c0; have y1 := hZa.c1; have g0 := hZa.f 0; have g1 := hZa.f 1)))
        | (go_at_call 11; (with_reducible refine (Q2.out _ (by repeat' (first | exact hq | refine Below.drew ?_ | refine below_drewN ?_ _ | refine Below.alloc ?_ ?_ _ | refine Below.setCell ?_ ?_ _ | exact hqz | exact Nat.le_refl _ | omega | (simp; done) | (simp; omega))) _ (by first | exact hh' | (refine Eq.trans ?_ hh'; first | exact cell_alloc_far _ _ _ (World.block_lt_of_cell? _ _ hh')))).mono ?_); rintro e wb ⟨a', n', c', b', m', d', rfl, hv', hq, hr⟩; have hqz := hq.size; (try (have hZb := Bx.on (a := none) (n := 0) (c := 0) (b := none) (m := 0) (d := 0) (by first | exact Bx.new _ _ _ _ _ _ _ | exact Bx.drewN (Bx.new _ _ _ _ _ _ _) _ | exact Bx.new (World.drew _) _ _ _ _ _ _) hr; have y0 := hZb.c0; have y1 := hZb.c1; have g0 := hZb.f 0; have g1 := hZb.f 1)); (try (have hZb := Bx.on hZa hr; have y0 := hZb.c0; have y1 := hZb.c1; have g0 := hZb.f 0; have g1 := hZb.f 1))))
    all_goals
      go_wp2_with fail
      go_meet
      case rel => with_reducible first | exact NoCut.new hq hv' | (refine NoCut.set hq hv' hZb ?_ <;> first | exact Nat.le_refl _ | exact hqz | omega | (simp; done) | (simp; omega))
  case rest =>
    clear hq hqz Q1 Q2 z0 z1 lz
    obtain ⟨gx, ax, nx', cx, bx, mx, dx, rfl, rfl, hXx, hVx, hbc⟩ := hcut
    replace hXv := hXv.below hbc hXv.lt
    replace hVv := hVv.below hbc
    replace hXu := hXu.below hbc hXu.lt
    replace hVu := hVu.below hbc
    replace hb := hb.trans (hbc.mono hb.size)
    replace hXz := hXz.below hbc hXz.lt
    have hVz := vl_row0 ((hbc.block _ (Array.getElem?_eq_some_iff.1 hgz).1).trans hgz)
    clear hbc hgz
    have cev0 := hXv.c0
    have cev1 := hXv.c1
    have ceu0 := hXu.c0
    have ceu1 := hXu.c1
    have cez0 := hXz.c0
    have cez1 := hXz.c1
    have cex0 := hXx.c0
    have cex1 := hXx.c1
    go_wp2_with fail
    refine (KD.out _ hb).mono ?_
    rintro e w7 ⟨ay1, ny1, cy1, by1, my1, dy1, rfl, hVy1, hCy1, hq⟩
    clear cev0 cev1 ceu0 ceu1 cez0 cez1 cex0 cex1
    have hbl := (Below.refl w7.heap.size w7).alloc (Nat.le_refl _) (.cells #[.slice ay1 ny1 cy1, .slice by1 my1 dy1] 25)
    have hq2 := hq.trans (hbl.mono hq.size)
    replace hXv := hXv.below hq2 hXv.lt
    replace hVv := hVv.below hq2
    replace hXu := hXu.below hq2 hXu.lt
    replace hVu := hVu.below hq2
    replace hXz := hXz.below hq2 hXz.lt
    replace hVz := hVz.below hq2
    replace hXx := hXx.below hq2 hXx.lt
    replace hVx := hVx.below hq2
    replace hb := hb.trans (hq2.mono hb.size)
    have hXy1 := Bx.new w7 ay1 ny1 cy1 by1 my1 dy1
    replace hVy1 := hVy1.below hbl
    clear hq hbl hq2
    have cev0 := hXv.c0
    have cev1 := hXv.c1
    have ceu0 := hXu.c0
    have ceu1 := hXu.c1
    have cez0 := hXz.c0
    have cez1 := hXz.c1
    have cex0 := hXx.c0
    have cex1 := hXx.c1
    have cey10 := hXy1.c0
    have cey11 := hXy1.c1
    go_wp2_with fail
    refine (VSame_is _ (Vl.mk hVv.s (St.nil _ _) (by omega)) (Vl.mk hVu.s (St.nil _ _) (by omega)) (by omega) (by omega)).mono ?_
    rintro e w8 ⟨rfl, hq⟩
    clear cev0 cev1 ceu0 ceu1 cez0 cez1 cex0 cex1 cey10 cey11
    replace hXv := hXv.below hq hXv.lt
    replace hVv := hVv.below hq
    replace hXu := hXu.below hq hXu.lt
    replace hVu := hVu.below hq
    replace hXz := hXz.below hq hXz.lt
    replace hVz := hVz.below hq
    replace hXx := hXx.below hq hXx.lt
    replace hVx := hVx.below hq
    replace hXy1 := hXy1.below hq hXy1.lt
    replace hVy1 := hVy1.below hq
    replace hb := hb.trans (hq.mono hb.size)
    clear hq
    rw [hlm, show decide (([] : List ByteArray) = []) = true by decide]
    have cev0 := hXv.c0
    have cev1 := hXv.c1
    have ceu0 := hXu.c0
    have ceu1 := hXu.c1
    have cez0 := hXz.c0
    have cez1 := hXz.c1
    have cex0 := hXx.c0
    have cex1 := hXx.c1
    have cey10 := hXy1.c0
    have cey11 := hXy1.c1
    go_wp2_with fail
    refine (VSame_y _ hVx hVz (by decide)).mono ?_
    rintro e w9 ⟨rfl, hq⟩
    clear cev0 cev1 ceu0 ceu1 cez0 cez1 cex0 cex1 cey10 cey11
    replace hXv := hXv.below hq hXv.lt
    replace hVv := hVv.below hq
    replace hXu := hXu.below hq hXu.lt
    replace hVu := hVu.below hq
    replace hXz := hXz.below hq hXz.lt
    replace hVz := hVz.below hq
    replace hXx := hXx.below hq hXx.lt
    replace hVx := hVx.below hq
    replace hXy1 := hXy1.below hq hXy1.lt
    replace hVy1 := hVy1.below hq
    replace hb := hb.trans (hq.mono hb.size)
    clear hq
    go_wp2_with fail
    go_ret
    exact ⟨rfl, hb⟩
set_option maxRecDepth 100000 in
set_option maxHeartbeats 6400000 in
theorem snothing_D {op : ByteArray} {a1 b1 a2 b2 : Option Addr} {n1 c1 m1 d1 n2 c2 m2 d2 : Nat} {l m : List Int} {es fs : List ByteArray} {o p : Option Ar} (W : World) (hW : SC W) (ho : op.size ≤ maxLen) (hV : Vl W a1 n1 b1 m1 l es) (hz1 : ∀ j, j < m1 → (es.getD j ByteArray.empty).size ≤ maxLen) (hU : Vl W a2 n2 b2 m2 m fs) (hz2 : ∀ j, j < m2 → (fs.getD j ByteArray.empty).size ≤ maxLen) (hf1 : fewB l es = true) (hf2 : fewB m fs = true) (hm1 : mayV l es = true) (hm2 : mayV m fs = true) (hk : kdL op.data.toList < 11) (A1 : AIs l es o) (A2 : AIs m fs p) (hc : 0 < n1) (hc2 : 0 < n2) (hlm : (l == m) = false) (r : Int) (hr : (dyA (kdL op.data.toList) o p).2 = r) (hr4 : r = 4) :
    Calls Tryz.prog 6 #[.string op, .agg #[.slice a1 n1 c1, .slice b1 m1 d1], .agg #[.slice a2 n2 c2, .slice b2 m2 d2]] W (TrueEnd W) := by
  have KF1 := fun w (hb : Below W.heap.size W w) => Few_is (c := c1) (d := d1) w (hV.below hb) hz1
  rw [hf1] at KF1
  replace KF1 := Lib.hid KF1
  have KF2 := fun w (hb : Below W.heap.size W w) => Few_is (c := c2) (d := d2) w (hU.below hb) hz2
  rw [hf2] at KF2
  replace KF2 := Lib.hid KF2
  have KY1 := fun w (hb : Below W.heap.size W w) => VMay_is (c := c1) (d := d1) w (hV.below hb) hz1
  rw [hm1] at KY1
  replace KY1 := Lib.hid KY1
  have KY2 := fun w (hb : Below W.heap.size W w) => VMay_is (c := c2) (d := d2) w (hU.below hb) hz2
  rw [hm2] at KY2
  replace KY2 := Lib.hid KY2
  have KO := fun w (hb : Below W.heap.size W w) => Ops_is op ho w (hW.below hb)
  rw [decide_eq_true hk] at KO
  replace KO := Lib.hid KO
  have KD := fun w (hb : Below W.heap.size W w) => SDyad_is (op := op) (c1 := c1) (d1 := d1) (c2 := c2) (d2 := d2) w (hW.below hb) ho (hV.below hb) (hU.below hb) hz1 hz2 A1 A2
  rw [hr] at KD
  replace KD := Lib.hid KD
  have KX := fun w (hb : Below W.heap.size W w) g h (hg : w.heap[g]? = some (.cells #[.int .i64 0] 3 (0, 0))) (hh : w.cell? ⟨h, 0, none⟩ = some (.string ⟨#[48]⟩)) => nothing_go (op := op) w (hW.below hb) ho hk g h hg hh
  replace KX := Lib.hid KX
  have KS := Lib.hid (fun w (hb : Below W.heap.size W w) => sshown_is w (hW.below hb))
  have hXv := (Bx.new W a1 n1 c1 b1 m1 d1).alloc (.cells #[.slice a2 n2 c2, .slice b2 m2 d2] 25)
  have hXu := Bx.two W (.cells #[.slice a1 n1 c1, .slice b1 m1 d1] 25) a2 n2 c2 b2 m2 d2
  have hb : Below W.heap.size W ((W.alloc (.cells #[.slice a1 n1 c1, .slice b1 m1 d1] 25)).alloc (.cells #[.slice a2 n2 c2, .slice b2 m2 d2] 25)) := ((Below.refl _ _).alloc (Nat.le_refl _) _).alloc (by simp) _
  have hVv := hV.below hb
  have hVu := hU.below hb
  have hn1 : n1 ≤ 20 := by have := (fewB_yes hf1).1; rw [hV.s.1] at this; exact this
  have hn2 : n2 ≤ 20 := by have := (fewB_yes hf2).1; rw [hU.s.1] at this; exact this
  clear hW hV hz1 hf1 hU hz2 hf2 hm1 hm2 hk hr A1 A2 ho
  go_enter Tryz.func6, Tryz.ntmps6
  have cev0 := hXv.c0
  have cev1 := hXv.c1
  have ceu0 := hXu.c0
  have ceu1 := hXu.c1
  go_wp2_with fail
  refine (KS.out _ hb).mono ?_
  rintro e w1 ⟨rfl, hq⟩
  clear cev0 cev1 ceu0 ceu1
  replace hXv := hXv.below hq hXv.lt
  replace hVv := hVv.below hq
  replace hXu := hXu.below hq hXu.lt
  replace hVu := hVu.below hq
  replace hb := hb.trans (hq.mono hb.size)
  clear hq
  have cev0 := hXv.c0
  have cev1 := hXv.c1
  have ceu0 := hXu.c0
  have ceu1 := hXu.c1
  go_wp2_with fail
  refine (KF1.out _ hb).mono ?_
  rintro e w2 ⟨rfl, hq⟩
  clear cev0 cev1 ceu0 ceu1
  replace hXv := hXv.below hq hXv.lt
  replace hVv := hVv.below hq
  replace hXu := hXu.below hq hXu.lt
  replace hVu := hVu.below hq
  replace hb := hb.trans (hq.mono hb.size)
  clear hq
  have cev0 := hXv.c0
  have cev1 := hXv.c1
  have ceu0 := hXu.c0
  have ceu1 := hXu.c1
  go_wp2_with fail
  refine (KF2.out _ hb).mono ?_
  rintro e w3 ⟨rfl, hq⟩
  clear cev0 cev1 ceu0 ceu1
  replace hXv := hXv.below hq hXv.lt
  replace hVv := hVv.below hq
  replace hXu := hXu.below hq hXu.lt
  replace hVu := hVu.below hq
  replace hb := hb.trans (hq.mono hb.size)
  clear hq
  have cev0 := hXv.c0
  have cev1 := hXv.c1
  have ceu0 := hXu.c0
  have ceu1 := hXu.c1
  go_wp2_with fail
  refine (KY1.out _ hb).mono ?_
  rintro e w4 ⟨rfl, hq⟩
  clear cev0 cev1 ceu0 ceu1
  replace hXv := hXv.below hq hXv.lt
  replace hVv := hVv.below hq
  replace hXu := hXu.below hq hXu.lt
  replace hVu := hVu.below hq
  replace hb := hb.trans (hq.mono hb.size)
  clear hq
  have cev0 := hXv.c0
  have cev1 := hXv.c1
  have ceu0 := hXu.c0
  have ceu1 := hXu.c1
  go_wp2_with fail
  refine (KY2.out _ hb).mono ?_
  rintro e w5 ⟨rfl, hq⟩
  clear cev0 cev1 ceu0 ceu1
  replace hXv := hXv.below hq hXv.lt
  replace hVv := hVv.below hq
  replace hXu := hXu.below hq hXu.lt
  replace hVu := hVu.below hq
  replace hb := hb.trans (hq.mono hb.size)
  clear hq
  have cev0 := hXv.c0
  have cev1 := hXv.c1
  have ceu0 := hXu.c0
  have ceu1 := hXu.c1
  go_wp2_with fail
  refine (KO.out _ hb).mono ?_
  rintro e w6 ⟨rfl, hq⟩
  clear cev0 cev1 ceu0 ceu1
  replace hXv := hXv.below hq hXv.lt
  replace hVv := hVv.below hq
  replace hXu := hXu.below hq hXu.lt
  replace hVu := hVu.below hq
  replace hb := hb.trans (hq.mono hb.size)
  clear hq
  go_upto_region 5 with fail
  obtain ⟨hgz, hXz, hbl⟩ := rows2 w6 (.cells #[.int .i64 0] 3) (.cells #[.slice (some ⟨w6.heap.size, 0, none⟩) 1 1, .slice none 0 0] 25)
  replace hXv := hXv.below hbl hXv.lt
  replace hVv := hVv.below hbl
  replace hXu := hXu.below hbl hXu.lt
  replace hVu := hVu.below hbl
  replace hb := hb.trans (hbl.mono hb.size)
  have hXz : Bx ((w6.alloc (.cells #[.int .i64 0] 3)).alloc (.cells #[.slice (some ⟨w6.heap.size, 0, none⟩) 1 1, .slice none 0 0] 25)) (w6.heap.size + 1) (some ⟨w6.heap.size, 0, none⟩) 1 1 none 0 0 := hXz
  clear hbl
  generalize (w6.alloc (.cells #[.int .i64 0] 3)).alloc (.cells #[.slice (some ⟨w6.heap.size, 0, none⟩) 1 1, .slice none 0 0] 25) = wz at *
  have z0 := hXz.c0
  have z1 := hXz.c1
  have lz : w6.heap.size + 1 < wz.heap.size := hXz.lt
  have Q1 := Lib.hid (fun z (hz : Below wz.heap.size wz z) => (Scalar_is ⟨#[48]⟩ z).mono (R' := fun e W' => ∃ h, e = .returned (.agg #[.slice none 0 0, .slice (some ⟨h, 0, none⟩) 1 1]) ∧ W'.cell? ⟨h, 0, none⟩ = some (.string ⟨#[48]⟩) ∧ Below wz.heap.size wz W' ∧ Below z.heap.size z W') (fun e W' ⟨h, h1, h2, h3⟩ => ⟨h, h1, h2, hz.trans (h3.mono hz.size), h3⟩))
  have Q2 := Lib.hid (fun z (hz : Below wz.heap.size wz z) h (hh : z.cell? ⟨h, 0, none⟩ = some (.string ⟨#[48]⟩)) => (KX.out z (hb.trans (hz.mono hb.size)) w6.heap.size h ((hz.block _ (by omega)).trans hgz) hh).mono (R' := fun e W' => ∃ a n c b m d, e = .returned (.tuple #[.agg #[.slice a n c, .slice b m d], .int .i64 0]) ∧ Vl W' a n b m [0] [] ∧ Below wz.heap.size wz W' ∧ Below z.heap.size z W') (fun e W' ⟨a, n, c, b, m, d, h1, h2, h3, h4⟩ => ⟨a, n, c, b, m, d, h1, h2, hz.trans (h4.mono hz.size), h4⟩))
  have hq : Below wz.heap.size wz wz := Below.refl _ _
  have hqz := hq.size
  go_cut [9, 10] (fun p q wx => NoCut wz p q wx)
  case first =>
    clear hXv hXu hXz hVv hVu hgz hb KX KD
    go_region_held3 (fun w' => w'.cell? ⟨w6.heap.size + 1, 0, none⟩ = some (.slice (some ⟨w6.heap.size, 0, none⟩) 1 1) ∧ w'.cell? ⟨w6.heap.size + 1, 1, none⟩ = some (.slice none 0 0))
      (first | exact ⟨(Below.cell (p := ⟨w6.heap.size + 1, 0, none⟩) (by repeat' (first | exact hq | refine Below.drew ?_ | refine below_drewN ?_ _ | refine Below.alloc ?_ ?_ _ | refine Below.setCell ?_ ?_ _ | exact hqz | exact Nat.le_refl _ | omega | (simp; done) | (simp; omega))) lz).trans z0, (Below.cell (p := ⟨w6.heap.size + 1, 1, none⟩) (by repeat' (first | exact hq | refine Below.drew ?_ | refine below_drewN ?_ _ | refine Below.alloc ?_ ?_ _ | refine Below.setCell ?_ ?_ _ | exact hqz | exact Nat.le_refl _ | omega | (simp; done) | (simp; omega))) lz).trans z1⟩ | fail)
      (first
        | (go_at_call 22; (with_reducible refine (Q1.out _ (by repeat' (first | exact hq | refine Below.drew ?_ | refine below_drewN ?_ _ | refine Below.alloc ?_ ?_ _ | refine Below.setCell ?_ ?_ _ | exact hqz | exact Nat.le_refl _ | omega | (simp; done) | (simp; omega)))).mono ?_); rintro e wa ⟨h', rfl, hh', hq, hr⟩; have hqz := hq.size; (try (have hZa := Bx.on (a := none) (n := 0) (c := 0) (b := none) (m := 0) (d := 0) (by first | exact Bx.new _ _ _ _ _ _ _ | exact Bx.drewN (Bx.new _ _ _ _ _ _ _) _ | exact Bx.new (World.drew _) _ _ _ _ _ _) hr; have y0 := hZa.c0; have y1 := hZa.c1; have g0 := hZa.f 0; have g1 := hZa.f 1)))
        | (go_at_call 11; (with_reducible refine (Q2.out _ (by repeat' (first | exact hq | refine Below.drew ?_ | refine below_drewN ?_ _ | refine Below.alloc ?_ ?_ _ | refine Below.setCell ?_ ?_ _ | exact hqz | exact Nat.le_refl _ | omega | (simp; done) | (simp; omega))) _ (by first | exact hh' | (refine Eq.trans ?_ hh'; first | exact cell_alloc_far _ _ _ (World.block_lt_of_cell? _ _ hh')))).mono ?_); rintro e wb ⟨a', n', c', b', m', d', rfl, hv', hq, hr⟩; have hqz := hq.size; (try (have hZb := Bx.on (a := none) (n := 0) (c := 0) (b := none) (m := 0) (d := 0) (by first | exact Bx.new _ _ _ _ _ _ _ | exact Bx.drewN (Bx.new _ _ _ _ _ _ _) _ | exact Bx.new (World.drew _) _ _ _ _ _ _) hr; have y0 := hZb.c0; have y1 := hZb.c1; have g0 := hZb.f 0; have g1 := hZb.f 1)); (try (have hZb := Bx.on hZa hr; have y0 := hZb.c0; have y1 := hZb.c1; have g0 := hZb.f 0; have g1 := hZb.f 1))))
    all_goals
      go_wp2_with fail
      go_meet
      case rel => with_reducible first | exact NoCut.new hq hv' | (refine NoCut.set hq hv' hZb ?_ <;> first | exact Nat.le_refl _ | exact hqz | omega | (simp; done) | (simp; omega))
  case rest =>
    clear hq hqz Q1 Q2 z0 z1 lz
    obtain ⟨gx, ax, nx', cx, bx, mx, dx, rfl, rfl, hXx, hVx, hbc⟩ := hcut
    replace hXv := hXv.below hbc hXv.lt
    replace hVv := hVv.below hbc
    replace hXu := hXu.below hbc hXu.lt
    replace hVu := hVu.below hbc
    replace hb := hb.trans (hbc.mono hb.size)
    replace hXz := hXz.below hbc hXz.lt
    have hVz := vl_row0 ((hbc.block _ (Array.getElem?_eq_some_iff.1 hgz).1).trans hgz)
    clear hbc hgz
    have cev0 := hXv.c0
    have cev1 := hXv.c1
    have ceu0 := hXu.c0
    have ceu1 := hXu.c1
    have cez0 := hXz.c0
    have cez1 := hXz.c1
    have cex0 := hXx.c0
    have cex1 := hXx.c1
    go_wp2_with fail
    refine (KD.out _ hb).mono ?_
    rintro e w7 ⟨ay1, ny1, cy1, by1, my1, dy1, rfl, hVy1, hCy1, hq⟩
    clear cev0 cev1 ceu0 ceu1 cez0 cez1 cex0 cex1
    have hbl := (Below.refl w7.heap.size w7).alloc (Nat.le_refl _) (.cells #[.slice ay1 ny1 cy1, .slice by1 my1 dy1] 25)
    have hq2 := hq.trans (hbl.mono hq.size)
    replace hXv := hXv.below hq2 hXv.lt
    replace hVv := hVv.below hq2
    replace hXu := hXu.below hq2 hXu.lt
    replace hVu := hVu.below hq2
    replace hXz := hXz.below hq2 hXz.lt
    replace hVz := hVz.below hq2
    replace hXx := hXx.below hq2 hXx.lt
    replace hVx := hVx.below hq2
    replace hb := hb.trans (hq2.mono hb.size)
    have hXy1 := Bx.new w7 ay1 ny1 cy1 by1 my1 dy1
    replace hVy1 := hVy1.below hbl
    clear hq hbl hq2
    have cev0 := hXv.c0
    have cev1 := hXv.c1
    have ceu0 := hXu.c0
    have ceu1 := hXu.c1
    have cez0 := hXz.c0
    have cez1 := hXz.c1
    have cex0 := hXx.c0
    have cex1 := hXx.c1
    have cey10 := hXy1.c0
    have cey11 := hXy1.c1
    go_wp2_with fail
    refine (VSame_is _ (Vl.mk hVv.s (St.nil _ _) (by omega)) (Vl.mk hVu.s (St.nil _ _) (by omega)) (by omega) (by omega)).mono ?_
    rintro e w8 ⟨rfl, hq⟩
    clear cev0 cev1 ceu0 ceu1 cez0 cez1 cex0 cex1 cey10 cey11
    replace hXv := hXv.below hq hXv.lt
    replace hVv := hVv.below hq
    replace hXu := hXu.below hq hXu.lt
    replace hVu := hVu.below hq
    replace hXz := hXz.below hq hXz.lt
    replace hVz := hVz.below hq
    replace hXx := hXx.below hq hXx.lt
    replace hVx := hVx.below hq
    replace hXy1 := hXy1.below hq hXy1.lt
    replace hVy1 := hVy1.below hq
    replace hb := hb.trans (hq.mono hb.size)
    clear hq
    rw [hlm]
    have cev0 := hXv.c0
    have cev1 := hXv.c1
    have ceu0 := hXu.c0
    have ceu1 := hXu.c1
    have cez0 := hXz.c0
    have cez1 := hXz.c1
    have cex0 := hXx.c0
    have cex1 := hXx.c1
    have cey10 := hXy1.c0
    have cey11 := hXy1.c1
    go_wp2_with fail
    refine (VSame_y _ hVx hVz (by decide)).mono ?_
    rintro e w9 ⟨rfl, hq⟩
    clear cev0 cev1 ceu0 ceu1 cez0 cez1 cex0 cex1 cey10 cey11
    replace hXv := hXv.below hq hXv.lt
    replace hVv := hVv.below hq
    replace hXu := hXu.below hq hXu.lt
    replace hVu := hVu.below hq
    replace hXz := hXz.below hq hXz.lt
    replace hVz := hVz.below hq
    replace hXx := hXx.below hq hXx.lt
    replace hVx := hVx.below hq
    replace hXy1 := hXy1.below hq hXy1.lt
    replace hVy1 := hVy1.below hq
    replace hb := hb.trans (hq.mono hb.size)
    clear hq
    subst hr4
    go_wp2_with fail
    go_ret
    exact ⟨rfl, hb⟩
theorem snothing_any {op : ByteArray} {a1 b1 a2 b2 : Option Addr} {n1 c1 m1 d1 n2 c2 m2 d2 : Nat} {l m : List Int} {es fs : List ByteArray} (W : World) (hW : SC W) (ho : op.size ≤ maxLen) (hV : Vl W a1 n1 b1 m1 l es) (hz1 : ∀ j, j < m1 → (es.getD j ByteArray.empty).size ≤ maxLen) (hU : Vl W a2 n2 b2 m2 m fs) (hz2 : ∀ j, j < m2 → (fs.getD j ByteArray.empty).size ≤ maxLen) :
    Calls Tryz.prog 6 #[.string op, .agg #[.slice a1 n1 c1, .slice b1 m1 d1], .agg #[.slice a2 n2 c2, .slice b2 m2 d2]] W (TrueEnd W) := by
  rcases Bool.eq_false_or_eq_true (fewB l es) with h1 | h1
  · rcases Bool.eq_false_or_eq_true (fewB m fs) with h2 | h2
    · obtain ⟨o, A1⟩ := ais_ex l es
      obtain ⟨p, A2⟩ := ais_ex m fs
      cases o with
      | none => exact snothing_1 W hW hV hz1 hU hz2 h1 h2 A1
      | some q =>
      cases p with
      | none => exact snothing_2 W hW hV hz1 hU hz2 h1 h2 A1.may A2
      | some r =>
      by_cases hk : kdL op.data.toList < 11
      · obtain ⟨l', xs⟩ := q
        obtain ⟨m', ys⟩ := r
        obtain ⟨g1, _⟩ := A1.len
        obtain ⟨g2, _⟩ := A2.len
        simp only at g1 g2
        subst g1 g2
        have hap := dyA_apart (k := kdL op.data.toList) hk (l := l') (m := m') (xs := xs) (ys := ys)
        have hl := hV.s.1
        have hm := hU.s.1
        by_cases k1 : n1 = 0
        · have e : l' = [] := List.length_eq_zero_iff.1 (by omega)
          subst k1
          exact snothing_A W hW ho hV hz1 hU hz2 h1 h2 A1.may A2.may hk A1 A2 _ rfl (fun h => (hap.1 h).1 e)
        by_cases k2 : n2 = 0
        · have e : m' = [] := List.length_eq_zero_iff.1 (by omega)
          subst k2
          exact snothing_B W hW ho hV hz1 hU hz2 h1 h2 A1.may A2.may hk A1 A2 (by omega) _ rfl (fun h => (hap.1 h).2.1 e)
        have n1' : l' ≠ [] := by rintro rfl; exact k1 hl.symm
        have n2' : m' ≠ [] := by rintro rfl; exact k2 hm.symm
        by_cases k3 : (l' == m') = true
        · have e := eq_of_beq k3
          exact snothing_C W hW ho hV hz1 hU hz2 h1 h2 A1.may A2.may hk A1 A2 (by omega) (by omega) k3 _ rfl (fun h => (hap.1 h).2.2 e)
        · have k3' : (l' == m') = false := by simpa using k3
          exact snothing_D W hW ho hV hz1 hU hz2 h1 h2 A1.may A2.may hk A1 A2 (by omega) (by omega) k3' _ rfl (hap.2 ⟨n1', n2', fun e => by rw [e, beq_self_eq_true] at k3'; cases k3'⟩)
      · exact snothing_3 W hW hV hz1 hU hz2 h1 h2 A1.may A2.may ho hk
    · exact snothing_few2 W hW hV hz1 hU hz2 h1 h2
  · exact snothing_few1 W hW hV hz1 hU hz2 h1
end Go.Proofs.YtlhbejeninjmoaaGreatDoor

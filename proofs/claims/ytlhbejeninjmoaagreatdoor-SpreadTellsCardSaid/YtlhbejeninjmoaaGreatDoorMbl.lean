import Derived.Test.YtlhbejeninjmoaaGreatDoorMbc
import Derived.Test.YtlhbejeninjmoaaGreatDoorMbk
/-
  SpreadTells at every text, and any two arrays.
-/
namespace Go.Proofs.YtlhbejeninjmoaaGreatDoor
set_option linter.unusedVariables false
set_option linter.unusedSimpArgs false
open Go.RowKit

set_option maxRecDepth 100000 in
set_option maxHeartbeats 6400000 in
theorem stellsA_few1 {op : ByteArray} {a1 b1 a2 b2 : Option Addr} {n1 c1 m1 d1 n2 c2 m2 d2 : Nat} {l m : List Int} {es fs : List ByteArray} (W : World) (hW : SC W) (hV : Vl W a1 n1 b1 m1 l es) (hz1 : ∀ j, j < m1 → (es.getD j ByteArray.empty).size ≤ maxLen) (hU : Vl W a2 n2 b2 m2 m fs) (hz2 : ∀ j, j < m2 → (fs.getD j ByteArray.empty).size ≤ maxLen) (hf : fewB l es = false) :
    Calls Tryz.prog 3 #[.string op, .agg #[.slice a1 n1 c1, .slice b1 m1 d1], .agg #[.slice a2 n2 c2, .slice b2 m2 d2]] W (TrueEnd W) := by
  have KF := fun w (hb : Below W.heap.size W w) => Few_is (c := c1) (d := d1) w (hV.below hb) hz1
  rw [hf] at KF
  replace KF := Lib.hid KF
  have KS := Lib.hid (fun w (hb : Below W.heap.size W w) => sshown_is w (hW.below hb))
  have hXv := (Bx.new W a1 n1 c1 b1 m1 d1).alloc (.cells #[.slice a2 n2 c2, .slice b2 m2 d2] 25)
  have hXu := Bx.two W (.cells #[.slice a1 n1 c1, .slice b1 m1 d1] 25) a2 n2 c2 b2 m2 d2
  have hb : Below W.heap.size W ((W.alloc (.cells #[.slice a1 n1 c1, .slice b1 m1 d1] 25)).alloc (.cells #[.slice a2 n2 c2, .slice b2 m2 d2] 25)) := ((Below.refl _ _).alloc (Nat.le_refl _) _).alloc (by simp) _
  have hVv := hV.below hb
  have hVu := hU.below hb
  clear hW hV hz1 hf hU hz2
  go_enter Tryz.func3, Tryz.ntmps3
  have cev0 := hXv.c0
  have cev1 := hXv.c1
  have ceu0 := hXu.c0
  have ceu1 := hXu.c1
  go_wp2_with fail
  refine (KS.out _ hb).mono ?_
  rintro e w1 ⟨rfl, hq⟩
  clear cev0 cev1 ceu0 ceu1
  replace hXv := hXv.below hq hXv.lt
  replace hVv := hVv.below hq
  replace hXu := hXu.below hq hXu.lt
  replace hVu := hVu.below hq
  replace hb := hb.trans (hq.mono hb.size)
  clear hq
  have cev0 := hXv.c0
  have cev1 := hXv.c1
  have ceu0 := hXu.c0
  have ceu1 := hXu.c1
  go_wp2_with fail
  refine (KF.out _ hb).mono ?_
  rintro e w2 ⟨rfl, hq⟩
  clear cev0 cev1 ceu0 ceu1
  replace hXv := hXv.below hq hXv.lt
  replace hVv := hVv.below hq
  replace hXu := hXu.below hq hXu.lt
  replace hVu := hVu.below hq
  replace hb := hb.trans (hq.mono hb.size)
  clear hq
  go_wp2_with fail
  go_ret
  exact ⟨rfl, hb⟩
set_option maxRecDepth 100000 in
set_option maxHeartbeats 6400000 in
theorem stellsA_few2 {op : ByteArray} {a1 b1 a2 b2 : Option Addr} {n1 c1 m1 d1 n2 c2 m2 d2 : Nat} {l m : List Int} {es fs : List ByteArray} (W : World) (hW : SC W) (hV : Vl W a1 n1 b1 m1 l es) (hz1 : ∀ j, j < m1 → (es.getD j ByteArray.empty).size ≤ maxLen) (hU : Vl W a2 n2 b2 m2 m fs) (hz2 : ∀ j, j < m2 → (fs.getD j ByteArray.empty).size ≤ maxLen) (hf1 : fewB l es = true) (hf : fewB m fs = false) :
    Calls Tryz.prog 3 #[.string op, .agg #[.slice a1 n1 c1, .slice b1 m1 d1], .agg #[.slice a2 n2 c2, .slice b2 m2 d2]] W (TrueEnd W) := by
  have KF1 := fun w (hb : Below W.heap.size W w) => Few_is (c := c1) (d := d1) w (hV.below hb) hz1
  rw [hf1] at KF1
  replace KF1 := Lib.hid KF1
  have KF := fun w (hb : Below W.heap.size W w) => Few_is (c := c2) (d := d2) w (hU.below hb) hz2
  rw [hf] at KF
  replace KF := Lib.hid KF
  have KS := Lib.hid (fun w (hb : Below W.heap.size W w) => sshown_is w (hW.below hb))
  have hXv := (Bx.new W a1 n1 c1 b1 m1 d1).alloc (.cells #[.slice a2 n2 c2, .slice b2 m2 d2] 25)
  have hXu := Bx.two W (.cells #[.slice a1 n1 c1, .slice b1 m1 d1] 25) a2 n2 c2 b2 m2 d2
  have hb : Below W.heap.size W ((W.alloc (.cells #[.slice a1 n1 c1, .slice b1 m1 d1] 25)).alloc (.cells #[.slice a2 n2 c2, .slice b2 m2 d2] 25)) := ((Below.refl _ _).alloc (Nat.le_refl _) _).alloc (by simp) _
  have hVv := hV.below hb
  have hVu := hU.below hb
  clear hW hV hz1 hf hU hz2 hf1
  go_enter Tryz.func3, Tryz.ntmps3
  have cev0 := hXv.c0
  have cev1 := hXv.c1
  have ceu0 := hXu.c0
  have ceu1 := hXu.c1
  go_wp2_with fail
  refine (KS.out _ hb).mono ?_
  rintro e w1 ⟨rfl, hq⟩
  clear cev0 cev1 ceu0 ceu1
  replace hXv := hXv.below hq hXv.lt
  replace hVv := hVv.below hq
  replace hXu := hXu.below hq hXu.lt
  replace hVu := hVu.below hq
  replace hb := hb.trans (hq.mono hb.size)
  clear hq
  have cev0 := hXv.c0
  have cev1 := hXv.c1
  have ceu0 := hXu.c0
  have ceu1 := hXu.c1
  go_wp2_with fail
  refine (KF1.out _ hb).mono ?_
  rintro e w2 ⟨rfl, hq⟩
  clear cev0 cev1 ceu0 ceu1
  replace hXv := hXv.below hq hXv.lt
  replace hVv := hVv.below hq
  replace hXu := hXu.below hq hXu.lt
  replace hVu := hVu.below hq
  replace hb := hb.trans (hq.mono hb.size)
  clear hq
  have cev0 := hXv.c0
  have cev1 := hXv.c1
  have ceu0 := hXu.c0
  have ceu1 := hXu.c1
  go_wp2_with fail
  refine (KF.out _ hb).mono ?_
  rintro e w3 ⟨rfl, hq⟩
  clear cev0 cev1 ceu0 ceu1
  replace hXv := hXv.below hq hXv.lt
  replace hVv := hVv.below hq
  replace hXu := hXu.below hq hXu.lt
  replace hVu := hVu.below hq
  replace hb := hb.trans (hq.mono hb.size)
  clear hq
  go_wp2_with fail
  go_ret
  exact ⟨rfl, hb⟩
set_option maxRecDepth 100000 in
set_option maxHeartbeats 6400000 in
theorem stellsA_yes {op : ByteArray} {a1 b1 a2 b2 : Option Addr} {n1 c1 m1 d1 n2 c2 m2 d2 : Nat} {l m : List Int} {es fs : List ByteArray} (W : World) (hM : SM W) (ho : op.size ≤ maxLen) (hV : Vl W a1 n1 b1 m1 l es) (hz1 : ∀ j, j < m1 → (es.getD j ByteArray.empty).size ≤ maxLen) (hU : Vl W a2 n2 b2 m2 m fs) (hz2 : ∀ j, j < m2 → (fs.getD j ByteArray.empty).size ≤ maxLen) (hf1 : fewB l es = true) (hf2 : fewB m fs = true) :
    Calls Tryz.prog 3 #[.string op, .agg #[.slice a1 n1 c1, .slice b1 m1 d1], .agg #[.slice a2 n2 c2, .slice b2 m2 d2]] W (TrueEnd W) := by
  have hW := hM.sc
  obtain ⟨o, A1⟩ := ais_ex l es
  obtain ⟨p, A2⟩ := ais_ex m fs
  have AD := dyA_is (k := kdL op.data.toList) A1 A2
  have AM := mnA_is (k := kmL op.data.toList) A1
  have q1 := ts_len AD
  have q2 := ts_len AM
  have KF1 := fun w (hb : Below W.heap.size W w) => Few_is (c := c1) (d := d1) w (hV.below hb) hz1
  rw [hf1] at KF1
  replace KF1 := Lib.hid KF1
  have KF2 := fun w (hb : Below W.heap.size W w) => Few_is (c := c2) (d := d2) w (hU.below hb) hz2
  rw [hf2] at KF2
  replace KF2 := Lib.hid KF2
  have KD := fun w (hb : Below W.heap.size W w) => SDyad_is (op := op) (c1 := c1) (d1 := d1) (c2 := c2) (d2 := d2) w (hW.below hb) ho (hV.below hb) (hU.below hb) hz1 hz2 A1 A2
  replace KD := Lib.hid KD
  have KR := fun w (hb : Below W.heap.size W w) => rSDyad_is (op := op) (c1 := c1) (d1 := d1) (c2 := c2) (d2 := d2) w (hV.below hb) (hU.below hb) hz1 hz2 A1 A2
  replace KR := Lib.hid KR
  have KM := fun w (hb : Below W.heap.size W w) => SMonad_is (op := op) (c := c1) (d := d1) w (hM.below hb) ho (hV.below hb) hz1 A1
  replace KM := Lib.hid KM
  have KN := fun w (hb : Below W.heap.size W w) => rSMonad_is (op := op) (c := c1) (d := d1) w (hV.below hb) hz1 A1
  replace KN := Lib.hid KN
  have KO := fun w (hb : Below W.heap.size W w) => Ops_is op ho w (hW.below hb)
  replace KO := Lib.hid KO
  have KP := fun w (hb : Below W.heap.size W w) => rOps_is op w
  replace KP := Lib.hid KP
  generalize (TS (dyA (kdL op.data.toList) o p).1).1 = L1 at *
  generalize (TS (dyA (kdL op.data.toList) o p).1).2 = E1 at *
  generalize (dyA (kdL op.data.toList) o p).2 = r1 at *
  generalize (TS (mnA (kmL op.data.toList) o).1).1 = L2 at *
  generalize (TS (mnA (kmL op.data.toList) o).1).2 = E2 at *
  generalize (mnA (kmL op.data.toList) o).2 = r2 at *
  generalize decide (kdL op.data.toList < 11) = t at *
  have KS := Lib.hid (fun w (hb : Below W.heap.size W w) => sshown_is w (hW.below hb))
  have hXv := (Bx.new W a1 n1 c1 b1 m1 d1).alloc (.cells #[.slice a2 n2 c2, .slice b2 m2 d2] 25)
  have hXu := Bx.two W (.cells #[.slice a1 n1 c1, .slice b1 m1 d1] 25) a2 n2 c2 b2 m2 d2
  have hb : Below W.heap.size W ((W.alloc (.cells #[.slice a1 n1 c1, .slice b1 m1 d1] 25)).alloc (.cells #[.slice a2 n2 c2, .slice b2 m2 d2] 25)) := ((Below.refl _ _).alloc (Nat.le_refl _) _).alloc (by simp) _
  have hVv := hV.below hb
  have hVu := hU.below hb
  clear hW hM hV hz1 hU hz2 hf1 hf2 A1 A2 AD AM ho
  go_enter Tryz.func3, Tryz.ntmps3
  have cev0 := hXv.c0
  have cev1 := hXv.c1
  have ceu0 := hXu.c0
  have ceu1 := hXu.c1
  go_wp2_with fail
  refine (KS.out _ hb).mono ?_
  rintro e w1 ⟨rfl, hq⟩
  clear cev0 cev1 ceu0 ceu1
  replace hXv := hXv.below hq hXv.lt
  replace hVv := hVv.below hq
  replace hXu := hXu.below hq hXu.lt
  replace hVu := hVu.below hq
  replace hb := hb.trans (hq.mono hb.size)
  clear hq
  have cev0 := hXv.c0
  have cev1 := hXv.c1
  have ceu0 := hXu.c0
  have ceu1 := hXu.c1
  go_wp2_with fail
  refine (KF1.out _ hb).mono ?_
  rintro e w2 ⟨rfl, hq⟩
  clear cev0 cev1 ceu0 ceu1
  replace hXv := hXv.below hq hXv.lt
  replace hVv := hVv.below hq
  replace hXu := hXu.below hq hXu.lt
  replace hVu := hVu.below hq
  replace hb := hb.trans (hq.mono hb.size)
  clear hq
  have cev0 := hXv.c0
  have cev1 := hXv.c1
  have ceu0 := hXu.c0
  have ceu1 := hXu.c1
  go_wp2_with fail
  refine (KF2.out _ hb).mono ?_
  rintro e w3 ⟨rfl, hq⟩
  clear cev0 cev1 ceu0 ceu1
  replace hXv := hXv.below hq hXv.lt
  replace hVv := hVv.below hq
  replace hXu := hXu.below hq hXu.lt
  replace hVu := hVu.below hq
  replace hb := hb.trans (hq.mono hb.size)
  clear hq
  have cev0 := hXv.c0
  have cev1 := hXv.c1
  have ceu0 := hXu.c0
  have ceu1 := hXu.c1
  go_wp2_with fail
  refine (KD.out _ hb).mono ?_
  rintro e w4 ⟨aa, na, ca, ba, ma, da, rfl, hVa, hCa, hq⟩
  clear cev0 cev1 ceu0 ceu1
  have hbl := (Below.refl w4.heap.size w4).alloc (Nat.le_refl _) (.cells #[.slice aa na ca, .slice ba ma da] 25)
  have hq2 := hq.trans (hbl.mono hq.size)
  replace hXv := hXv.below hq2 hXv.lt
  replace hVv := hVv.below hq2
  replace hXu := hXu.below hq2 hXu.lt
  replace hVu := hVu.below hq2
  replace hb := hb.trans (hq2.mono hb.size)
  have hXa := Bx.new w4 aa na ca ba ma da
  replace hVa := hVa.below hbl
  clear hq hbl hq2
  have cev0 := hXv.c0
  have cev1 := hXv.c1
  have ceu0 := hXu.c0
  have ceu1 := hXu.c1
  have cea0 := hXa.c0
  have cea1 := hXa.c1
  go_wp2_with fail
  refine (KR.out _ hb).mono ?_
  rintro e w5 ⟨ab, nb, cb, bb, mb, db, rfl, hVb, hNb, hq⟩
  clear cev0 cev1 ceu0 ceu1 cea0 cea1
  have hbl := (Below.refl w5.heap.size w5).alloc (Nat.le_refl _) (.cells #[.slice ab nb cb, .slice bb mb db] 25)
  have hq2 := hq.trans (hbl.mono hq.size)
  replace hXv := hXv.below hq2 hXv.lt
  replace hVv := hVv.below hq2
  replace hXu := hXu.below hq2 hXu.lt
  replace hVu := hVu.below hq2
  replace hXa := hXa.below hq2 hXa.lt
  replace hVa := hVa.below hq2
  replace hb := hb.trans (hq2.mono hb.size)
  have hXb := Bx.new w5 ab nb cb bb mb db
  replace hVb := hVb.below hbl
  clear hq hbl hq2
  have cev0 := hXv.c0
  have cev1 := hXv.c1
  have ceu0 := hXu.c0
  have ceu1 := hXu.c1
  have cea0 := hXa.c0
  have cea1 := hXa.c1
  have ceb0 := hXb.c0
  have ceb1 := hXb.c1
  go_wp2_with fail
  refine (KM.out _ hb).mono ?_
  rintro e w6 ⟨ac, nc, cc, bc, mc, dc, rfl, hVc, hCc, hq⟩
  clear cev0 cev1 ceu0 ceu1 cea0 cea1 ceb0 ceb1
  have hbl := (Below.refl w6.heap.size w6).alloc (Nat.le_refl _) (.cells #[.slice ac nc cc, .slice bc mc dc] 25)
  have hq2 := hq.trans (hbl.mono hq.size)
  replace hXv := hXv.below hq2 hXv.lt
  replace hVv := hVv.below hq2
  replace hXu := hXu.below hq2 hXu.lt
  replace hVu := hVu.below hq2
  replace hXa := hXa.below hq2 hXa.lt
  replace hVa := hVa.below hq2
  replace hXb := hXb.below hq2 hXb.lt
  replace hVb := hVb.below hq2
  replace hb := hb.trans (hq2.mono hb.size)
  have hXc := Bx.new w6 ac nc cc bc mc dc
  replace hVc := hVc.below hbl
  clear hq hbl hq2
  have cev0 := hXv.c0
  have cev1 := hXv.c1
  have ceu0 := hXu.c0
  have ceu1 := hXu.c1
  have cea0 := hXa.c0
  have cea1 := hXa.c1
  have ceb0 := hXb.c0
  have ceb1 := hXb.c1
  have cec0 := hXc.c0
  have cec1 := hXc.c1
  go_wp2_with fail
  refine (KN.out _ hb).mono ?_
  rintro e w7 ⟨ad, nd, cd, bd, md, dd, rfl, hVd, hNd, hq⟩
  clear cev0 cev1 ceu0 ceu1 cea0 cea1 ceb0 ceb1 cec0 cec1
  have hbl := (Below.refl w7.heap.size w7).alloc (Nat.le_refl _) (.cells #[.slice ad nd cd, .slice bd md dd] 25)
  have hq2 := hq.trans (hbl.mono hq.size)
  replace hXv := hXv.below hq2 hXv.lt
  replace hVv := hVv.below hq2
  replace hXu := hXu.below hq2 hXu.lt
  replace hVu := hVu.below hq2
  replace hXa := hXa.below hq2 hXa.lt
  replace hVa := hVa.below hq2
  replace hXb := hXb.below hq2 hXb.lt
  replace hVb := hVb.below hq2
  replace hXc := hXc.below hq2 hXc.lt
  replace hVc := hVc.below hq2
  replace hb := hb.trans (hq2.mono hb.size)
  have hXd := Bx.new w7 ad nd cd bd md dd
  replace hVd := hVd.below hbl
  clear hq hbl hq2
  have cev0 := hXv.c0
  have cev1 := hXv.c1
  have ceu0 := hXu.c0
  have ceu1 := hXu.c1
  have cea0 := hXa.c0
  have cea1 := hXa.c1
  have ceb0 := hXb.c0
  have ceb1 := hXb.c1
  have cec0 := hXc.c0
  have cec1 := hXc.c1
  have ced0 := hXd.c0
  have ced1 := hXd.c1
  go_wp2_with fail
  refine (rVSame_b _ hVa hVb q1).mono ?_
  rintro e w8 ⟨rfl, hq⟩
  clear cev0 cev1 ceu0 ceu1 cea0 cea1 ceb0 ceb1 cec0 cec1 ced0 ced1
  replace hXv := hXv.below hq hXv.lt
  replace hVv := hVv.below hq
  replace hXu := hXu.below hq hXu.lt
  replace hVu := hVu.below hq
  replace hXa := hXa.below hq hXa.lt
  replace hVa := hVa.below hq
  replace hXb := hXb.below hq hXb.lt
  replace hVb := hVb.below hq
  replace hXc := hXc.below hq hXc.lt
  replace hVc := hVc.below hq
  replace hXd := hXd.below hq hXd.lt
  replace hVd := hVd.below hq
  replace hb := hb.trans (hq.mono hb.size)
  clear hq
  have cev0 := hXv.c0
  have cev1 := hXv.c1
  have ceu0 := hXu.c0
  have ceu1 := hXu.c1
  have cea0 := hXa.c0
  have cea1 := hXa.c1
  have ceb0 := hXb.c0
  have ceb1 := hXb.c1
  have cec0 := hXc.c0
  have cec1 := hXc.c1
  have ced0 := hXd.c0
  have ced1 := hXd.c1
  go_wp2_with fail
  refine (rVSame_b _ hVc hVd q2).mono ?_
  rintro e w9 ⟨rfl, hq⟩
  clear cev0 cev1 ceu0 ceu1 cea0 cea1 ceb0 ceb1 cec0 cec1 ced0 ced1
  replace hXv := hXv.below hq hXv.lt
  replace hVv := hVv.below hq
  replace hXu := hXu.below hq hXu.lt
  replace hVu := hVu.below hq
  replace hXa := hXa.below hq hXa.lt
  replace hVa := hVa.below hq
  replace hXb := hXb.below hq hXb.lt
  replace hVb := hVb.below hq
  replace hXc := hXc.below hq hXc.lt
  replace hVc := hVc.below hq
  replace hXd := hXd.below hq hXd.lt
  replace hVd := hVd.below hq
  replace hb := hb.trans (hq.mono hb.size)
  clear hq
  have cev0 := hXv.c0
  have cev1 := hXv.c1
  have ceu0 := hXu.c0
  have ceu1 := hXu.c1
  have cea0 := hXa.c0
  have cea1 := hXa.c1
  have ceb0 := hXb.c0
  have ceb1 := hXb.c1
  have cec0 := hXc.c0
  have cec1 := hXc.c1
  have ced0 := hXd.c0
  have ced1 := hXd.c1
  go_wp2_with fail
  refine (KO.out _ hb).mono ?_
  rintro e w10 ⟨rfl, hq⟩
  clear cev0 cev1 ceu0 ceu1 cea0 cea1 ceb0 ceb1 cec0 cec1 ced0 ced1
  replace hXv := hXv.below hq hXv.lt
  replace hVv := hVv.below hq
  replace hXu := hXu.below hq hXu.lt
  replace hVu := hVu.below hq
  replace hXa := hXa.below hq hXa.lt
  replace hVa := hVa.below hq
  replace hXb := hXb.below hq hXb.lt
  replace hVb := hVb.below hq
  replace hXc := hXc.below hq hXc.lt
  replace hVc := hVc.below hq
  replace hXd := hXd.below hq hXd.lt
  replace hVd := hVd.below hq
  replace hb := hb.trans (hq.mono hb.size)
  clear hq
  cases t
  all_goals
    have cev0 := hXv.c0
    have cev1 := hXv.c1
    have ceu0 := hXu.c0
    have ceu1 := hXu.c1
    have cea0 := hXa.c0
    have cea1 := hXa.c1
    have ceb0 := hXb.c0
    have ceb1 := hXb.c1
    have cec0 := hXc.c0
    have cec1 := hXc.c1
    have ced0 := hXd.c0
    have ced1 := hXd.c1
    go_wp2_with fail
    refine (KP.out _ hb).mono ?_
    rintro e w20 ⟨rfl, rfl⟩
    go_wp2_with fail
    go_ret
    exact ⟨rfl, hb⟩
theorem stellsA_any {op : ByteArray} {a1 b1 a2 b2 : Option Addr} {n1 c1 m1 d1 n2 c2 m2 d2 : Nat} {l m : List Int} {es fs : List ByteArray} (W : World) (hW : SM W) (ho : op.size ≤ maxLen) (hV : Vl W a1 n1 b1 m1 l es) (hz1 : ∀ j, j < m1 → (es.getD j ByteArray.empty).size ≤ maxLen) (hU : Vl W a2 n2 b2 m2 m fs) (hz2 : ∀ j, j < m2 → (fs.getD j ByteArray.empty).size ≤ maxLen) :
    Calls Tryz.prog 3 #[.string op, .agg #[.slice a1 n1 c1, .slice b1 m1 d1], .agg #[.slice a2 n2 c2, .slice b2 m2 d2]] W (TrueEnd W) := by
  rcases Bool.eq_false_or_eq_true (fewB l es) with h1 | h1
  · rcases Bool.eq_false_or_eq_true (fewB m fs) with h2 | h2
    · exact stellsA_yes W hW ho hV hz1 hU hz2 h1 h2
    · exact stellsA_few2 W hW.sc hV hz1 hU hz2 h1 h2
  · exact stellsA_few1 W hW.sc hV hz1 hU hz2 h1
end Go.Proofs.YtlhbejeninjmoaaGreatDoor

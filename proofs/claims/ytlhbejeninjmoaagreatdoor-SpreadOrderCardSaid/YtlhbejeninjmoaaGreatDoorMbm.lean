import Derived.Test.YtlhbejeninjmoaaGreatDoorMbc
/-
  SpreadOrder at any two arrays, and any number.
-/
namespace Go.Proofs.YtlhbejeninjmoaaGreatDoor
set_option linter.unusedVariables false
set_option linter.unusedSimpArgs false
open Go.RowKit

/-- The signs that are the same the other way round. -/
def oS (j : Nat) : ByteArray := [(⟨#[43]⟩ : ByteArray), ⟨#[42]⟩, ⟨#[38]⟩, ⟨#[124]⟩, ⟨#[61]⟩, ⟨#[126]⟩].getD j ⟨#[]⟩
theorem oS_kd {j : Nat} (h : j < 6) : kdL (oS j).data.toList = 0 ∨ kdL (oS j).data.toList = 2 ∨ kdL (oS j).data.toList = 5 ∨ kdL (oS j).data.toList = 6 ∨ kdL (oS j).data.toList = 9 ∨ kdL (oS j).data.toList = 10 := by
  obtain rfl | rfl | rfl | rfl | rfl | rfl : j = 0 ∨ j = 1 ∨ j = 2 ∨ j = 3 ∨ j = 4 ∨ j = 5 := by omega
  all_goals decide
theorem oS_sz {j : Nat} (h : j < 6) : (oS j).size ≤ maxLen := by
  unfold maxLen
  obtain rfl | rfl | rfl | rfl | rfl | rfl : j = 0 ∨ j = 1 ∨ j = 2 ∨ j = 3 ∨ j = 4 ∨ j = 5 := by omega
  all_goals decide
def oRow : Array Value := #[.string ⟨#[43]⟩, .string ⟨#[42]⟩, .string ⟨#[38]⟩, .string ⟨#[124]⟩, .string ⟨#[61]⟩, .string ⟨#[126]⟩]
theorem oRow_at (w : World) {j : Nat} (h : j < 6) : (w.alloc (.cells #[.string ⟨#[43]⟩, .string ⟨#[42]⟩, .string ⟨#[38]⟩, .string ⟨#[124]⟩, .string ⟨#[61]⟩, .string ⟨#[126]⟩] 9)).cell? ⟨w.heap.size, j, none⟩ = some (.string (oS j)) := by
  rw [cell_of_row _ _ j _ _ _ (heap_alloc_new w _)]
  obtain rfl | rfl | rfl | rfl | rfl | rfl : j = 0 ∨ j = 1 ∨ j = 2 ∨ j = 3 ∨ j = 4 ∨ j = 5 := by omega
  all_goals rfl
theorem neg_neg_map (l : List Int) : (l.map fun z => -z).map (mnZ 0) = l := by
  rw [List.map_map]
  conv => rhs; rw [← List.map_id l]
  apply List.map_congr_left
  intro x _
  show mnZ 0 (-x) = x
  simp [mnZ, mnI]
set_option maxRecDepth 100000 in
set_option maxHeartbeats 6400000 in
theorem sorder_few1 {x : Int} {a1 b1 a2 b2 : Option Addr} {n1 c1 m1 d1 n2 c2 m2 d2 : Nat} {l m : List Int} {es fs : List ByteArray} (W : World) (hW : SC W) (hV : Vl W a1 n1 b1 m1 l es) (hz1 : ∀ j, j < m1 → (es.getD j ByteArray.empty).size ≤ maxLen) (hU : Vl W a2 n2 b2 m2 m fs) (hz2 : ∀ j, j < m2 → (fs.getD j ByteArray.empty).size ≤ maxLen) (hf : fewB l es = false) :
    Calls Tryz.prog 5 #[.agg #[.slice a1 n1 c1, .slice b1 m1 d1], .agg #[.slice a2 n2 c2, .slice b2 m2 d2], .int .u8 x] W (TrueEnd W) := by
  have KF := fun w (hb : Below W.heap.size W w) => Few_is (c := c1) (d := d1) w (hV.below hb) hz1
  rw [hf] at KF
  replace KF := Lib.hid KF
  have KS := Lib.hid (fun w (hb : Below W.heap.size W w) => sshown_is w (hW.below hb))
  have hXv := (Bx.new W a1 n1 c1 b1 m1 d1).alloc (.cells #[.slice a2 n2 c2, .slice b2 m2 d2] 25)
  have hXu := Bx.two W (.cells #[.slice a1 n1 c1, .slice b1 m1 d1] 25) a2 n2 c2 b2 m2 d2
  have hb : Below W.heap.size W ((W.alloc (.cells #[.slice a1 n1 c1, .slice b1 m1 d1] 25)).alloc (.cells #[.slice a2 n2 c2, .slice b2 m2 d2] 25)) := ((Below.refl _ _).alloc (Nat.le_refl _) _).alloc (by simp) _
  have hVv := hV.below hb
  have hVu := hU.below hb
  clear hW hV hz1 hf hU hz2
  go_enter Tryz.func5, Tryz.ntmps5
  have cev0 := hXv.c0
  have cev1 := hXv.c1
  have ceu0 := hXu.c0
  have ceu1 := hXu.c1
  go_wp2_with fail
  refine (KS.out _ hb).mono ?_
  rintro e w1 ⟨rfl, hq⟩
  clear cev0 cev1 ceu0 ceu1
  replace hXv := hXv.below hq hXv.lt
  replace hVv := hVv.below hq
  replace hXu := hXu.below hq hXu.lt
  replace hVu := hVu.below hq
  replace hb := hb.trans (hq.mono hb.size)
  clear hq
  have cev0 := hXv.c0
  have cev1 := hXv.c1
  have ceu0 := hXu.c0
  have ceu1 := hXu.c1
  go_wp2_with fail
  refine (KF.out _ hb).mono ?_
  rintro e w2 ⟨rfl, hq⟩
  clear cev0 cev1 ceu0 ceu1
  replace hXv := hXv.below hq hXv.lt
  replace hVv := hVv.below hq
  replace hXu := hXu.below hq hXu.lt
  replace hVu := hVu.below hq
  replace hb := hb.trans (hq.mono hb.size)
  clear hq
  go_wp2_with fail
  go_ret
  exact ⟨rfl, hb⟩
set_option maxRecDepth 100000 in
set_option maxHeartbeats 6400000 in
theorem sorder_few2 {x : Int} {a1 b1 a2 b2 : Option Addr} {n1 c1 m1 d1 n2 c2 m2 d2 : Nat} {l m : List Int} {es fs : List ByteArray} (W : World) (hW : SC W) (hV : Vl W a1 n1 b1 m1 l es) (hz1 : ∀ j, j < m1 → (es.getD j ByteArray.empty).size ≤ maxLen) (hU : Vl W a2 n2 b2 m2 m fs) (hz2 : ∀ j, j < m2 → (fs.getD j ByteArray.empty).size ≤ maxLen) (hf1 : fewB l es = true) (hf : fewB m fs = false) :
    Calls Tryz.prog 5 #[.agg #[.slice a1 n1 c1, .slice b1 m1 d1], .agg #[.slice a2 n2 c2, .slice b2 m2 d2], .int .u8 x] W (TrueEnd W) := by
  have KF1 := fun w (hb : Below W.heap.size W w) => Few_is (c := c1) (d := d1) w (hV.below hb) hz1
  rw [hf1] at KF1
  replace KF1 := Lib.hid KF1
  have KF := fun w (hb : Below W.heap.size W w) => Few_is (c := c2) (d := d2) w (hU.below hb) hz2
  rw [hf] at KF
  replace KF := Lib.hid KF
  have KS := Lib.hid (fun w (hb : Below W.heap.size W w) => sshown_is w (hW.below hb))
  have hXv := (Bx.new W a1 n1 c1 b1 m1 d1).alloc (.cells #[.slice a2 n2 c2, .slice b2 m2 d2] 25)
  have hXu := Bx.two W (.cells #[.slice a1 n1 c1, .slice b1 m1 d1] 25) a2 n2 c2 b2 m2 d2
  have hb : Below W.heap.size W ((W.alloc (.cells #[.slice a1 n1 c1, .slice b1 m1 d1] 25)).alloc (.cells #[.slice a2 n2 c2, .slice b2 m2 d2] 25)) := ((Below.refl _ _).alloc (Nat.le_refl _) _).alloc (by simp) _
  have hVv := hV.below hb
  have hVu := hU.below hb
  clear hW hV hz1 hf hU hz2 hf1
  go_enter Tryz.func5, Tryz.ntmps5
  have cev0 := hXv.c0
  have cev1 := hXv.c1
  have ceu0 := hXu.c0
  have ceu1 := hXu.c1
  go_wp2_with fail
  refine (KS.out _ hb).mono ?_
  rintro e w1 ⟨rfl, hq⟩
  clear cev0 cev1 ceu0 ceu1
  replace hXv := hXv.below hq hXv.lt
  replace hVv := hVv.below hq
  replace hXu := hXu.below hq hXu.lt
  replace hVu := hVu.below hq
  replace hb := hb.trans (hq.mono hb.size)
  clear hq
  have cev0 := hXv.c0
  have cev1 := hXv.c1
  have ceu0 := hXu.c0
  have ceu1 := hXu.c1
  go_wp2_with fail
  refine (KF1.out _ hb).mono ?_
  rintro e w2 ⟨rfl, hq⟩
  clear cev0 cev1 ceu0 ceu1
  replace hXv := hXv.below hq hXv.lt
  replace hVv := hVv.below hq
  replace hXu := hXu.below hq hXu.lt
  replace hVu := hVu.below hq
  replace hb := hb.trans (hq.mono hb.size)
  clear hq
  have cev0 := hXv.c0
  have cev1 := hXv.c1
  have ceu0 := hXu.c0
  have ceu1 := hXu.c1
  go_wp2_with fail
  refine (KF.out _ hb).mono ?_
  rintro e w3 ⟨rfl, hq⟩
  clear cev0 cev1 ceu0 ceu1
  replace hXv := hXv.below hq hXv.lt
  replace hVv := hVv.below hq
  replace hXu := hXu.below hq hXu.lt
  replace hVu := hVu.below hq
  replace hb := hb.trans (hq.mono hb.size)
  clear hq
  go_wp2_with fail
  go_ret
  exact ⟨rfl, hb⟩
set_option maxRecDepth 100000 in
set_option maxHeartbeats 6400000 in
theorem sorder_ok {x : Int} {a1 b1 a2 b2 : Option Addr} {n1 c1 m1 d1 n2 c2 m2 d2 : Nat} {l m : List Int} {es fs : List ByteArray} {o p : Option Ar} {s zs : List Int} (W : World) (hM : SM W) (j : Nat) (hj : x.tmod 6 = (j : Int)) (hj6 : j < 6) (hx0 : 0 ≤ x) (hx1 : x ≤ 255) (hV : Vl W a1 n1 b1 m1 l es) (hz1 : ∀ j, j < m1 → (es.getD j ByteArray.empty).size ≤ maxLen) (hU : Vl W a2 n2 b2 m2 m fs) (hz2 : ∀ j, j < m2 → (fs.getD j ByteArray.empty).size ≤ maxLen) (hf1 : fewB l es = true) (hf2 : fewB m fs = true) (A1 : AIs l es o) (A2 : AIs m fs p) (hp : dyA 1 o p = (some (s, zs), 0)) (hq' : dyA 1 p o = (some (s, zs.map fun z => -z), 0)) :
    Calls Tryz.prog 5 #[.agg #[.slice a1 n1 c1, .slice b1 m1 d1], .agg #[.slice a2 n2 c2, .slice b2 m2 d2], .int .u8 x] W (TrueEnd W) := by
  have hW := hM.sc
  have AD := dyA_is (k := kdL (oS j).data.toList) A1 A2
  have q1 := ts_len AD
  have A3 := dyA_is (k := 1) A1 A2
  have A4 := dyA_is (k := 1) A2 A1
  rw [hp] at A3
  rw [hq'] at A4
  have q3 := ts_len A3
  have KF1 := fun w (hb : Below W.heap.size W w) => Few_is (c := c1) (d := d1) w (hV.below hb) hz1
  rw [hf1] at KF1
  replace KF1 := Lib.hid KF1
  have KF2 := fun w (hb : Below W.heap.size W w) => Few_is (c := c2) (d := d2) w (hU.below hb) hz2
  rw [hf2] at KF2
  replace KF2 := Lib.hid KF2
  have KD := fun w (hb : Below W.heap.size W w) => SDyad_is (op := oS j) (c1 := c1) (d1 := d1) (c2 := c2) (d2 := d2) w (hW.below hb) (oS_sz hj6) (hV.below hb) (hU.below hb) hz1 hz2 A1 A2
  replace KD := Lib.hid KD
  have KE := fun w (hb : Below W.heap.size W w) => SDyad_is (op := oS j) (c1 := c2) (d1 := d2) (c2 := c1) (d2 := d1) w (hW.below hb) (oS_sz hj6) (hU.below hb) (hV.below hb) hz2 hz1 A2 A1
  rw [dyA_turn (oS_kd hj6)] at KE
  replace KE := Lib.hid KE
  have KG := fun w (hb : Below W.heap.size W w) => SDyad_is (op := ⟨#[45]⟩) (c1 := c1) (d1 := d1) (c2 := c2) (d2 := d2) w (hW.below hb) (by unfold maxLen; decide) (hV.below hb) (hU.below hb) hz1 hz2 A1 A2
  rw [show kdL (⟨#[45]⟩ : ByteArray).data.toList = 1 by decide, hp] at KG
  replace KG := Lib.hid KG
  have KH := fun w (hb : Below W.heap.size W w) => SDyad_is (op := ⟨#[45]⟩) (c1 := c2) (d1 := d2) (c2 := c1) (d2 := d1) w (hW.below hb) (by unfold maxLen; decide) (hU.below hb) (hV.below hb) hz2 hz1 A2 A1
  rw [show kdL (⟨#[45]⟩ : ByteArray).data.toList = 1 by decide, hq'] at KH
  replace KH := Lib.hid KH
  have KM := fun w a n c b k d (hb : Below W.heap.size W w) (hv : Vl w a n b k (TS (some (s, zs.map fun z => -z))).1 (TS (some (s, zs.map fun z => -z))).2) => SMonad_is (op := ⟨#[45]⟩) (c := c) (d := d) w (hM.below hb) (by unfold maxLen; decide) hv (ts_sz A4 hv.t.1.symm) A4
  rw [show kmL (⟨#[45]⟩ : ByteArray).data.toList = 0 by decide, show mnA 0 (some (s, zs.map fun z => -z)) = (some (s, zs), 0) by simp only [mnA]; rw [if_neg (by decide), neg_neg_map]] at KM
  replace KM := Lib.hid KM
  generalize (TS (dyA (kdL (oS j).data.toList) o p).1).1 = L1 at *
  generalize (TS (dyA (kdL (oS j).data.toList) o p).1).2 = E1 at *
  generalize (dyA (kdL (oS j).data.toList) o p).2 = r1 at *
  generalize (TS (some (s, zs))).1 = L3 at *
  generalize (TS (some (s, zs))).2 = E3 at *
  generalize (TS (some (s, zs.map fun z => -z))).1 = L4 at *
  generalize (TS (some (s, zs.map fun z => -z))).2 = E4 at *
  have HOR := Lib.hid (fun w : World => oRow_at w hj6)
  have KS := Lib.hid (fun w (hb : Below W.heap.size W w) => sshown_is w (hW.below hb))
  have hXv := (Bx.new W a1 n1 c1 b1 m1 d1).alloc (.cells #[.slice a2 n2 c2, .slice b2 m2 d2] 25)
  have hXu := Bx.two W (.cells #[.slice a1 n1 c1, .slice b1 m1 d1] 25) a2 n2 c2 b2 m2 d2
  have hb : Below W.heap.size W ((W.alloc (.cells #[.slice a1 n1 c1, .slice b1 m1 d1] 25)).alloc (.cells #[.slice a2 n2 c2, .slice b2 m2 d2] 25)) := ((Below.refl _ _).alloc (Nat.le_refl _) _).alloc (by simp) _
  have hVv := hV.below hb
  have hVu := hU.below hb
  clear hW hM hV hz1 hU hz2 hf1 hf2 A1 A2 AD A3 A4 hp hq'
  have hj7 : (j : Int) < 6 := by omega
  have hjo : (oS j) = oS j := rfl
  generalize oS j = op at *
  clear hjo
  go_enter Tryz.func5, Tryz.ntmps5
  have cev0 := hXv.c0
  have cev1 := hXv.c1
  have ceu0 := hXu.c0
  have ceu1 := hXu.c1
  go_wp2_with fail
  refine (KS.out _ hb).mono ?_
  rintro e w1 ⟨rfl, hq⟩
  clear cev0 cev1 ceu0 ceu1
  replace hXv := hXv.below hq hXv.lt
  replace hVv := hVv.below hq
  replace hXu := hXu.below hq hXu.lt
  replace hVu := hVu.below hq
  replace hb := hb.trans (hq.mono hb.size)
  clear hq
  have cev0 := hXv.c0
  have cev1 := hXv.c1
  have ceu0 := hXu.c0
  have ceu1 := hXu.c1
  go_wp2_with fail
  refine (KF1.out _ hb).mono ?_
  rintro e w2 ⟨rfl, hq⟩
  clear cev0 cev1 ceu0 ceu1
  replace hXv := hXv.below hq hXv.lt
  replace hVv := hVv.below hq
  replace hXu := hXu.below hq hXu.lt
  replace hVu := hVu.below hq
  replace hb := hb.trans (hq.mono hb.size)
  clear hq
  have cev0 := hXv.c0
  have cev1 := hXv.c1
  have ceu0 := hXu.c0
  have ceu1 := hXu.c1
  go_wp2_with fail
  refine (KF2.out _ hb).mono ?_
  rintro e w3 ⟨rfl, hq⟩
  clear cev0 cev1 ceu0 ceu1
  replace hXv := hXv.below hq hXv.lt
  replace hVv := hVv.below hq
  replace hXu := hXu.below hq hXu.lt
  replace hVu := hVu.below hq
  replace hb := hb.trans (hq.mono hb.size)
  clear hq
  have hor := HOR.out w3
  have hbr := (Below.refl w3.heap.size w3).alloc (Nat.le_refl _) (.cells #[.string ⟨#[43]⟩, .string ⟨#[42]⟩, .string ⟨#[38]⟩, .string ⟨#[124]⟩, .string ⟨#[61]⟩, .string ⟨#[126]⟩] 9)
  replace hXv := hXv.below hbr hXv.lt
  replace hVv := hVv.below hbr
  replace hXu := hXu.below hbr hXu.lt
  replace hVu := hVu.below hbr
  replace hb := hb.trans (hbr.mono hb.size)
  clear hbr
  have cev0 := hXv.c0
  have cev1 := hXv.c1
  have ceu0 := hXu.c0
  have ceu1 := hXu.c1
  go_wp2_with fail
  refine (KD.out _ hb).mono ?_
  rintro e w4 ⟨aa, na, ca, ba, ma, da, rfl, hVa, hCa, hq⟩
  clear cev0 cev1 ceu0 ceu1
  have hbl := (Below.refl w4.heap.size w4).alloc (Nat.le_refl _) (.cells #[.slice aa na ca, .slice ba ma da] 25)
  have hq2 := hq.trans (hbl.mono hq.size)
  replace hXv := hXv.below hq2 hXv.lt
  replace hVv := hVv.below hq2
  replace hXu := hXu.below hq2 hXu.lt
  replace hVu := hVu.below hq2
  replace hb := hb.trans (hq2.mono hb.size)
  have hXa := Bx.new w4 aa na ca ba ma da
  replace hVa := hVa.below hbl
  clear hq hbl hq2
  clear hor
  have cev0 := hXv.c0
  have cev1 := hXv.c1
  have ceu0 := hXu.c0
  have ceu1 := hXu.c1
  have cea0 := hXa.c0
  have cea1 := hXa.c1
  go_wp2_with fail
  refine (KE.out _ hb).mono ?_
  rintro e w5 ⟨ab, nb, cb, bb, mb, db, rfl, hVb, hCb, hq⟩
  clear cev0 cev1 ceu0 ceu1 cea0 cea1
  have hbl := (Below.refl w5.heap.size w5).alloc (Nat.le_refl _) (.cells #[.slice ab nb cb, .slice bb mb db] 25)
  have hq2 := hq.trans (hbl.mono hq.size)
  replace hXv := hXv.below hq2 hXv.lt
  replace hVv := hVv.below hq2
  replace hXu := hXu.below hq2 hXu.lt
  replace hVu := hVu.below hq2
  replace hXa := hXa.below hq2 hXa.lt
  replace hVa := hVa.below hq2
  replace hb := hb.trans (hq2.mono hb.size)
  have hXb := Bx.new w5 ab nb cb bb mb db
  replace hVb := hVb.below hbl
  clear hq hbl hq2
  have cev0 := hXv.c0
  have cev1 := hXv.c1
  have ceu0 := hXu.c0
  have ceu1 := hXu.c1
  have cea0 := hXa.c0
  have cea1 := hXa.c1
  have ceb0 := hXb.c0
  have ceb1 := hXb.c1
  go_wp2_with fail
  refine (KG.out _ hb).mono ?_
  rintro e w6 ⟨ac, nc, cc, bc, mc, dc, rfl, hVc, hCc, hq⟩
  clear cev0 cev1 ceu0 ceu1 cea0 cea1 ceb0 ceb1
  have hbl := (Below.refl w6.heap.size w6).alloc (Nat.le_refl _) (.cells #[.slice ac nc cc, .slice bc mc dc] 25)
  have hq2 := hq.trans (hbl.mono hq.size)
  replace hXv := hXv.below hq2 hXv.lt
  replace hVv := hVv.below hq2
  replace hXu := hXu.below hq2 hXu.lt
  replace hVu := hVu.below hq2
  replace hXa := hXa.below hq2 hXa.lt
  replace hVa := hVa.below hq2
  replace hXb := hXb.below hq2 hXb.lt
  replace hVb := hVb.below hq2
  replace hb := hb.trans (hq2.mono hb.size)
  have hXc := Bx.new w6 ac nc cc bc mc dc
  replace hVc := hVc.below hbl
  clear hq hbl hq2
  have cev0 := hXv.c0
  have cev1 := hXv.c1
  have ceu0 := hXu.c0
  have ceu1 := hXu.c1
  have cea0 := hXa.c0
  have cea1 := hXa.c1
  have ceb0 := hXb.c0
  have ceb1 := hXb.c1
  have cec0 := hXc.c0
  have cec1 := hXc.c1
  go_wp2_with fail
  refine (KH.out _ hb).mono ?_
  rintro e w7 ⟨ad, nd, cd, bd, md, dd, rfl, hVd, hCd, hq⟩
  clear cev0 cev1 ceu0 ceu1 cea0 cea1 ceb0 ceb1 cec0 cec1
  have hbl := (Below.refl w7.heap.size w7).alloc (Nat.le_refl _) (.cells #[.slice ad nd cd, .slice bd md dd] 25)
  have hq2 := hq.trans (hbl.mono hq.size)
  replace hXv := hXv.below hq2 hXv.lt
  replace hVv := hVv.below hq2
  replace hXu := hXu.below hq2 hXu.lt
  replace hVu := hVu.below hq2
  replace hXa := hXa.below hq2 hXa.lt
  replace hVa := hVa.below hq2
  replace hXb := hXb.below hq2 hXb.lt
  replace hVb := hVb.below hq2
  replace hXc := hXc.below hq2 hXc.lt
  replace hVc := hVc.below hq2
  replace hb := hb.trans (hq2.mono hb.size)
  have hXd := Bx.new w7 ad nd cd bd md dd
  replace hVd := hVd.below hbl
  clear hq hbl hq2
  have cev0 := hXv.c0
  have cev1 := hXv.c1
  have ceu0 := hXu.c0
  have ceu1 := hXu.c1
  have cea0 := hXa.c0
  have cea1 := hXa.c1
  have ceb0 := hXb.c0
  have ceb1 := hXb.c1
  have cec0 := hXc.c0
  have cec1 := hXc.c1
  have ced0 := hXd.c0
  have ced1 := hXd.c1
  go_wp2_with fail
  refine (KM.out _ ad nd cd bd md dd hb hVd).mono ?_
  rintro e w8 ⟨ak, nk, ck, bk, mk, dk, rfl, hVk, hCk, hq⟩
  clear cev0 cev1 ceu0 ceu1 cea0 cea1 ceb0 ceb1 cec0 cec1 ced0 ced1
  have hbl := (Below.refl w8.heap.size w8).alloc (Nat.le_refl _) (.cells #[.slice ak nk ck, .slice bk mk dk] 25)
  have hq2 := hq.trans (hbl.mono hq.size)
  replace hXv := hXv.below hq2 hXv.lt
  replace hVv := hVv.below hq2
  replace hXu := hXu.below hq2 hXu.lt
  replace hVu := hVu.below hq2
  replace hXa := hXa.below hq2 hXa.lt
  replace hVa := hVa.below hq2
  replace hXb := hXb.below hq2 hXb.lt
  replace hVb := hVb.below hq2
  replace hXc := hXc.below hq2 hXc.lt
  replace hVc := hVc.below hq2
  replace hXd := hXd.below hq2 hXd.lt
  replace hVd := hVd.below hq2
  replace hb := hb.trans (hq2.mono hb.size)
  have hXk := Bx.new w8 ak nk ck bk mk dk
  replace hVk := hVk.below hbl
  clear hq hbl hq2
  have cev0 := hXv.c0
  have cev1 := hXv.c1
  have ceu0 := hXu.c0
  have ceu1 := hXu.c1
  have cea0 := hXa.c0
  have cea1 := hXa.c1
  have ceb0 := hXb.c0
  have ceb1 := hXb.c1
  have cec0 := hXc.c0
  have cec1 := hXc.c1
  have ced0 := hXd.c0
  have ced1 := hXd.c1
  have cek0 := hXk.c0
  have cek1 := hXk.c1
  go_wp2_with fail
  refine (VSame_y _ hVa hVb (by omega)).mono ?_
  rintro e w9 ⟨rfl, hq⟩
  clear cev0 cev1 ceu0 ceu1 cea0 cea1 ceb0 ceb1 cec0 cec1 ced0 ced1 cek0 cek1
  replace hXv := hXv.below hq hXv.lt
  replace hVv := hVv.below hq
  replace hXu := hXu.below hq hXu.lt
  replace hVu := hVu.below hq
  replace hXa := hXa.below hq hXa.lt
  replace hVa := hVa.below hq
  replace hXb := hXb.below hq hXb.lt
  replace hVb := hVb.below hq
  replace hXc := hXc.below hq hXc.lt
  replace hVc := hVc.below hq
  replace hXd := hXd.below hq hXd.lt
  replace hVd := hVd.below hq
  replace hXk := hXk.below hq hXk.lt
  replace hVk := hVk.below hq
  replace hb := hb.trans (hq.mono hb.size)
  clear hq
  have cev0 := hXv.c0
  have cev1 := hXv.c1
  have ceu0 := hXu.c0
  have ceu1 := hXu.c1
  have cea0 := hXa.c0
  have cea1 := hXa.c1
  have ceb0 := hXb.c0
  have ceb1 := hXb.c1
  have cec0 := hXc.c0
  have cec1 := hXc.c1
  have ced0 := hXd.c0
  have ced1 := hXd.c1
  have cek0 := hXk.c0
  have cek1 := hXk.c1
  go_wp2_with fail
  refine (VSame_y _ hVk hVc (by omega)).mono ?_
  rintro e w10 ⟨rfl, hq⟩
  clear cev0 cev1 ceu0 ceu1 cea0 cea1 ceb0 ceb1 cec0 cec1 ced0 ced1 cek0 cek1
  replace hXv := hXv.below hq hXv.lt
  replace hVv := hVv.below hq
  replace hXu := hXu.below hq hXu.lt
  replace hVu := hVu.below hq
  replace hXa := hXa.below hq hXa.lt
  replace hVa := hVa.below hq
  replace hXb := hXb.below hq hXb.lt
  replace hVb := hVb.below hq
  replace hXc := hXc.below hq hXc.lt
  replace hVc := hVc.below hq
  replace hXd := hXd.below hq hXd.lt
  replace hVd := hVd.below hq
  replace hXk := hXk.below hq hXk.lt
  replace hVk := hVk.below hq
  replace hb := hb.trans (hq.mono hb.size)
  clear hq
  go_wp2_with fail
  go_ret
  exact ⟨rfl, hb⟩
set_option maxRecDepth 100000 in
set_option maxHeartbeats 6400000 in
theorem sorder_bad {x : Int} {a1 b1 a2 b2 : Option Addr} {n1 c1 m1 d1 n2 c2 m2 d2 : Nat} {l m : List Int} {es fs : List ByteArray} {o p : Option Ar} (W : World) (hM : SM W) (j : Nat) (hj : x.tmod 6 = (j : Int)) (hj6 : j < 6) (hx0 : 0 ≤ x) (hx1 : x ≤ 255) (hV : Vl W a1 n1 b1 m1 l es) (hz1 : ∀ j, j < m1 → (es.getD j ByteArray.empty).size ≤ maxLen) (hU : Vl W a2 n2 b2 m2 m fs) (hz2 : ∀ j, j < m2 → (fs.getD j ByteArray.empty).size ≤ maxLen) (hf1 : fewB l es = true) (hf2 : fewB m fs = true) (A1 : AIs l es o) (A2 : AIs m fs p) (r : Int) (hr : r ≠ 0) (hp : dyA 1 o p = (none, r)) (hq' : dyA 1 p o = (none, r)) :
    Calls Tryz.prog 5 #[.agg #[.slice a1 n1 c1, .slice b1 m1 d1], .agg #[.slice a2 n2 c2, .slice b2 m2 d2], .int .u8 x] W (TrueEnd W) := by
  have hW := hM.sc
  have AD := dyA_is (k := kdL (oS j).data.toList) A1 A2
  have q1 := ts_len AD
  have A3 := dyA_is (k := 1) A1 A2
  have A4 := dyA_is (k := 1) A2 A1
  rw [hp] at A3
  rw [hq'] at A4
  have KF1 := fun w (hb : Below W.heap.size W w) => Few_is (c := c1) (d := d1) w (hV.below hb) hz1
  rw [hf1] at KF1
  replace KF1 := Lib.hid KF1
  have KF2 := fun w (hb : Below W.heap.size W w) => Few_is (c := c2) (d := d2) w (hU.below hb) hz2
  rw [hf2] at KF2
  replace KF2 := Lib.hid KF2
  have KD := fun w (hb : Below W.heap.size W w) => SDyad_is (op := oS j) (c1 := c1) (d1 := d1) (c2 := c2) (d2 := d2) w (hW.below hb) (oS_sz hj6) (hV.below hb) (hU.below hb) hz1 hz2 A1 A2
  replace KD := Lib.hid KD
  have KE := fun w (hb : Below W.heap.size W w) => SDyad_is (op := oS j) (c1 := c2) (d1 := d2) (c2 := c1) (d2 := d1) w (hW.below hb) (oS_sz hj6) (hU.below hb) (hV.below hb) hz2 hz1 A2 A1
  rw [dyA_turn (oS_kd hj6)] at KE
  replace KE := Lib.hid KE
  have KG := fun w (hb : Below W.heap.size W w) => SDyad_is (op := ⟨#[45]⟩) (c1 := c1) (d1 := d1) (c2 := c2) (d2 := d2) w (hW.below hb) (by unfold maxLen; decide) (hV.below hb) (hU.below hb) hz1 hz2 A1 A2
  rw [show kdL (⟨#[45]⟩ : ByteArray).data.toList = 1 by decide, hp] at KG
  replace KG := Lib.hid KG
  have KH := fun w (hb : Below W.heap.size W w) => SDyad_is (op := ⟨#[45]⟩) (c1 := c2) (d1 := d2) (c2 := c1) (d2 := d1) w (hW.below hb) (by unfold maxLen; decide) (hU.below hb) (hV.below hb) hz2 hz1 A2 A1
  rw [show kdL (⟨#[45]⟩ : ByteArray).data.toList = 1 by decide, hq'] at KH
  replace KH := Lib.hid KH
  have KM := fun w a n c b k d (hb : Below W.heap.size W w) (hv : Vl w a n b k (TS none).1 (TS none).2) => SMonad_is (op := ⟨#[45]⟩) (c := c) (d := d) w (hM.below hb) (by unfold maxLen; decide) hv (ts_sz A4 hv.t.1.symm) A4
  rw [show kmL (⟨#[45]⟩ : ByteArray).data.toList = 0 by decide, show mnA 0 (none : Option Ar) = (none, 1) from rfl] at KM
  replace KM := Lib.hid KM
  generalize (TS (dyA (kdL (oS j).data.toList) o p).1).1 = L1 at *
  generalize (TS (dyA (kdL (oS j).data.toList) o p).1).2 = E1 at *
  generalize (dyA (kdL (oS j).data.toList) o p).2 = r1 at *
  generalize (TS none).1 = L4 at *
  generalize (TS none).2 = E4 at *
  have HOR := Lib.hid (fun w : World => oRow_at w hj6)
  have KS := Lib.hid (fun w (hb : Below W.heap.size W w) => sshown_is w (hW.below hb))
  have hXv := (Bx.new W a1 n1 c1 b1 m1 d1).alloc (.cells #[.slice a2 n2 c2, .slice b2 m2 d2] 25)
  have hXu := Bx.two W (.cells #[.slice a1 n1 c1, .slice b1 m1 d1] 25) a2 n2 c2 b2 m2 d2
  have hb : Below W.heap.size W ((W.alloc (.cells #[.slice a1 n1 c1, .slice b1 m1 d1] 25)).alloc (.cells #[.slice a2 n2 c2, .slice b2 m2 d2] 25)) := ((Below.refl _ _).alloc (Nat.le_refl _) _).alloc (by simp) _
  have hVv := hV.below hb
  have hVu := hU.below hb
  clear hW hM hV hz1 hU hz2 hf1 hf2 A1 A2 AD A3 A4 hp hq'
  have hj7 : (j : Int) < 6 := by omega
  have hjo : (oS j) = oS j := rfl
  generalize oS j = op at *
  clear hjo
  go_enter Tryz.func5, Tryz.ntmps5
  have cev0 := hXv.c0
  have cev1 := hXv.c1
  have ceu0 := hXu.c0
  have ceu1 := hXu.c1
  go_wp2_with fail
  refine (KS.out _ hb).mono ?_
  rintro e w1 ⟨rfl, hq⟩
  clear cev0 cev1 ceu0 ceu1
  replace hXv := hXv.below hq hXv.lt
  replace hVv := hVv.below hq
  replace hXu := hXu.below hq hXu.lt
  replace hVu := hVu.below hq
  replace hb := hb.trans (hq.mono hb.size)
  clear hq
  have cev0 := hXv.c0
  have cev1 := hXv.c1
  have ceu0 := hXu.c0
  have ceu1 := hXu.c1
  go_wp2_with fail
  refine (KF1.out _ hb).mono ?_
  rintro e w2 ⟨rfl, hq⟩
  clear cev0 cev1 ceu0 ceu1
  replace hXv := hXv.below hq hXv.lt
  replace hVv := hVv.below hq
  replace hXu := hXu.below hq hXu.lt
  replace hVu := hVu.below hq
  replace hb := hb.trans (hq.mono hb.size)
  clear hq
  have cev0 := hXv.c0
  have cev1 := hXv.c1
  have ceu0 := hXu.c0
  have ceu1 := hXu.c1
  go_wp2_with fail
  refine (KF2.out _ hb).mono ?_
  rintro e w3 ⟨rfl, hq⟩
  clear cev0 cev1 ceu0 ceu1
  replace hXv := hXv.below hq hXv.lt
  replace hVv := hVv.below hq
  replace hXu := hXu.below hq hXu.lt
  replace hVu := hVu.below hq
  replace hb := hb.trans (hq.mono hb.size)
  clear hq
  have hor := HOR.out w3
  have hbr := (Below.refl w3.heap.size w3).alloc (Nat.le_refl _) (.cells #[.string ⟨#[43]⟩, .string ⟨#[42]⟩, .string ⟨#[38]⟩, .string ⟨#[124]⟩, .string ⟨#[61]⟩, .string ⟨#[126]⟩] 9)
  replace hXv := hXv.below hbr hXv.lt
  replace hVv := hVv.below hbr
  replace hXu := hXu.below hbr hXu.lt
  replace hVu := hVu.below hbr
  replace hb := hb.trans (hbr.mono hb.size)
  clear hbr
  have cev0 := hXv.c0
  have cev1 := hXv.c1
  have ceu0 := hXu.c0
  have ceu1 := hXu.c1
  go_wp2_with fail
  refine (KD.out _ hb).mono ?_
  rintro e w4 ⟨aa, na, ca, ba, ma, da, rfl, hVa, hCa, hq⟩
  clear cev0 cev1 ceu0 ceu1
  have hbl := (Below.refl w4.heap.size w4).alloc (Nat.le_refl _) (.cells #[.slice aa na ca, .slice ba ma da] 25)
  have hq2 := hq.trans (hbl.mono hq.size)
  replace hXv := hXv.below hq2 hXv.lt
  replace hVv := hVv.below hq2
  replace hXu := hXu.below hq2 hXu.lt
  replace hVu := hVu.below hq2
  replace hb := hb.trans (hq2.mono hb.size)
  have hXa := Bx.new w4 aa na ca ba ma da
  replace hVa := hVa.below hbl
  clear hq hbl hq2
  clear hor
  have cev0 := hXv.c0
  have cev1 := hXv.c1
  have ceu0 := hXu.c0
  have ceu1 := hXu.c1
  have cea0 := hXa.c0
  have cea1 := hXa.c1
  go_wp2_with fail
  refine (KE.out _ hb).mono ?_
  rintro e w5 ⟨ab, nb, cb, bb, mb, db, rfl, hVb, hCb, hq⟩
  clear cev0 cev1 ceu0 ceu1 cea0 cea1
  have hbl := (Below.refl w5.heap.size w5).alloc (Nat.le_refl _) (.cells #[.slice ab nb cb, .slice bb mb db] 25)
  have hq2 := hq.trans (hbl.mono hq.size)
  replace hXv := hXv.below hq2 hXv.lt
  replace hVv := hVv.below hq2
  replace hXu := hXu.below hq2 hXu.lt
  replace hVu := hVu.below hq2
  replace hXa := hXa.below hq2 hXa.lt
  replace hVa := hVa.below hq2
  replace hb := hb.trans (hq2.mono hb.size)
  have hXb := Bx.new w5 ab nb cb bb mb db
  replace hVb := hVb.below hbl
  clear hq hbl hq2
  have cev0 := hXv.c0
  have cev1 := hXv.c1
  have ceu0 := hXu.c0
  have ceu1 := hXu.c1
  have cea0 := hXa.c0
  have cea1 := hXa.c1
  have ceb0 := hXb.c0
  have ceb1 := hXb.c1
  go_wp2_with fail
  refine (KG.out _ hb).mono ?_
  rintro e w6 ⟨ac, nc, cc, bc, mc, dc, rfl, hVc, hCc, hq⟩
  clear cev0 cev1 ceu0 ceu1 cea0 cea1 ceb0 ceb1
  have hbl := (Below.refl w6.heap.size w6).alloc (Nat.le_refl _) (.cells #[.slice ac nc cc, .slice bc mc dc] 25)
  have hq2 := hq.trans (hbl.mono hq.size)
  replace hXv := hXv.below hq2 hXv.lt
  replace hVv := hVv.below hq2
  replace hXu := hXu.below hq2 hXu.lt
  replace hVu := hVu.below hq2
  replace hXa := hXa.below hq2 hXa.lt
  replace hVa := hVa.below hq2
  replace hXb := hXb.below hq2 hXb.lt
  replace hVb := hVb.below hq2
  replace hb := hb.trans (hq2.mono hb.size)
  have hXc := Bx.new w6 ac nc cc bc mc dc
  replace hVc := hVc.below hbl
  clear hq hbl hq2
  have cev0 := hXv.c0
  have cev1 := hXv.c1
  have ceu0 := hXu.c0
  have ceu1 := hXu.c1
  have cea0 := hXa.c0
  have cea1 := hXa.c1
  have ceb0 := hXb.c0
  have ceb1 := hXb.c1
  have cec0 := hXc.c0
  have cec1 := hXc.c1
  go_wp2_with fail
  refine (KH.out _ hb).mono ?_
  rintro e w7 ⟨ad, nd, cd, bd, md, dd, rfl, hVd, hCd, hq⟩
  clear cev0 cev1 ceu0 ceu1 cea0 cea1 ceb0 ceb1 cec0 cec1
  have hbl := (Below.refl w7.heap.size w7).alloc (Nat.le_refl _) (.cells #[.slice ad nd cd, .slice bd md dd] 25)
  have hq2 := hq.trans (hbl.mono hq.size)
  replace hXv := hXv.below hq2 hXv.lt
  replace hVv := hVv.below hq2
  replace hXu := hXu.below hq2 hXu.lt
  replace hVu := hVu.below hq2
  replace hXa := hXa.below hq2 hXa.lt
  replace hVa := hVa.below hq2
  replace hXb := hXb.below hq2 hXb.lt
  replace hVb := hVb.below hq2
  replace hXc := hXc.below hq2 hXc.lt
  replace hVc := hVc.below hq2
  replace hb := hb.trans (hq2.mono hb.size)
  have hXd := Bx.new w7 ad nd cd bd md dd
  replace hVd := hVd.below hbl
  clear hq hbl hq2
  have cev0 := hXv.c0
  have cev1 := hXv.c1
  have ceu0 := hXu.c0
  have ceu1 := hXu.c1
  have cea0 := hXa.c0
  have cea1 := hXa.c1
  have ceb0 := hXb.c0
  have ceb1 := hXb.c1
  have cec0 := hXc.c0
  have cec1 := hXc.c1
  have ced0 := hXd.c0
  have ced1 := hXd.c1
  go_wp2_with fail
  refine (KM.out _ ad nd cd bd md dd hb hVd).mono ?_
  rintro e w8 ⟨ak, nk, ck, bk, mk, dk, rfl, hVk, hCk, hq⟩
  clear cev0 cev1 ceu0 ceu1 cea0 cea1 ceb0 ceb1 cec0 cec1 ced0 ced1
  have hbl := (Below.refl w8.heap.size w8).alloc (Nat.le_refl _) (.cells #[.slice ak nk ck, .slice bk mk dk] 25)
  have hq2 := hq.trans (hbl.mono hq.size)
  replace hXv := hXv.below hq2 hXv.lt
  replace hVv := hVv.below hq2
  replace hXu := hXu.below hq2 hXu.lt
  replace hVu := hVu.below hq2
  replace hXa := hXa.below hq2 hXa.lt
  replace hVa := hVa.below hq2
  replace hXb := hXb.below hq2 hXb.lt
  replace hVb := hVb.below hq2
  replace hXc := hXc.below hq2 hXc.lt
  replace hVc := hVc.below hq2
  replace hXd := hXd.below hq2 hXd.lt
  replace hVd := hVd.below hq2
  replace hb := hb.trans (hq2.mono hb.size)
  have hXk := Bx.new w8 ak nk ck bk mk dk
  replace hVk := hVk.below hbl
  clear hq hbl hq2
  have cev0 := hXv.c0
  have cev1 := hXv.c1
  have ceu0 := hXu.c0
  have ceu1 := hXu.c1
  have cea0 := hXa.c0
  have cea1 := hXa.c1
  have ceb0 := hXb.c0
  have ceb1 := hXb.c1
  have cec0 := hXc.c0
  have cec1 := hXc.c1
  have ced0 := hXd.c0
  have ced1 := hXd.c1
  have cek0 := hXk.c0
  have cek1 := hXk.c1
  go_wp2_with fail
  refine (VSame_y _ hVa hVb (by omega)).mono ?_
  rintro e w9 ⟨rfl, hq⟩
  clear cev0 cev1 ceu0 ceu1 cea0 cea1 ceb0 ceb1 cec0 cec1 ced0 ced1 cek0 cek1
  replace hXv := hXv.below hq hXv.lt
  replace hVv := hVv.below hq
  replace hXu := hXu.below hq hXu.lt
  replace hVu := hVu.below hq
  replace hXa := hXa.below hq hXa.lt
  replace hVa := hVa.below hq
  replace hXb := hXb.below hq hXb.lt
  replace hVb := hVb.below hq
  replace hXc := hXc.below hq hXc.lt
  replace hVc := hVc.below hq
  replace hXd := hXd.below hq hXd.lt
  replace hVd := hVd.below hq
  replace hXk := hXk.below hq hXk.lt
  replace hVk := hVk.below hq
  replace hb := hb.trans (hq.mono hb.size)
  clear hq
  go_wp2_with fail
  go_ret
  exact ⟨rfl, hb⟩
theorem sorder_any {x : Int} {a1 b1 a2 b2 : Option Addr} {n1 c1 m1 d1 n2 c2 m2 d2 : Nat} {l m : List Int} {es fs : List ByteArray} (W : World) (hW : SM W) (hx0 : 0 ≤ x) (hx1 : x ≤ 255) (hV : Vl W a1 n1 b1 m1 l es) (hz1 : ∀ j, j < m1 → (es.getD j ByteArray.empty).size ≤ maxLen) (hU : Vl W a2 n2 b2 m2 m fs) (hz2 : ∀ j, j < m2 → (fs.getD j ByteArray.empty).size ≤ maxLen) :
    Calls Tryz.prog 5 #[.agg #[.slice a1 n1 c1, .slice b1 m1 d1], .agg #[.slice a2 n2 c2, .slice b2 m2 d2], .int .u8 x] W (TrueEnd W) := by
  rcases Bool.eq_false_or_eq_true (fewB l es) with h1 | h1
  · rcases Bool.eq_false_or_eq_true (fewB m fs) with h2 | h2
    · obtain ⟨o, A1⟩ := ais_ex l es
      obtain ⟨p, A2⟩ := ais_ex m fs
      have e : x.tmod 6 = x % 6 := Int.tmod_eq_emod_of_nonneg hx0
      have hj : x.tmod 6 = (((x % 6).toNat : Nat) : Int) := by rw [e]; omega
      rcases dyA_minus o p with ⟨s, zs, g1, g2⟩ | ⟨r, g0, g1, g2⟩
      · exact sorder_ok W hW _ hj (by omega) hx0 hx1 hV hz1 hU hz2 h1 h2 A1 A2 g1 g2
      · exact sorder_bad W hW _ hj (by omega) hx0 hx1 hV hz1 hU hz2 h1 h2 A1 A2 r g0 g1 g2
    · exact sorder_few2 W hW.sc hV hz1 hU hz2 h1 h2
  · exact sorder_few1 W hW.sc hV hz1 hU hz2 h1
end Go.Proofs.YtlhbejeninjmoaaGreatDoor

import Derived.Test.YtlhbejeninjmoaaGreatDoorMbc
/-
  SpreadTwice at any array.
-/
namespace Go.Proofs.YtlhbejeninjmoaaGreatDoor
set_option linter.unusedVariables false
set_option linter.unusedSimpArgs false
open Go.RowKit

theorem monad_go {op : ByteArray} {k : Nat} (hk : kmL op.data.toList = k) (h3 : k < 3) (ho : op.size ≤ maxLen) {a b : Option Addr} {n c m d : Nat} {l xs : List Int} (W : World) (hW : SM W) (hV : Vl W a n b m l (xs.map S)) (he : szE l = 0) (hl : (xs.length : Int) = pr l) (hb : ∀ x ∈ xs, x.natAbs < lim) :
    Calls Tryz.prog 13 #[.string op, .agg #[.slice a n c, .slice b m d]] W (AEnd l ((xs.map (mnZ k)).map S) 0 W) := by
  have A := ais_of he hl hb
  have h := SMonad_is (op := op) (c := c) (d := d) W hW ho hV (ais_sz A hV.t.1.symm) A
  have e : mnA k (some (l, xs)) = (some (l, xs.map (mnZ k)), 0) := by simp only [mnA]; rw [if_neg (by omega)]
  rw [hk, e] at h
  exact h
theorem mn_len {k : Nat} (hk : k < 3) {l xs : List Int} (hl : (xs.length : Int) = pr l) (hb : ∀ x ∈ xs, x.natAbs < lim) : ((xs.map (mnZ k)).length : Int) = pr l ∧ ∀ x ∈ xs.map (mnZ k), x.natAbs < lim := by
  refine ⟨by rw [List.length_map]; exact hl, fun z hz => ?_⟩
  obtain ⟨x, hx, rfl⟩ := List.mem_map.1 hz
  exact mnZ_bd hk (hb x hx)
theorem twice_0 (xs : List Int) : (xs.map (mnZ 0)).map (mnZ 0) = xs := by
  rw [List.map_map]
  conv => rhs; rw [← List.map_id xs]
  exact List.map_congr_left fun x _ => (mn_twice x).1
theorem twice_2 (xs : List Int) : (xs.map (mnZ 2)).map (mnZ 2) = xs.map (mnZ 2) := by
  rw [List.map_map]
  exact List.map_congr_left fun x _ => (mn_twice x).2.1
theorem twice_1 (xs : List Int) : ((xs.map (mnZ 1)).map (mnZ 1)).map (mnZ 1) = xs.map (mnZ 1) := by
  rw [List.map_map, List.map_map]
  exact List.map_congr_left fun x _ => (mn_twice x).2.2
set_option maxRecDepth 100000 in
set_option maxHeartbeats 6400000 in
theorem stwice_few1 {a1 b1 : Option Addr} {n1 c1 m1 d1 : Nat} {l : List Int} {es : List ByteArray} (W : World) (hW : SC W) (hV : Vl W a1 n1 b1 m1 l es) (hz1 : ∀ j, j < m1 → (es.getD j ByteArray.empty).size ≤ maxLen)  (hf : fewB l es = false) :
    Calls Tryz.prog 7 #[.agg #[.slice a1 n1 c1, .slice b1 m1 d1]] W (TrueEnd W) := by
  have KF := fun w (hb : Below W.heap.size W w) => Few_is (c := c1) (d := d1) w (hV.below hb) hz1
  rw [hf] at KF
  replace KF := Lib.hid KF
  have KS := Lib.hid (fun w (hb : Below W.heap.size W w) => sshown_is w (hW.below hb))
  have hXv := Bx.new W a1 n1 c1 b1 m1 d1
  have hb : Below W.heap.size W (W.alloc (.cells #[.slice a1 n1 c1, .slice b1 m1 d1] 25)) := (Below.refl _ _).alloc (Nat.le_refl _) _
  have hVv := hV.below hb
  clear hW hV hz1 hf
  go_enter Tryz.func7, Tryz.ntmps7
  have cev0 := hXv.c0
  have cev1 := hXv.c1
  go_wp2_with fail
  refine (KS.out _ hb).mono ?_
  rintro e w1 ⟨rfl, hq⟩
  clear cev0 cev1
  replace hXv := hXv.below hq hXv.lt
  replace hVv := hVv.below hq
  replace hb := hb.trans (hq.mono hb.size)
  clear hq
  have cev0 := hXv.c0
  have cev1 := hXv.c1
  go_wp2_with fail
  refine (KF.out _ hb).mono ?_
  rintro e w2 ⟨rfl, hq⟩
  clear cev0 cev1
  replace hXv := hXv.below hq hXv.lt
  replace hVv := hVv.below hq
  replace hb := hb.trans (hq.mono hb.size)
  clear hq
  go_wp2_with fail
  go_ret
  exact ⟨rfl, hb⟩
set_option maxRecDepth 100000 in
set_option maxHeartbeats 6400000 in
theorem stwice_may {a1 b1 : Option Addr} {n1 c1 m1 d1 : Nat} {l : List Int} {es : List ByteArray} (W : World) (hW : SC W) (hV : Vl W a1 n1 b1 m1 l es) (hz1 : ∀ j, j < m1 → (es.getD j ByteArray.empty).size ≤ maxLen) (hf : fewB l es = true) (hm : mayV l es = false) :
    Calls Tryz.prog 7 #[.agg #[.slice a1 n1 c1, .slice b1 m1 d1]] W (TrueEnd W) := by
  have KF := fun w (hb : Below W.heap.size W w) => Few_is (c := c1) (d := d1) w (hV.below hb) hz1
  rw [hf] at KF
  replace KF := Lib.hid KF
  have KY := fun w (hb : Below W.heap.size W w) => VMay_is (c := c1) (d := d1) w (hV.below hb) hz1
  rw [hm] at KY
  replace KY := Lib.hid KY
  have KS := Lib.hid (fun w (hb : Below W.heap.size W w) => sshown_is w (hW.below hb))
  have hXv := Bx.new W a1 n1 c1 b1 m1 d1
  have hb : Below W.heap.size W (W.alloc (.cells #[.slice a1 n1 c1, .slice b1 m1 d1] 25)) := (Below.refl _ _).alloc (Nat.le_refl _) _
  have hVv := hV.below hb
  clear hW hV hz1 hf hm
  go_enter Tryz.func7, Tryz.ntmps7
  have cev0 := hXv.c0
  have cev1 := hXv.c1
  go_wp2_with fail
  refine (KS.out _ hb).mono ?_
  rintro e w1 ⟨rfl, hq⟩
  clear cev0 cev1
  replace hXv := hXv.below hq hXv.lt
  replace hVv := hVv.below hq
  replace hb := hb.trans (hq.mono hb.size)
  clear hq
  have cev0 := hXv.c0
  have cev1 := hXv.c1
  go_wp2_with fail
  refine (KF.out _ hb).mono ?_
  rintro e w2 ⟨rfl, hq⟩
  clear cev0 cev1
  replace hXv := hXv.below hq hXv.lt
  replace hVv := hVv.below hq
  replace hb := hb.trans (hq.mono hb.size)
  clear hq
  have cev0 := hXv.c0
  have cev1 := hXv.c1
  go_wp2_with fail
  refine (KY.out _ hb).mono ?_
  rintro e w3 ⟨rfl, hq⟩
  clear cev0 cev1
  replace hXv := hXv.below hq hXv.lt
  replace hVv := hVv.below hq
  replace hb := hb.trans (hq.mono hb.size)
  clear hq
  go_wp2_with fail
  go_ret
  exact ⟨rfl, hb⟩
set_option maxRecDepth 100000 in
set_option maxHeartbeats 6400000 in
theorem stwice_yes {a1 b1 : Option Addr} {n1 c1 m1 d1 : Nat} {l : List Int} {es : List ByteArray} {xs : List Int} (W : World) (hM : SM W) (hV : Vl W a1 n1 b1 m1 l es) (hz1 : ∀ j, j < m1 → (es.getD j ByteArray.empty).size ≤ maxLen) (hf : fewB l es = true) (A1 : AIs l es (some (l, xs))) :
    Calls Tryz.prog 7 #[.agg #[.slice a1 n1 c1, .slice b1 m1 d1]] W (TrueEnd W) := by
  have hW := hM.sc
  have hm := A1.may
  obtain ⟨_, _, s1, p1, b1'⟩ := A1.len
  simp only at p1 b1'
  have hes := A1.2.1
  have q1 : l.length ≤ 20 := (fewB_yes hf).1
  have KF := fun w (hb : Below W.heap.size W w) => Few_is (c := c1) (d := d1) w (hV.below hb) hz1
  rw [hf] at KF
  replace KF := Lib.hid KF
  have KY := fun w (hb : Below W.heap.size W w) => VMay_is (c := c1) (d := d1) w (hV.below hb) hz1
  rw [hm] at KY
  replace KY := Lib.hid KY
  simp only at hes
  subst hes
  obtain ⟨p0, b0'⟩ := mn_len (k := 0) (by decide) p1 b1'
  obtain ⟨p2, b2'⟩ := mn_len (k := 2) (by decide) p1 b1'
  obtain ⟨p3, b3'⟩ := mn_len (k := 1) (by decide) p1 b1'
  obtain ⟨p4, b4'⟩ := mn_len (k := 1) (by decide) p3 b3'
  have K0 := fun w a n c b k d (hb : Below W.heap.size W w) (hv : Vl w a n b k l _) => monad_go (op := ⟨#[45]⟩) (k := 0) (c := c) (d := d) (by decide) (by decide) (by unfold maxLen; decide) w (hM.below hb) hv s1 p1 b1'
  replace K0 := Lib.hid K0
  have K00 := fun w a n c b k d (hb : Below W.heap.size W w) (hv : Vl w a n b k l _) => monad_go (op := ⟨#[45]⟩) (k := 0) (c := c) (d := d) (by decide) (by decide) (by unfold maxLen; decide) w (hM.below hb) hv s1 p0 b0'
  replace K00 := Lib.hid K00
  have K2 := fun w a n c b k d (hb : Below W.heap.size W w) (hv : Vl w a n b k l _) => monad_go (op := ⟨#[42]⟩) (k := 2) (c := c) (d := d) (by decide) (by decide) (by unfold maxLen; decide) w (hM.below hb) hv s1 p1 b1'
  replace K2 := Lib.hid K2
  have K22 := fun w a n c b k d (hb : Below W.heap.size W w) (hv : Vl w a n b k l _) => monad_go (op := ⟨#[42]⟩) (k := 2) (c := c) (d := d) (by decide) (by decide) (by unfold maxLen; decide) w (hM.below hb) hv s1 p2 b2'
  replace K22 := Lib.hid K22
  have K1 := fun w a n c b k d (hb : Below W.heap.size W w) (hv : Vl w a n b k l _) => monad_go (op := ⟨#[126]⟩) (k := 1) (c := c) (d := d) (by decide) (by decide) (by unfold maxLen; decide) w (hM.below hb) hv s1 p1 b1'
  replace K1 := Lib.hid K1
  have K11 := fun w a n c b k d (hb : Below W.heap.size W w) (hv : Vl w a n b k l _) => monad_go (op := ⟨#[126]⟩) (k := 1) (c := c) (d := d) (by decide) (by decide) (by unfold maxLen; decide) w (hM.below hb) hv s1 p3 b3'
  replace K11 := Lib.hid K11
  have K111 := fun w a n c b k d (hb : Below W.heap.size W w) (hv : Vl w a n b k l _) => monad_go (op := ⟨#[126]⟩) (k := 1) (c := c) (d := d) (by decide) (by decide) (by unfold maxLen; decide) w (hM.below hb) hv s1 p4 b4'
  replace K111 := Lib.hid K111
  rw [twice_0] at K00
  rw [twice_2] at K22
  rw [twice_1] at K111
  have hlen : (((xs.map (mnZ 1)).map (mnZ 1)).map S).length = (xs.map S).length := by simp only [List.length_map]
  have HL := Lib.hid hlen
  clear hlen
  have KS := Lib.hid (fun w (hb : Below W.heap.size W w) => sshown_is w (hW.below hb))
  have hXv := Bx.new W a1 n1 c1 b1 m1 d1
  have hb : Below W.heap.size W (W.alloc (.cells #[.slice a1 n1 c1, .slice b1 m1 d1] 25)) := (Below.refl _ _).alloc (Nat.le_refl _) _
  have hVv := hV.below hb
  have HM1 := Lib.hid hV.t.1
  clear hW hM hV hz1 hf hm A1 p0 p1 p2 p3 p4 b0' b1' b2' b3' b4' s1
  generalize (xs.map (mnZ 0)).map S = E0 at *
  generalize (xs.map (mnZ 2)).map S = E2 at *
  generalize ((xs.map (mnZ 1)).map (mnZ 1)).map S = E11 at *
  generalize (xs.map (mnZ 1)).map S = E1 at *
  generalize xs.map S = E at *
  go_enter Tryz.func7, Tryz.ntmps7
  have cev0 := hXv.c0
  have cev1 := hXv.c1
  go_wp2_with fail
  refine (KS.out _ hb).mono ?_
  rintro e w1 ⟨rfl, hq⟩
  clear cev0 cev1
  replace hXv := hXv.below hq hXv.lt
  replace hVv := hVv.below hq
  replace hb := hb.trans (hq.mono hb.size)
  clear hq
  have cev0 := hXv.c0
  have cev1 := hXv.c1
  go_wp2_with fail
  refine (KF.out _ hb).mono ?_
  rintro e w2 ⟨rfl, hq⟩
  clear cev0 cev1
  replace hXv := hXv.below hq hXv.lt
  replace hVv := hVv.below hq
  replace hb := hb.trans (hq.mono hb.size)
  clear hq
  have cev0 := hXv.c0
  have cev1 := hXv.c1
  go_wp2_with fail
  refine (KY.out _ hb).mono ?_
  rintro e w3 ⟨rfl, hq⟩
  clear cev0 cev1
  replace hXv := hXv.below hq hXv.lt
  replace hVv := hVv.below hq
  replace hb := hb.trans (hq.mono hb.size)
  clear hq
  have cev0 := hXv.c0
  have cev1 := hXv.c1
  go_wp2_with fail
  refine (K0.out _ _ _ _ _ _ _ hb hVv).mono ?_
  rintro e w4 ⟨aa, na, ca, ba, ma, da, rfl, hVa, hCa, hq⟩
  clear cev0 cev1
  have hbl := (Below.refl w4.heap.size w4).alloc (Nat.le_refl _) (.cells #[.slice aa na ca, .slice ba ma da] 25)
  have hq2 := hq.trans (hbl.mono hq.size)
  replace hXv := hXv.below hq2 hXv.lt
  replace hVv := hVv.below hq2
  replace hb := hb.trans (hq2.mono hb.size)
  have hXa := Bx.new w4 aa na ca ba ma da
  replace hVa := hVa.below hbl
  clear hq hbl hq2
  have cev0 := hXv.c0
  have cev1 := hXv.c1
  have cea0 := hXa.c0
  have cea1 := hXa.c1
  go_wp2_with fail
  refine (K00.out _ _ _ _ _ _ _ hb hVa).mono ?_
  rintro e w5 ⟨ab, nb, cb, bb, mb, db, rfl, hVb, hCb, hq⟩
  clear cev0 cev1 cea0 cea1
  have hbl := (Below.refl w5.heap.size w5).alloc (Nat.le_refl _) (.cells #[.slice ab nb cb, .slice bb mb db] 25)
  have hq2 := hq.trans (hbl.mono hq.size)
  replace hXv := hXv.below hq2 hXv.lt
  replace hVv := hVv.below hq2
  replace hXa := hXa.below hq2 hXa.lt
  replace hVa := hVa.below hq2
  replace hb := hb.trans (hq2.mono hb.size)
  have hXb := Bx.new w5 ab nb cb bb mb db
  replace hVb := hVb.below hbl
  clear hq hbl hq2
  have cev0 := hXv.c0
  have cev1 := hXv.c1
  have cea0 := hXa.c0
  have cea1 := hXa.c1
  have ceb0 := hXb.c0
  have ceb1 := hXb.c1
  go_wp2_with fail
  refine (K2.out _ _ _ _ _ _ _ hb hVv).mono ?_
  rintro e w6 ⟨ap, np, cp, bp, mp, dp, rfl, hVp, hCp, hq⟩
  clear cev0 cev1 cea0 cea1 ceb0 ceb1
  have hbl := (Below.refl w6.heap.size w6).alloc (Nat.le_refl _) (.cells #[.slice ap np cp, .slice bp mp dp] 25)
  have hq2 := hq.trans (hbl.mono hq.size)
  replace hXv := hXv.below hq2 hXv.lt
  replace hVv := hVv.below hq2
  replace hXa := hXa.below hq2 hXa.lt
  replace hVa := hVa.below hq2
  replace hXb := hXb.below hq2 hXb.lt
  replace hVb := hVb.below hq2
  replace hb := hb.trans (hq2.mono hb.size)
  have hXp := Bx.new w6 ap np cp bp mp dp
  replace hVp := hVp.below hbl
  clear hq hbl hq2
  have cev0 := hXv.c0
  have cev1 := hXv.c1
  have cea0 := hXa.c0
  have cea1 := hXa.c1
  have ceb0 := hXb.c0
  have ceb1 := hXb.c1
  have cep0 := hXp.c0
  have cep1 := hXp.c1
  go_wp2_with fail
  refine (K22.out _ _ _ _ _ _ _ hb hVp).mono ?_
  rintro e w7 ⟨ar, nr, cr, br, mr, dr, rfl, hVr, hCr, hq⟩
  clear cev0 cev1 cea0 cea1 ceb0 ceb1 cep0 cep1
  have hbl := (Below.refl w7.heap.size w7).alloc (Nat.le_refl _) (.cells #[.slice ar nr cr, .slice br mr dr] 25)
  have hq2 := hq.trans (hbl.mono hq.size)
  replace hXv := hXv.below hq2 hXv.lt
  replace hVv := hVv.below hq2
  replace hXa := hXa.below hq2 hXa.lt
  replace hVa := hVa.below hq2
  replace hXb := hXb.below hq2 hXb.lt
  replace hVb := hVb.below hq2
  replace hXp := hXp.below hq2 hXp.lt
  replace hVp := hVp.below hq2
  replace hb := hb.trans (hq2.mono hb.size)
  have hXr := Bx.new w7 ar nr cr br mr dr
  replace hVr := hVr.below hbl
  clear hq hbl hq2
  have cev0 := hXv.c0
  have cev1 := hXv.c1
  have cea0 := hXa.c0
  have cea1 := hXa.c1
  have ceb0 := hXb.c0
  have ceb1 := hXb.c1
  have cep0 := hXp.c0
  have cep1 := hXp.c1
  have cer0 := hXr.c0
  have cer1 := hXr.c1
  go_wp2_with fail
  refine (K1.out _ _ _ _ _ _ _ hb hVv).mono ?_
  rintro e w8 ⟨an, nn, cn, bn, mn, dn, rfl, hVn, hCn, hq⟩
  clear cev0 cev1 cea0 cea1 ceb0 ceb1 cep0 cep1 cer0 cer1
  have hbl := (Below.refl w8.heap.size w8).alloc (Nat.le_refl _) (.cells #[.slice an nn cn, .slice bn mn dn] 25)
  have hq2 := hq.trans (hbl.mono hq.size)
  replace hXv := hXv.below hq2 hXv.lt
  replace hVv := hVv.below hq2
  replace hXa := hXa.below hq2 hXa.lt
  replace hVa := hVa.below hq2
  replace hXb := hXb.below hq2 hXb.lt
  replace hVb := hVb.below hq2
  replace hXp := hXp.below hq2 hXp.lt
  replace hVp := hVp.below hq2
  replace hXr := hXr.below hq2 hXr.lt
  replace hVr := hVr.below hq2
  replace hb := hb.trans (hq2.mono hb.size)
  have hXn := Bx.new w8 an nn cn bn mn dn
  replace hVn := hVn.below hbl
  clear hq hbl hq2
  have cev0 := hXv.c0
  have cev1 := hXv.c1
  have cea0 := hXa.c0
  have cea1 := hXa.c1
  have ceb0 := hXb.c0
  have ceb1 := hXb.c1
  have cep0 := hXp.c0
  have cep1 := hXp.c1
  have cer0 := hXr.c0
  have cer1 := hXr.c1
  have cen0 := hXn.c0
  have cen1 := hXn.c1
  go_wp2_with fail
  refine (K11.out _ _ _ _ _ _ _ hb hVn).mono ?_
  rintro e w9 ⟨ak, nk, ck, bk, mk, dk, rfl, hVk, hCk, hq⟩
  clear cev0 cev1 cea0 cea1 ceb0 ceb1 cep0 cep1 cer0 cer1 cen0 cen1
  have hbl := (Below.refl w9.heap.size w9).alloc (Nat.le_refl _) (.cells #[.slice ak nk ck, .slice bk mk dk] 25)
  have hq2 := hq.trans (hbl.mono hq.size)
  replace hXv := hXv.below hq2 hXv.lt
  replace hVv := hVv.below hq2
  replace hXa := hXa.below hq2 hXa.lt
  replace hVa := hVa.below hq2
  replace hXb := hXb.below hq2 hXb.lt
  replace hVb := hVb.below hq2
  replace hXp := hXp.below hq2 hXp.lt
  replace hVp := hVp.below hq2
  replace hXr := hXr.below hq2 hXr.lt
  replace hVr := hVr.below hq2
  replace hXn := hXn.below hq2 hXn.lt
  replace hVn := hVn.below hq2
  replace hb := hb.trans (hq2.mono hb.size)
  have hXk := Bx.new w9 ak nk ck bk mk dk
  replace hVk := hVk.below hbl
  clear hq hbl hq2
  have cev0 := hXv.c0
  have cev1 := hXv.c1
  have cea0 := hXa.c0
  have cea1 := hXa.c1
  have ceb0 := hXb.c0
  have ceb1 := hXb.c1
  have cep0 := hXp.c0
  have cep1 := hXp.c1
  have cer0 := hXr.c0
  have cer1 := hXr.c1
  have cen0 := hXn.c0
  have cen1 := hXn.c1
  have cek0 := hXk.c0
  have cek1 := hXk.c1
  go_wp2_with fail
  refine (K111.out _ _ _ _ _ _ _ hb hVk).mono ?_
  rintro e w10 ⟨ah, nh, ch, bh, mh, dh, rfl, hVh, hCh, hq⟩
  clear cev0 cev1 cea0 cea1 ceb0 ceb1 cep0 cep1 cer0 cer1 cen0 cen1 cek0 cek1
  have hbl := (Below.refl w10.heap.size w10).alloc (Nat.le_refl _) (.cells #[.slice ah nh ch, .slice bh mh dh] 25)
  have hq2 := hq.trans (hbl.mono hq.size)
  replace hXv := hXv.below hq2 hXv.lt
  replace hVv := hVv.below hq2
  replace hXa := hXa.below hq2 hXa.lt
  replace hVa := hVa.below hq2
  replace hXb := hXb.below hq2 hXb.lt
  replace hVb := hVb.below hq2
  replace hXp := hXp.below hq2 hXp.lt
  replace hVp := hVp.below hq2
  replace hXr := hXr.below hq2 hXr.lt
  replace hVr := hVr.below hq2
  replace hXn := hXn.below hq2 hXn.lt
  replace hVn := hVn.below hq2
  replace hXk := hXk.below hq2 hXk.lt
  replace hVk := hVk.below hq2
  replace hb := hb.trans (hq2.mono hb.size)
  have hXh := Bx.new w10 ah nh ch bh mh dh
  replace hVh := hVh.below hbl
  clear hq hbl hq2
  have cev0 := hXv.c0
  have cev1 := hXv.c1
  have cea0 := hXa.c0
  have cea1 := hXa.c1
  have ceb0 := hXb.c0
  have ceb1 := hXb.c1
  have cep0 := hXp.c0
  have cep1 := hXp.c1
  have cer0 := hXr.c0
  have cer1 := hXr.c1
  have cen0 := hXn.c0
  have cen1 := hXn.c1
  have cek0 := hXk.c0
  have cek1 := hXk.c1
  have ceh0 := hXh.c0
  have ceh1 := hXh.c1
  go_wp2_with fail
  refine (VSame_y _ hVb hVv q1).mono ?_
  rintro e w11 ⟨rfl, hq⟩
  clear cev0 cev1 cea0 cea1 ceb0 ceb1 cep0 cep1 cer0 cer1 cen0 cen1 cek0 cek1 ceh0 ceh1
  replace hXv := hXv.below hq hXv.lt
  replace hVv := hVv.below hq
  replace hXa := hXa.below hq hXa.lt
  replace hVa := hVa.below hq
  replace hXb := hXb.below hq hXb.lt
  replace hVb := hVb.below hq
  replace hXp := hXp.below hq hXp.lt
  replace hVp := hVp.below hq
  replace hXr := hXr.below hq hXr.lt
  replace hVr := hVr.below hq
  replace hXn := hXn.below hq hXn.lt
  replace hVn := hVn.below hq
  replace hXk := hXk.below hq hXk.lt
  replace hVk := hVk.below hq
  replace hXh := hXh.below hq hXh.lt
  replace hVh := hVh.below hq
  replace hb := hb.trans (hq.mono hb.size)
  clear hq
  have cev0 := hXv.c0
  have cev1 := hXv.c1
  have cea0 := hXa.c0
  have cea1 := hXa.c1
  have ceb0 := hXb.c0
  have ceb1 := hXb.c1
  have cep0 := hXp.c0
  have cep1 := hXp.c1
  have cer0 := hXr.c0
  have cer1 := hXr.c1
  have cen0 := hXn.c0
  have cen1 := hXn.c1
  have cek0 := hXk.c0
  have cek1 := hXk.c1
  have ceh0 := hXh.c0
  have ceh1 := hXh.c1
  go_wp2_with fail
  refine (VSame_y _ hVp hVr q1).mono ?_
  rintro e w12 ⟨rfl, hq⟩
  clear cev0 cev1 cea0 cea1 ceb0 ceb1 cep0 cep1 cer0 cer1 cen0 cen1 cek0 cek1 ceh0 ceh1
  replace hXv := hXv.below hq hXv.lt
  replace hVv := hVv.below hq
  replace hXa := hXa.below hq hXa.lt
  replace hVa := hVa.below hq
  replace hXb := hXb.below hq hXb.lt
  replace hVb := hVb.below hq
  replace hXp := hXp.below hq hXp.lt
  replace hVp := hVp.below hq
  replace hXr := hXr.below hq hXr.lt
  replace hVr := hVr.below hq
  replace hXn := hXn.below hq hXn.lt
  replace hVn := hVn.below hq
  replace hXk := hXk.below hq hXk.lt
  replace hVk := hVk.below hq
  replace hXh := hXh.below hq hXh.lt
  replace hVh := hVh.below hq
  replace hb := hb.trans (hq.mono hb.size)
  clear hq
  have cev0 := hXv.c0
  have cev1 := hXv.c1
  have cea0 := hXa.c0
  have cea1 := hXa.c1
  have ceb0 := hXb.c0
  have ceb1 := hXb.c1
  have cep0 := hXp.c0
  have cep1 := hXp.c1
  have cer0 := hXr.c0
  have cer1 := hXr.c1
  have cen0 := hXn.c0
  have cen1 := hXn.c1
  have cek0 := hXk.c0
  have cek1 := hXk.c1
  have ceh0 := hXh.c0
  have ceh1 := hXh.c1
  go_wp2_with fail
  refine (VSame_y _ hVn hVh q1).mono ?_
  rintro e w13 ⟨rfl, hq⟩
  clear cev0 cev1 cea0 cea1 ceb0 ceb1 cep0 cep1 cer0 cer1 cen0 cen1 cek0 cek1 ceh0 ceh1
  replace hXv := hXv.below hq hXv.lt
  replace hVv := hVv.below hq
  replace hXa := hXa.below hq hXa.lt
  replace hVa := hVa.below hq
  replace hXb := hXb.below hq hXb.lt
  replace hVb := hVb.below hq
  replace hXp := hXp.below hq hXp.lt
  replace hVp := hVp.below hq
  replace hXr := hXr.below hq hXr.lt
  replace hVr := hVr.below hq
  replace hXn := hXn.below hq hXn.lt
  replace hVn := hVn.below hq
  replace hXk := hXk.below hq hXk.lt
  replace hVk := hVk.below hq
  replace hXh := hXh.below hq hXh.lt
  replace hVh := hVh.below hq
  replace hb := hb.trans (hq.mono hb.size)
  clear hq
  have hmk : mk = m1 := by have e1 := hVk.t.1; have e2 := HM1.out; have e3 := HL.out; omega
  subst hmk
  have cev0 := hXv.c0
  have cev1 := hXv.c1
  have cea0 := hXa.c0
  have cea1 := hXa.c1
  have ceb0 := hXb.c0
  have ceb1 := hXb.c1
  have cep0 := hXp.c0
  have cep1 := hXp.c1
  have cer0 := hXr.c0
  have cer1 := hXr.c1
  have cen0 := hXn.c0
  have cen1 := hXn.c1
  have cek0 := hXk.c0
  have cek1 := hXk.c1
  have ceh0 := hXh.c0
  have ceh1 := hXh.c1
  go_wp2_with fail
  go_ret
  exact ⟨rfl, hb⟩
theorem stwice_any {a1 b1 : Option Addr} {n1 c1 m1 d1 : Nat} {l : List Int} {es : List ByteArray} (W : World) (hW : SM W) (hV : Vl W a1 n1 b1 m1 l es) (hz1 : ∀ j, j < m1 → (es.getD j ByteArray.empty).size ≤ maxLen) :
    Calls Tryz.prog 7 #[.agg #[.slice a1 n1 c1, .slice b1 m1 d1]] W (TrueEnd W) := by
  rcases Bool.eq_false_or_eq_true (fewB l es) with h1 | h1
  · obtain ⟨o, A1⟩ := ais_ex l es
    cases o with
    | none => exact stwice_may W hW.sc hV hz1 h1 A1
    | some q =>
      obtain ⟨l', xs⟩ := q
      obtain ⟨g1, _⟩ := A1.len
      simp only at g1
      subst g1
      exact stwice_yes W hW hV hz1 h1 A1
  · exact stwice_few1 W hW.sc hV hz1 h1
end Go.Proofs.YtlhbejeninjmoaaGreatDoor

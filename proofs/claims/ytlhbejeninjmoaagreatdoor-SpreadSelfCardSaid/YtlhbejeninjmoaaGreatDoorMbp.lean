import Derived.Test.YtlhbejeninjmoaaGreatDoorMbc
/-
  SpreadSelf at any array.
-/
namespace Go.Proofs.YtlhbejeninjmoaaGreatDoor
set_option linter.unusedVariables false
set_option linter.unusedSimpArgs false
open Go.RowKit

set_option maxRecDepth 100000 in
set_option maxHeartbeats 6400000 in
theorem sself_few1 {a1 b1 : Option Addr} {n1 c1 m1 d1 : Nat} {l : List Int} {es : List ByteArray} (W : World) (hW : SC W) (hV : Vl W a1 n1 b1 m1 l es) (hz1 : ∀ j, j < m1 → (es.getD j ByteArray.empty).size ≤ maxLen)  (hf : fewB l es = false) :
    Calls Tryz.prog 8 #[.agg #[.slice a1 n1 c1, .slice b1 m1 d1]] W (TrueEnd W) := by
  have KF := fun w (hb : Below W.heap.size W w) => Few_is (c := c1) (d := d1) w (hV.below hb) hz1
  rw [hf] at KF
  replace KF := Lib.hid KF
  have KS := Lib.hid (fun w (hb : Below W.heap.size W w) => sshown_is w (hW.below hb))
  have hXv := Bx.new W a1 n1 c1 b1 m1 d1
  have hb : Below W.heap.size W (W.alloc (.cells #[.slice a1 n1 c1, .slice b1 m1 d1] 25)) := (Below.refl _ _).alloc (Nat.le_refl _) _
  have hVv := hV.below hb
  clear hW hV hz1 hf
  go_enter Tryz.func8, Tryz.ntmps8
  have cev0 := hXv.c0
  have cev1 := hXv.c1
  go_wp2_with fail
  refine (KS.out _ hb).mono ?_
  rintro e w1 ⟨rfl, hq⟩
  clear cev0 cev1
  replace hXv := hXv.below hq hXv.lt
  replace hVv := hVv.below hq
  replace hb := hb.trans (hq.mono hb.size)
  clear hq
  have cev0 := hXv.c0
  have cev1 := hXv.c1
  go_wp2_with fail
  refine (KF.out _ hb).mono ?_
  rintro e w2 ⟨rfl, hq⟩
  clear cev0 cev1
  replace hXv := hXv.below hq hXv.lt
  replace hVv := hVv.below hq
  replace hb := hb.trans (hq.mono hb.size)
  clear hq
  go_wp2_with fail
  go_ret
  exact ⟨rfl, hb⟩
set_option maxRecDepth 100000 in
set_option maxHeartbeats 6400000 in
theorem sself_may {a1 b1 : Option Addr} {n1 c1 m1 d1 : Nat} {l : List Int} {es : List ByteArray} (W : World) (hW : SC W) (hV : Vl W a1 n1 b1 m1 l es) (hz1 : ∀ j, j < m1 → (es.getD j ByteArray.empty).size ≤ maxLen) (hf : fewB l es = true) (hm : mayV l es = false) :
    Calls Tryz.prog 8 #[.agg #[.slice a1 n1 c1, .slice b1 m1 d1]] W (TrueEnd W) := by
  have KF := fun w (hb : Below W.heap.size W w) => Few_is (c := c1) (d := d1) w (hV.below hb) hz1
  rw [hf] at KF
  replace KF := Lib.hid KF
  have KY := fun w (hb : Below W.heap.size W w) => VMay_is (c := c1) (d := d1) w (hV.below hb) hz1
  rw [hm] at KY
  replace KY := Lib.hid KY
  have KS := Lib.hid (fun w (hb : Below W.heap.size W w) => sshown_is w (hW.below hb))
  have hXv := Bx.new W a1 n1 c1 b1 m1 d1
  have hb : Below W.heap.size W (W.alloc (.cells #[.slice a1 n1 c1, .slice b1 m1 d1] 25)) := (Below.refl _ _).alloc (Nat.le_refl _) _
  have hVv := hV.below hb
  clear hW hV hz1 hf hm
  go_enter Tryz.func8, Tryz.ntmps8
  have cev0 := hXv.c0
  have cev1 := hXv.c1
  go_wp2_with fail
  refine (KS.out _ hb).mono ?_
  rintro e w1 ⟨rfl, hq⟩
  clear cev0 cev1
  replace hXv := hXv.below hq hXv.lt
  replace hVv := hVv.below hq
  replace hb := hb.trans (hq.mono hb.size)
  clear hq
  have cev0 := hXv.c0
  have cev1 := hXv.c1
  go_wp2_with fail
  refine (KF.out _ hb).mono ?_
  rintro e w2 ⟨rfl, hq⟩
  clear cev0 cev1
  replace hXv := hXv.below hq hXv.lt
  replace hVv := hVv.below hq
  replace hb := hb.trans (hq.mono hb.size)
  clear hq
  have cev0 := hXv.c0
  have cev1 := hXv.c1
  go_wp2_with fail
  refine (KY.out _ hb).mono ?_
  rintro e w3 ⟨rfl, hq⟩
  clear cev0 cev1
  replace hXv := hXv.below hq hXv.lt
  replace hVv := hVv.below hq
  replace hb := hb.trans (hq.mono hb.size)
  clear hq
  go_wp2_with fail
  go_ret
  exact ⟨rfl, hb⟩
theorem dyad_self {op : ByteArray} {k : Nat} (hk : kdL op.data.toList = k) (ho : op.size ≤ maxLen) {a b : Option Addr} {n c m d : Nat} {l xs zs : List Int} {es : List ByteArray} (W : World) (hW : SC W) (hV : Vl W a n b m l es) (hz : ∀ j, j < m → (es.getD j ByteArray.empty).size ≤ maxLen) (A : AIs l es (some (l, xs))) (he : dyA k (some (l, xs)) (some (l, xs)) = (some (l, zs), 0)) :
    Calls Tryz.prog 11 #[.string op, .agg #[.slice a n c, .slice b m d], .agg #[.slice a n c, .slice b m d]] W (AEnd l (zs.map S) 0 W) := by
  have h := SDyad_is (op := op) (c1 := c) (d1 := d) (c2 := c) (d2 := d) W hW ho hV hV hz hz A A
  rw [hk, he] at h
  exact h
/-- All elements are the same text. -/
theorem const_at {z : Int} {s : ByteArray} (hs : S z = s) {xs : List Int} {j : Nat} (h : j < xs.length) : ((xs.map fun _ => z).map S).getD j ByteArray.empty = s := by
  rw [List.map_map, List.getD_eq_getElem?_getD, List.getElem?_map, List.getElem?_eq_getElem h]
  exact hs
/-- A slice of texts that are all this one. -/
def All1 (W : World) (b : Option Addr) (m : Nat) (s : ByteArray) : Prop := ∀ j, j < m → ∃ g o, b = some ⟨g, o, none⟩ ∧ W.cell? ⟨g, o + j, none⟩ = some (.string s)
theorem all1_of {W : World} {a b : Option Addr} {n m : Nat} {l xs : List Int} {z : Int} {s : ByteArray} (hV : Vl W a n b m l ((xs.map fun _ => z).map S)) (hs : S z = s) : All1 W b m s := by
  intro j hj
  obtain ⟨g, o, e, hc⟩ := hV.t.2 (by omega)
  have hl : m = xs.length := by have := hV.t.1; simp only [List.length_map] at this; omega
  have := hc j hj
  rw [const_at hs (by omega)] at this
  exact ⟨g, o, e, this⟩
set_option maxRecDepth 100000 in
set_option maxHeartbeats 6400000 in
theorem sself_yes {a1 b1 : Option Addr} {n1 c1 m1 d1 : Nat} {l : List Int} {es : List ByteArray} {xs : List Int} (W : World) (hW : SC W) (hV : Vl W a1 n1 b1 m1 l es) (hz1 : ∀ j, j < m1 → (es.getD j ByteArray.empty).size ≤ maxLen) (hf : fewB l es = true) (A1 : AIs l es (some (l, xs))) :
    Calls Tryz.prog 8 #[.agg #[.slice a1 n1 c1, .slice b1 m1 d1]] W (TrueEnd W) := by
  have hm := A1.may
  obtain ⟨_, e1, s1, p1, _⟩ := A1.len
  simp only at p1 e1
  have hes := A1.2.1
  simp only at hes
  have q1 : l.length ≤ 20 := (fewB_yes hf).1
  have hm3 : m1 ≤ 300 := by have := (fewB_yes hf).2.1; rw [hV.t.1] at this; exact this
  have hmx : xs.length = m1 := by have := hV.t.1; omega
  obtain ⟨d0, d9, d10, d5, d6⟩ := dyA_self (l := l) (xs := xs) (by rw [prD_is]; exact p1)
  have KF := fun w (hb : Below W.heap.size W w) => Few_is (c := c1) (d := d1) w (hV.below hb) hz1
  rw [hf] at KF
  replace KF := Lib.hid KF
  have KY := fun w (hb : Below W.heap.size W w) => VMay_is (c := c1) (d := d1) w (hV.below hb) hz1
  rw [hm] at KY
  replace KY := Lib.hid KY
  have K0 := fun w (hb : Below W.heap.size W w) => dyad_self (op := ⟨#[45]⟩) (k := 1) (c := c1) (d := d1) (by decide) (by unfold maxLen; decide) w (hW.below hb) (hV.below hb) hz1 A1 d0
  replace K0 := Lib.hid K0
  have K1 := fun w (hb : Below W.heap.size W w) => dyad_self (op := ⟨#[61]⟩) (k := 9) (c := c1) (d := d1) (by decide) (by unfold maxLen; decide) w (hW.below hb) (hV.below hb) hz1 A1 d9
  replace K1 := Lib.hid K1
  have K2 := fun w (hb : Below W.heap.size W w) => dyad_self (op := ⟨#[126]⟩) (k := 10) (c := c1) (d := d1) (by decide) (by unfold maxLen; decide) w (hW.below hb) (hV.below hb) hz1 A1 d10
  replace K2 := Lib.hid K2
  have K3 := fun w (hb : Below W.heap.size W w) => dyad_self (op := ⟨#[38]⟩) (k := 5) (c := c1) (d := d1) (by decide) (by unfold maxLen; decide) w (hW.below hb) (hV.below hb) hz1 A1 d5
  rw [← hes] at K3
  replace K3 := Lib.hid K3
  have K4 := fun w (hb : Below W.heap.size W w) => dyad_self (op := ⟨#[124]⟩) (k := 6) (c := c1) (d := d1) (by decide) (by unfold maxLen; decide) w (hW.below hb) (hV.below hb) hz1 A1 d6
  rw [← hes] at K4
  replace K4 := Lib.hid K4
  have KS := Lib.hid (fun w (hb : Below W.heap.size W w) => sshown_is w (hW.below hb))
  have hXv := Bx.new W a1 n1 c1 b1 m1 d1
  have hb : Below W.heap.size W (W.alloc (.cells #[.slice a1 n1 c1, .slice b1 m1 d1] 25)) := (Below.refl _ _).alloc (Nat.le_refl _) _
  have hVv := hV.below hb
  have HMX := Lib.hid hmx
  clear hW hV hz1 hf hm A1 s1 p1 e1 hes d0 d9 d10 d5 d6 hmx
  go_enter Tryz.func8, Tryz.ntmps8
  have cev0 := hXv.c0
  have cev1 := hXv.c1
  go_wp2_with fail
  refine (KS.out _ hb).mono ?_
  rintro e w1 ⟨rfl, hq⟩
  clear cev0 cev1
  replace hXv := hXv.below hq hXv.lt
  replace hVv := hVv.below hq
  replace hb := hb.trans (hq.mono hb.size)
  clear hq
  have cev0 := hXv.c0
  have cev1 := hXv.c1
  go_wp2_with fail
  refine (KF.out _ hb).mono ?_
  rintro e w2 ⟨rfl, hq⟩
  clear cev0 cev1
  replace hXv := hXv.below hq hXv.lt
  replace hVv := hVv.below hq
  replace hb := hb.trans (hq.mono hb.size)
  clear hq
  have cev0 := hXv.c0
  have cev1 := hXv.c1
  go_wp2_with fail
  refine (KY.out _ hb).mono ?_
  rintro e w3 ⟨rfl, hq⟩
  clear cev0 cev1
  replace hXv := hXv.below hq hXv.lt
  replace hVv := hVv.below hq
  replace hb := hb.trans (hq.mono hb.size)
  clear hq
  have cev0 := hXv.c0
  have cev1 := hXv.c1
  go_wp2_with fail
  refine (K0.out _ hb).mono ?_
  rintro e w4 ⟨aa, na, ca, ba, ma, da, rfl, hVa, hCa, hq⟩
  clear cev0 cev1
  have hbl := (Below.refl w4.heap.size w4).alloc (Nat.le_refl _) (.cells #[.slice aa na ca, .slice ba ma da] 25)
  have hq2 := hq.trans (hbl.mono hq.size)
  replace hXv := hXv.below hq2 hXv.lt
  replace hVv := hVv.below hq2
  replace hb := hb.trans (hq2.mono hb.size)
  have hXa := Bx.new w4 aa na ca ba ma da
  replace hVa := hVa.below hbl
  clear hq hbl hq2
  have cev0 := hXv.c0
  have cev1 := hXv.c1
  have cea0 := hXa.c0
  have cea1 := hXa.c1
  go_wp2_with fail
  refine (K1.out _ hb).mono ?_
  rintro e w5 ⟨ab, nb, cb, bb, mb, db, rfl, hVb, hCb, hq⟩
  clear cev0 cev1 cea0 cea1
  have hbl := (Below.refl w5.heap.size w5).alloc (Nat.le_refl _) (.cells #[.slice ab nb cb, .slice bb mb db] 25)
  have hq2 := hq.trans (hbl.mono hq.size)
  replace hXv := hXv.below hq2 hXv.lt
  replace hVv := hVv.below hq2
  replace hXa := hXa.below hq2 hXa.lt
  replace hVa := hVa.below hq2
  replace hb := hb.trans (hq2.mono hb.size)
  have hXb := Bx.new w5 ab nb cb bb mb db
  replace hVb := hVb.below hbl
  clear hq hbl hq2
  have cev0 := hXv.c0
  have cev1 := hXv.c1
  have cea0 := hXa.c0
  have cea1 := hXa.c1
  have ceb0 := hXb.c0
  have ceb1 := hXb.c1
  go_wp2_with fail
  refine (K2.out _ hb).mono ?_
  rintro e w6 ⟨ap, np, cp, bp, mp, dp, rfl, hVp, hCp, hq⟩
  clear cev0 cev1 cea0 cea1 ceb0 ceb1
  have hbl := (Below.refl w6.heap.size w6).alloc (Nat.le_refl _) (.cells #[.slice ap np cp, .slice bp mp dp] 25)
  have hq2 := hq.trans (hbl.mono hq.size)
  replace hXv := hXv.below hq2 hXv.lt
  replace hVv := hVv.below hq2
  replace hXa := hXa.below hq2 hXa.lt
  replace hVa := hVa.below hq2
  replace hXb := hXb.below hq2 hXb.lt
  replace hVb := hVb.below hq2
  replace hb := hb.trans (hq2.mono hb.size)
  have hXp := Bx.new w6 ap np cp bp mp dp
  replace hVp := hVp.below hbl
  clear hq hbl hq2
  have cev0 := hXv.c0
  have cev1 := hXv.c1
  have cea0 := hXa.c0
  have cea1 := hXa.c1
  have ceb0 := hXb.c0
  have ceb1 := hXb.c1
  have cep0 := hXp.c0
  have cep1 := hXp.c1
  go_wp2_with fail
  refine (K3.out _ hb).mono ?_
  rintro e w7 ⟨ar, nr, cr, br, mr, dr, rfl, hVr, hCr, hq⟩
  clear cev0 cev1 cea0 cea1 ceb0 ceb1 cep0 cep1
  have hbl := (Below.refl w7.heap.size w7).alloc (Nat.le_refl _) (.cells #[.slice ar nr cr, .slice br mr dr] 25)
  have hq2 := hq.trans (hbl.mono hq.size)
  replace hXv := hXv.below hq2 hXv.lt
  replace hVv := hVv.below hq2
  replace hXa := hXa.below hq2 hXa.lt
  replace hVa := hVa.below hq2
  replace hXb := hXb.below hq2 hXb.lt
  replace hVb := hVb.below hq2
  replace hXp := hXp.below hq2 hXp.lt
  replace hVp := hVp.below hq2
  replace hb := hb.trans (hq2.mono hb.size)
  have hXr := Bx.new w7 ar nr cr br mr dr
  replace hVr := hVr.below hbl
  clear hq hbl hq2
  have cev0 := hXv.c0
  have cev1 := hXv.c1
  have cea0 := hXa.c0
  have cea1 := hXa.c1
  have ceb0 := hXb.c0
  have ceb1 := hXb.c1
  have cep0 := hXp.c0
  have cep1 := hXp.c1
  have cer0 := hXr.c0
  have cer1 := hXr.c1
  go_wp2_with fail
  refine (K4.out _ hb).mono ?_
  rintro e w8 ⟨an, nn, cn, bn, mn, dn, rfl, hVn, hCn, hq⟩
  clear cev0 cev1 cea0 cea1 ceb0 ceb1 cep0 cep1 cer0 cer1
  have hbl := (Below.refl w8.heap.size w8).alloc (Nat.le_refl _) (.cells #[.slice an nn cn, .slice bn mn dn] 25)
  have hq2 := hq.trans (hbl.mono hq.size)
  replace hXv := hXv.below hq2 hXv.lt
  replace hVv := hVv.below hq2
  replace hXa := hXa.below hq2 hXa.lt
  replace hVa := hVa.below hq2
  replace hXb := hXb.below hq2 hXb.lt
  replace hVb := hVb.below hq2
  replace hXp := hXp.below hq2 hXp.lt
  replace hVp := hVp.below hq2
  replace hXr := hXr.below hq2 hXr.lt
  replace hVr := hVr.below hq2
  replace hb := hb.trans (hq2.mono hb.size)
  have hXn := Bx.new w8 an nn cn bn mn dn
  replace hVn := hVn.below hbl
  clear hq hbl hq2
  have ea : ma = m1 := by have := hVa.t.1; have := HMX.out; simp only [List.length_map] at *; omega
  have eb : mb = m1 := by have := hVb.t.1; have := HMX.out; simp only [List.length_map] at *; omega
  have ep : mp = m1 := by have := hVp.t.1; have := HMX.out; simp only [List.length_map] at *; omega
  subst ea
  subst eb
  subst ep
  have ha := Lib.hid (all1_of hVa S_0)
  have hbb := Lib.hid (all1_of hVb S_1)
  have hp := Lib.hid (all1_of hVp S_0)
  have cev0 := hXv.c0
  have cev1 := hXv.c1
  have cea0 := hXa.c0
  have cea1 := hXa.c1
  have ceb0 := hXb.c0
  have ceb1 := hXb.c1
  have cep0 := hXp.c0
  have cep1 := hXp.c1
  have cer0 := hXr.c0
  have cer1 := hXr.c1
  have cen0 := hXn.c0
  have cen1 := hXn.c1
  clear HMX K0 K1 K2 K3 K4 KF KY KS
  go_wp2_with fail
  go_loop [14] (fun iv => ∃ i : Nat, iv = .int .i64 i ∧ i ≤ mp) (fun iv => mp - (intOf iv).toNat)
  case atStart => exact ⟨0, rfl, by omega⟩
  case round =>
    obtain ⟨i, rfl, hi⟩ := hrel
    by_cases hlt : i < mp
    · have e2 : (i : Int) < (mp : Int) := by omega
      obtain ⟨g1, o1, rfl, k1⟩ := ha.out i hlt
      obtain ⟨g2, o2, rfl, k2⟩ := hbb.out i hlt
      obtain ⟨g3, o3, rfl, k3⟩ := hp.out i hlt
      clear hVr hVn hVa hVb hVp hVv
      go_wp2_with fail
      go_round
      case rel => exact ⟨i + 1, by go_num, by omega⟩
      case measure => simp [intOf]; omega
    · have e2 : ¬ (i : Int) < (mp : Int) := by omega
      obtain rfl : i = mp := by omega
      go_wp2_with fail
      refine (VSame_y _ hVr hVv q1).mono ?_
      rintro e w9 ⟨rfl, hq⟩
      clear cev0 cev1 cea0 cea1 ceb0 ceb1 cep0 cep1 cer0 cer1 cen0 cen1
      replace hXv := hXv.below hq hXv.lt
      replace hVv := hVv.below hq
      replace hXa := hXa.below hq hXa.lt
      replace hVa := hVa.below hq
      replace hXb := hXb.below hq hXb.lt
      replace hVb := hVb.below hq
      replace hXp := hXp.below hq hXp.lt
      replace hVp := hVp.below hq
      replace hXr := hXr.below hq hXr.lt
      replace hVr := hVr.below hq
      replace hXn := hXn.below hq hXn.lt
      replace hVn := hVn.below hq
      replace hb := hb.trans (hq.mono hb.size)
      clear hq
      have cev0 := hXv.c0
      have cev1 := hXv.c1
      have cea0 := hXa.c0
      have cea1 := hXa.c1
      have ceb0 := hXb.c0
      have ceb1 := hXb.c1
      have cep0 := hXp.c0
      have cep1 := hXp.c1
      have cer0 := hXr.c0
      have cer1 := hXr.c1
      have cen0 := hXn.c0
      have cen1 := hXn.c1
      go_wp2_with fail
      refine (VSame_y _ hVn hVv q1).mono ?_
      rintro e w10 ⟨rfl, hq⟩
      clear cev0 cev1 cea0 cea1 ceb0 ceb1 cep0 cep1 cer0 cer1 cen0 cen1
      replace hXv := hXv.below hq hXv.lt
      replace hVv := hVv.below hq
      replace hXa := hXa.below hq hXa.lt
      replace hVa := hVa.below hq
      replace hXb := hXb.below hq hXb.lt
      replace hVb := hVb.below hq
      replace hXp := hXp.below hq hXp.lt
      replace hVp := hVp.below hq
      replace hXr := hXr.below hq hXr.lt
      replace hVr := hVr.below hq
      replace hXn := hXn.below hq hXn.lt
      replace hVn := hVn.below hq
      replace hb := hb.trans (hq.mono hb.size)
      clear hq
      go_wp2_with fail
      go_ret
      exact ⟨rfl, hb⟩
theorem sself_any {a1 b1 : Option Addr} {n1 c1 m1 d1 : Nat} {l : List Int} {es : List ByteArray} (W : World) (hW : SC W) (hV : Vl W a1 n1 b1 m1 l es) (hz1 : ∀ j, j < m1 → (es.getD j ByteArray.empty).size ≤ maxLen) :
    Calls Tryz.prog 8 #[.agg #[.slice a1 n1 c1, .slice b1 m1 d1]] W (TrueEnd W) := by
  rcases Bool.eq_false_or_eq_true (fewB l es) with h1 | h1
  · obtain ⟨o, A1⟩ := ais_ex l es
    cases o with
    | none => exact sself_may W hW hV hz1 h1 A1
    | some q =>
      obtain ⟨l', xs⟩ := q
      obtain ⟨g1, _⟩ := A1.len
      simp only at g1
      subst g1
      exact sself_yes W hW hV hz1 h1 A1
  · exact sself_few1 W hW hV hz1 h1
end Go.Proofs.YtlhbejeninjmoaaGreatDoor

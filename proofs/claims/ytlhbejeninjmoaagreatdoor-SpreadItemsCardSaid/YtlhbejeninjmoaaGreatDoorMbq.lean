import Derived.Test.YtlhbejeninjmoaaGreatDoorMbc
/-
  SpreadItems at any text, any two arrays, and any number.
-/
namespace Go.Proofs.YtlhbejeninjmoaaGreatDoor
set_option linter.unusedVariables false
set_option linter.unusedSimpArgs false
open Go.RowKit

set_option maxRecDepth 100000 in
set_option maxHeartbeats 6400000 in
theorem sitems_few1 {op : ByteArray} {x : Int} {a1 b1 a2 b2 : Option Addr} {n1 c1 m1 d1 n2 c2 m2 d2 : Nat} {l m : List Int} {es fs : List ByteArray} (W : World) (hW : SC W) (hV : Vl W a1 n1 b1 m1 l es) (hz1 : ∀ j, j < m1 → (es.getD j ByteArray.empty).size ≤ maxLen) (hU : Vl W a2 n2 b2 m2 m fs) (hz2 : ∀ j, j < m2 → (fs.getD j ByteArray.empty).size ≤ maxLen) (hf : fewB l es = false) :
    Calls Tryz.prog 4 #[.string op, .agg #[.slice a1 n1 c1, .slice b1 m1 d1], .agg #[.slice a2 n2 c2, .slice b2 m2 d2], .int .u8 x] W (TrueEnd W) := by
  have KF := fun w (hb : Below W.heap.size W w) => Few_is (c := c1) (d := d1) w (hV.below hb) hz1
  rw [hf] at KF
  replace KF := Lib.hid KF
  have KS := Lib.hid (fun w (hb : Below W.heap.size W w) => sshown_is w (hW.below hb))
  have hXv := (Bx.new W a1 n1 c1 b1 m1 d1).alloc (.cells #[.slice a2 n2 c2, .slice b2 m2 d2] 25)
  have hXu := Bx.two W (.cells #[.slice a1 n1 c1, .slice b1 m1 d1] 25) a2 n2 c2 b2 m2 d2
  have hb : Below W.heap.size W ((W.alloc (.cells #[.slice a1 n1 c1, .slice b1 m1 d1] 25)).alloc (.cells #[.slice a2 n2 c2, .slice b2 m2 d2] 25)) := ((Below.refl _ _).alloc (Nat.le_refl _) _).alloc (by simp) _
  have hVv := hV.below hb
  have hVu := hU.below hb
  clear hW hV hz1 hf hU hz2
  go_enter Tryz.func4, Tryz.ntmps4
  have cev0 := hXv.c0
  have cev1 := hXv.c1
  have ceu0 := hXu.c0
  have ceu1 := hXu.c1
  go_wp2_with fail
  refine (KS.out _ hb).mono ?_
  rintro e w1 ⟨rfl, hq⟩
  clear cev0 cev1 ceu0 ceu1
  replace hXv := hXv.below hq hXv.lt
  replace hVv := hVv.below hq
  replace hXu := hXu.below hq hXu.lt
  replace hVu := hVu.below hq
  replace hb := hb.trans (hq.mono hb.size)
  clear hq
  have cev0 := hXv.c0
  have cev1 := hXv.c1
  have ceu0 := hXu.c0
  have ceu1 := hXu.c1
  go_wp2_with fail
  refine (KF.out _ hb).mono ?_
  rintro e w2 ⟨rfl, hq⟩
  clear cev0 cev1 ceu0 ceu1
  replace hXv := hXv.below hq hXv.lt
  replace hVv := hVv.below hq
  replace hXu := hXu.below hq hXu.lt
  replace hVu := hVu.below hq
  replace hb := hb.trans (hq.mono hb.size)
  clear hq
  go_wp2_with fail
  go_ret
  exact ⟨rfl, hb⟩
set_option maxRecDepth 100000 in
set_option maxHeartbeats 6400000 in
theorem sitems_few2 {op : ByteArray} {x : Int} {a1 b1 a2 b2 : Option Addr} {n1 c1 m1 d1 n2 c2 m2 d2 : Nat} {l m : List Int} {es fs : List ByteArray} (W : World) (hW : SC W) (hV : Vl W a1 n1 b1 m1 l es) (hz1 : ∀ j, j < m1 → (es.getD j ByteArray.empty).size ≤ maxLen) (hU : Vl W a2 n2 b2 m2 m fs) (hz2 : ∀ j, j < m2 → (fs.getD j ByteArray.empty).size ≤ maxLen) (hf1 : fewB l es = true) (hf : fewB m fs = false) :
    Calls Tryz.prog 4 #[.string op, .agg #[.slice a1 n1 c1, .slice b1 m1 d1], .agg #[.slice a2 n2 c2, .slice b2 m2 d2], .int .u8 x] W (TrueEnd W) := by
  have KF1 := fun w (hb : Below W.heap.size W w) => Few_is (c := c1) (d := d1) w (hV.below hb) hz1
  rw [hf1] at KF1
  replace KF1 := Lib.hid KF1
  have KF := fun w (hb : Below W.heap.size W w) => Few_is (c := c2) (d := d2) w (hU.below hb) hz2
  rw [hf] at KF
  replace KF := Lib.hid KF
  have KS := Lib.hid (fun w (hb : Below W.heap.size W w) => sshown_is w (hW.below hb))
  have hXv := (Bx.new W a1 n1 c1 b1 m1 d1).alloc (.cells #[.slice a2 n2 c2, .slice b2 m2 d2] 25)
  have hXu := Bx.two W (.cells #[.slice a1 n1 c1, .slice b1 m1 d1] 25) a2 n2 c2 b2 m2 d2
  have hb : Below W.heap.size W ((W.alloc (.cells #[.slice a1 n1 c1, .slice b1 m1 d1] 25)).alloc (.cells #[.slice a2 n2 c2, .slice b2 m2 d2] 25)) := ((Below.refl _ _).alloc (Nat.le_refl _) _).alloc (by simp) _
  have hVv := hV.below hb
  have hVu := hU.below hb
  clear hW hV hz1 hf hU hz2 hf1
  go_enter Tryz.func4, Tryz.ntmps4
  have cev0 := hXv.c0
  have cev1 := hXv.c1
  have ceu0 := hXu.c0
  have ceu1 := hXu.c1
  go_wp2_with fail
  refine (KS.out _ hb).mono ?_
  rintro e w1 ⟨rfl, hq⟩
  clear cev0 cev1 ceu0 ceu1
  replace hXv := hXv.below hq hXv.lt
  replace hVv := hVv.below hq
  replace hXu := hXu.below hq hXu.lt
  replace hVu := hVu.below hq
  replace hb := hb.trans (hq.mono hb.size)
  clear hq
  have cev0 := hXv.c0
  have cev1 := hXv.c1
  have ceu0 := hXu.c0
  have ceu1 := hXu.c1
  go_wp2_with fail
  refine (KF1.out _ hb).mono ?_
  rintro e w2 ⟨rfl, hq⟩
  clear cev0 cev1 ceu0 ceu1
  replace hXv := hXv.below hq hXv.lt
  replace hVv := hVv.below hq
  replace hXu := hXu.below hq hXu.lt
  replace hVu := hVu.below hq
  replace hb := hb.trans (hq.mono hb.size)
  clear hq
  have cev0 := hXv.c0
  have cev1 := hXv.c1
  have ceu0 := hXu.c0
  have ceu1 := hXu.c1
  go_wp2_with fail
  refine (KF.out _ hb).mono ?_
  rintro e w3 ⟨rfl, hq⟩
  clear cev0 cev1 ceu0 ceu1
  replace hXv := hXv.below hq hXv.lt
  replace hVv := hVv.below hq
  replace hXu := hXu.below hq hXu.lt
  replace hVu := hVu.below hq
  replace hb := hb.trans (hq.mono hb.size)
  clear hq
  go_wp2_with fail
  go_ret
  exact ⟨rfl, hb⟩
/-- What an item of an array is. -/
theorem item_ais {l xs : List Int} {es : List ByteArray} (h : AIs l es (some (l, xs))) (hl : l ≠ []) {i : Nat} (hi : (i : Int) < l.getD 0 0) :
    ∃ q e : Nat, itV l = (q : Int) ∧ es.length = q * e ∧ i < q ∧ l.getD 0 0 = (q : Int) ∧ AIs l.tail (part es e i) (some (l.tail, (itA l xs i).2)) ∧ itA l xs i = (l.tail, (itA l xs i).2) := by
  obtain ⟨_, e1, s1, p1, b1⟩ := h.len
  simp only at e1 p1 b1
  have hes := h.2.1
  simp only at hes
  have hm := szE_may.1 s1
  cases l with
  | nil => exact absurd rfl hl
  | cons x r =>
    have hx := hm.nn 0 (by simp)
    simp only [List.getD_cons_zero] at hx hi
    have hr : ∀ j, j < r.length → 0 ≤ r.getD j 0 := fun j hj => by have := hm.nn (j + 1) (by simpa using hj); simpa using this
    have hp := pr_nonneg hr
    have k1 : ((x.toNat : Nat) : Int) = x := Int.toNat_of_nonneg hx
    have k2 : (((pr r).toNat : Nat) : Int) = pr r := Int.toNat_of_nonneg hp
    have k3 : xs.length = x.toNat * (pr r).toNat := by
      have : (xs.length : Int) = ((x.toNat * (pr r).toNat : Nat) : Int) := by rw [p1, Int.natCast_mul, k1, k2]; rfl
      omega
    have hit : itA (x :: r) xs i = (r, (xs.drop (i * (pr r).toNat)).take (pr r).toNat) := by simp [itA, prD_is]
    have ht := (items_of hm (by simp)).2 (by show x ≠ 0; omega)
    obtain ⟨g1, g2, _⟩ := item_sum (show i < x.toNat by omega) k3
    refine ⟨x.toNat, (pr r).toNat, by rw [k1]; rfl, by rw [e1]; exact k3, by omega, by rw [k1]; rfl, ?_, by rw [hit]; rfl⟩
    rw [hit]
    simp only [List.tail_cons]
    have hpart : part es (pr r).toNat i = ((xs.drop (i * (pr r).toNat)).take (pr r).toNat).map S := by unfold part; rw [hes, List.map_take, List.map_drop]
    rw [hpart]
    refine ais_of (szE_may.2 ht) ?_ fun z hz => b1 z (List.mem_of_mem_drop (List.mem_of_mem_take hz))
    rw [List.length_take, List.length_drop, Nat.min_eq_left (by omega), k2]
theorem empty_same {a b : Option Addr} {n c m d : Nat} (W : World) (h : Vl W a n b m [] []) : Calls Tryz.prog 19 #[.agg #[.slice a n c, .slice b m d], .agg #[.slice none 0 0, .slice none 0 0]] W (BoolEnd true W) := VSame_y W h (Vl.none_ W) (by decide)
set_option maxRecDepth 100000 in
set_option maxHeartbeats 6400000 in
theorem sitems_err {op : ByteArray} {x : Int} {a1 b1 a2 b2 : Option Addr} {n1 c1 m1 d1 n2 c2 m2 d2 : Nat} {l m : List Int} {es fs : List ByteArray} {o p : Option Ar} (W : World) (hW : SC W) (ho : op.size ≤ maxLen) (hV : Vl W a1 n1 b1 m1 l es) (hz1 : ∀ j, j < m1 → (es.getD j ByteArray.empty).size ≤ maxLen) (hU : Vl W a2 n2 b2 m2 m fs) (hz2 : ∀ j, j < m2 → (fs.getD j ByteArray.empty).size ≤ maxLen) (hf1 : fewB l es = true) (hf2 : fewB m fs = true) (A1 : AIs l es o) (A2 : AIs m fs p) (r : Int) (hr : ¬ r = 0) (hd : dyA (kdL op.data.toList) o p = (none, r)) :
    Calls Tryz.prog 4 #[.string op, .agg #[.slice a1 n1 c1, .slice b1 m1 d1], .agg #[.slice a2 n2 c2, .slice b2 m2 d2], .int .u8 x] W (TrueEnd W) := by
  have AD := dyA_is (k := kdL op.data.toList) A1 A2
  rw [hd] at AD
  have q1 := ts_len AD
  have KF1 := fun w (hb : Below W.heap.size W w) => Few_is (c := c1) (d := d1) w (hV.below hb) hz1
  rw [hf1] at KF1
  replace KF1 := Lib.hid KF1
  have KF2 := fun w (hb : Below W.heap.size W w) => Few_is (c := c2) (d := d2) w (hU.below hb) hz2
  rw [hf2] at KF2
  replace KF2 := Lib.hid KF2
  have KD := fun w (hb : Below W.heap.size W w) => SDyad_is (op := op) (c1 := c1) (d1 := d1) (c2 := c2) (d2 := d2) w (hW.below hb) ho (hV.below hb) (hU.below hb) hz1 hz2 A1 A2
  rw [hd] at KD
  replace KD := Lib.hid KD
  simp only [TS] at KD q1
  have KS := Lib.hid (fun w (hb : Below W.heap.size W w) => sshown_is w (hW.below hb))
  have hXv := (Bx.new W a1 n1 c1 b1 m1 d1).alloc (.cells #[.slice a2 n2 c2, .slice b2 m2 d2] 25)
  have hXu := Bx.two W (.cells #[.slice a1 n1 c1, .slice b1 m1 d1] 25) a2 n2 c2 b2 m2 d2
  have hb : Below W.heap.size W ((W.alloc (.cells #[.slice a1 n1 c1, .slice b1 m1 d1] 25)).alloc (.cells #[.slice a2 n2 c2, .slice b2 m2 d2] 25)) := ((Below.refl _ _).alloc (Nat.le_refl _) _).alloc (by simp) _
  have hVv := hV.below hb
  have hVu := hU.below hb
  clear hW hV hz1 hf1 hU hz2 hf2 A1 A2 ho hd AD
  go_enter Tryz.func4, Tryz.ntmps4
  have cev0 := hXv.c0
  have cev1 := hXv.c1
  have ceu0 := hXu.c0
  have ceu1 := hXu.c1
  go_wp2_with fail
  refine (KS.out _ hb).mono ?_
  rintro e w1 ⟨rfl, hq⟩
  clear cev0 cev1 ceu0 ceu1
  replace hXv := hXv.below hq hXv.lt
  replace hVv := hVv.below hq
  replace hXu := hXu.below hq hXu.lt
  replace hVu := hVu.below hq
  replace hb := hb.trans (hq.mono hb.size)
  clear hq
  have cev0 := hXv.c0
  have cev1 := hXv.c1
  have ceu0 := hXu.c0
  have ceu1 := hXu.c1
  go_wp2_with fail
  refine (KF1.out _ hb).mono ?_
  rintro e w2 ⟨rfl, hq⟩
  clear cev0 cev1 ceu0 ceu1
  replace hXv := hXv.below hq hXv.lt
  replace hVv := hVv.below hq
  replace hXu := hXu.below hq hXu.lt
  replace hVu := hVu.below hq
  replace hb := hb.trans (hq.mono hb.size)
  clear hq
  have cev0 := hXv.c0
  have cev1 := hXv.c1
  have ceu0 := hXu.c0
  have ceu1 := hXu.c1
  go_wp2_with fail
  refine (KF2.out _ hb).mono ?_
  rintro e w3 ⟨rfl, hq⟩
  clear cev0 cev1 ceu0 ceu1
  replace hXv := hXv.below hq hXv.lt
  replace hVv := hVv.below hq
  replace hXu := hXu.below hq hXu.lt
  replace hVu := hVu.below hq
  replace hb := hb.trans (hq.mono hb.size)
  clear hq
  have cev0 := hXv.c0
  have cev1 := hXv.c1
  have ceu0 := hXu.c0
  have ceu1 := hXu.c1
  go_wp2_with fail
  refine (KD.out _ hb).mono ?_
  rintro e w4 ⟨ax, nx, cx, bx, mx, dx, rfl, hVx, hCx, hq⟩
  clear cev0 cev1 ceu0 ceu1
  have hbl := (Below.refl w4.heap.size w4).alloc (Nat.le_refl _) (.cells #[.slice ax nx cx, .slice bx mx dx] 25)
  have hq2 := hq.trans (hbl.mono hq.size)
  replace hXv := hXv.below hq2 hXv.lt
  replace hVv := hVv.below hq2
  replace hXu := hXu.below hq2 hXu.lt
  replace hVu := hVu.below hq2
  replace hb := hb.trans (hq2.mono hb.size)
  have hXx := Bx.new w4 ax nx cx bx mx dx
  replace hVx := hVx.below hbl
  clear hq hbl hq2
  obtain rfl : 0 = nx := hVx.s.1
  have cev0 := hXv.c0
  have cev1 := hXv.c1
  have ceu0 := hXu.c0
  have ceu1 := hXu.c1
  have cex0 := hXx.c0
  have cex1 := hXx.c1
  go_wp2_with fail
  refine (VMany_is _ hVx (by omega) hCx.nc hCx.cm).mono ?_
  rintro e w5 ⟨rfl, hq⟩
  clear cev0 cev1 ceu0 ceu1 cex0 cex1
  replace hXv := hXv.below hq hXv.lt
  replace hVv := hVv.below hq
  replace hXu := hXu.below hq hXu.lt
  replace hVu := hVu.below hq
  replace hXx := hXx.below hq hXx.lt
  replace hVx := hVx.below hq
  replace hb := hb.trans (hq.mono hb.size)
  clear hq
  rw [show itV [] = 1 from rfl]
  have cev0 := hXv.c0
  have cev1 := hXv.c1
  have ceu0 := hXu.c0
  have ceu1 := hXu.c1
  have cex0 := hXx.c0
  have cex1 := hXx.c1
  go_wp2_with fail
  refine (empty_same _ hVx).mono ?_
  rintro e w6 ⟨rfl, hq⟩
  clear cev0 cev1 ceu0 ceu1 cex0 cex1
  replace hXv := hXv.below hq hXv.lt
  replace hVv := hVv.below hq
  replace hXu := hXu.below hq hXu.lt
  replace hVu := hVu.below hq
  replace hXx := hXx.below hq hXx.lt
  replace hVx := hVx.below hq
  replace hb := hb.trans (hq.mono hb.size)
  clear hq
  go_wp2_with fail
  go_ret
  exact ⟨rfl, hb⟩
set_option maxRecDepth 100000 in
set_option maxHeartbeats 6400000 in
theorem sitems_zero {op : ByteArray} {x : Int} {a1 b1 a2 b2 : Option Addr} {n1 c1 m1 d1 n2 c2 m2 d2 : Nat} {l m : List Int} {es fs : List ByteArray} {o p : Option Ar} (W : World) (hW : SC W) (ho : op.size ≤ maxLen) (hV : Vl W a1 n1 b1 m1 l es) (hz1 : ∀ j, j < m1 → (es.getD j ByteArray.empty).size ≤ maxLen) (hU : Vl W a2 n2 b2 m2 m fs) (hz2 : ∀ j, j < m2 → (fs.getD j ByteArray.empty).size ≤ maxLen) (hf1 : fewB l es = true) (hf2 : fewB m fs = true) (A1 : AIs l es o) (A2 : AIs m fs p) {s zs : List Int} (hd : dyA (kdL op.data.toList) o p = (some (s, zs), 0)) (hs : itV s = 0) :
    Calls Tryz.prog 4 #[.string op, .agg #[.slice a1 n1 c1, .slice b1 m1 d1], .agg #[.slice a2 n2 c2, .slice b2 m2 d2], .int .u8 x] W (TrueEnd W) := by
  have AD := dyA_is (k := kdL op.data.toList) A1 A2
  rw [hd] at AD
  have q1 := ts_len AD
  have KF1 := fun w (hb : Below W.heap.size W w) => Few_is (c := c1) (d := d1) w (hV.below hb) hz1
  rw [hf1] at KF1
  replace KF1 := Lib.hid KF1
  have KF2 := fun w (hb : Below W.heap.size W w) => Few_is (c := c2) (d := d2) w (hU.below hb) hz2
  rw [hf2] at KF2
  replace KF2 := Lib.hid KF2
  have KD := fun w (hb : Below W.heap.size W w) => SDyad_is (op := op) (c1 := c1) (d1 := d1) (c2 := c2) (d2 := d2) w (hW.below hb) ho (hV.below hb) (hU.below hb) hz1 hz2 A1 A2
  rw [hd] at KD
  replace KD := Lib.hid KD
  simp only [TS] at KD q1
  have KS := Lib.hid (fun w (hb : Below W.heap.size W w) => sshown_is w (hW.below hb))
  have hXv := (Bx.new W a1 n1 c1 b1 m1 d1).alloc (.cells #[.slice a2 n2 c2, .slice b2 m2 d2] 25)
  have hXu := Bx.two W (.cells #[.slice a1 n1 c1, .slice b1 m1 d1] 25) a2 n2 c2 b2 m2 d2
  have hb : Below W.heap.size W ((W.alloc (.cells #[.slice a1 n1 c1, .slice b1 m1 d1] 25)).alloc (.cells #[.slice a2 n2 c2, .slice b2 m2 d2] 25)) := ((Below.refl _ _).alloc (Nat.le_refl _) _).alloc (by simp) _
  have hVv := hV.below hb
  have hVu := hU.below hb
  clear hW hV hz1 hf1 hU hz2 hf2 A1 A2 ho hd AD
  generalize zs.map S = E at *
  go_enter Tryz.func4, Tryz.ntmps4
  have cev0 := hXv.c0
  have cev1 := hXv.c1
  have ceu0 := hXu.c0
  have ceu1 := hXu.c1
  go_wp2_with fail
  refine (KS.out _ hb).mono ?_
  rintro e w1 ⟨rfl, hq⟩
  clear cev0 cev1 ceu0 ceu1
  replace hXv := hXv.below hq hXv.lt
  replace hVv := hVv.below hq
  replace hXu := hXu.below hq hXu.lt
  replace hVu := hVu.below hq
  replace hb := hb.trans (hq.mono hb.size)
  clear hq
  have cev0 := hXv.c0
  have cev1 := hXv.c1
  have ceu0 := hXu.c0
  have ceu1 := hXu.c1
  go_wp2_with fail
  refine (KF1.out _ hb).mono ?_
  rintro e w2 ⟨rfl, hq⟩
  clear cev0 cev1 ceu0 ceu1
  replace hXv := hXv.below hq hXv.lt
  replace hVv := hVv.below hq
  replace hXu := hXu.below hq hXu.lt
  replace hVu := hVu.below hq
  replace hb := hb.trans (hq.mono hb.size)
  clear hq
  have cev0 := hXv.c0
  have cev1 := hXv.c1
  have ceu0 := hXu.c0
  have ceu1 := hXu.c1
  go_wp2_with fail
  refine (KF2.out _ hb).mono ?_
  rintro e w3 ⟨rfl, hq⟩
  clear cev0 cev1 ceu0 ceu1
  replace hXv := hXv.below hq hXv.lt
  replace hVv := hVv.below hq
  replace hXu := hXu.below hq hXu.lt
  replace hVu := hVu.below hq
  replace hb := hb.trans (hq.mono hb.size)
  clear hq
  have cev0 := hXv.c0
  have cev1 := hXv.c1
  have ceu0 := hXu.c0
  have ceu1 := hXu.c1
  go_wp2_with fail
  refine (KD.out _ hb).mono ?_
  rintro e w4 ⟨ax, nx, cx, bx, mx, dx, rfl, hVx, hCx, hq⟩
  clear cev0 cev1 ceu0 ceu1
  have hbl := (Below.refl w4.heap.size w4).alloc (Nat.le_refl _) (.cells #[.slice ax nx cx, .slice bx mx dx] 25)
  have hq2 := hq.trans (hbl.mono hq.size)
  replace hXv := hXv.below hq2 hXv.lt
  replace hVv := hVv.below hq2
  replace hXu := hXu.below hq2 hXu.lt
  replace hVu := hVu.below hq2
  replace hb := hb.trans (hq2.mono hb.size)
  have hXx := Bx.new w4 ax nx cx bx mx dx
  replace hVx := hVx.below hbl
  clear hq hbl hq2
  have hnx : nx ≤ 20 := by have := hVx.s.1; omega
  have cev0 := hXv.c0
  have cev1 := hXv.c1
  have ceu0 := hXu.c0
  have ceu1 := hXu.c1
  have cex0 := hXx.c0
  have cex1 := hXx.c1
  go_wp2_with fail
  refine (VMany_is _ hVx (by omega) hCx.nc hCx.cm).mono ?_
  rintro e w5 ⟨rfl, hq⟩
  clear cev0 cev1 ceu0 ceu1 cex0 cex1
  replace hXv := hXv.below hq hXv.lt
  replace hVv := hVv.below hq
  replace hXu := hXu.below hq hXu.lt
  replace hVu := hVu.below hq
  replace hXx := hXx.below hq hXx.lt
  replace hVx := hVx.below hq
  replace hb := hb.trans (hq.mono hb.size)
  clear hq
  rw [hs]
  have cev0 := hXv.c0
  have cev1 := hXv.c1
  have ceu0 := hXu.c0
  have ceu1 := hXu.c1
  have cex0 := hXx.c0
  have cex1 := hXx.c1
  go_wp2_with fail
  go_ret
  exact ⟨rfl, hb⟩
set_option maxRecDepth 100000 in
set_option maxHeartbeats 6400000 in
theorem sitems_rank {op : ByteArray} {x : Int} {a1 b1 a2 b2 : Option Addr} {n1 c1 m1 d1 n2 c2 m2 d2 : Nat} {l m : List Int} {es fs : List ByteArray} {o p : Option Ar} (W : World) (hW : SC W) (ho : op.size ≤ maxLen) (hV : Vl W a1 n1 b1 m1 l es) (hz1 : ∀ j, j < m1 → (es.getD j ByteArray.empty).size ≤ maxLen) (hU : Vl W a2 n2 b2 m2 m fs) (hz2 : ∀ j, j < m2 → (fs.getD j ByteArray.empty).size ≤ maxLen) (hf1 : fewB l es = true) (hf2 : fewB m fs = true) (A1 : AIs l es o) (A2 : AIs m fs p) {zs : List Int} (hd : dyA (kdL op.data.toList) o p = (some ([], zs), 0)) :
    Calls Tryz.prog 4 #[.string op, .agg #[.slice a1 n1 c1, .slice b1 m1 d1], .agg #[.slice a2 n2 c2, .slice b2 m2 d2], .int .u8 x] W (TrueEnd W) := by
  have AD := dyA_is (k := kdL op.data.toList) A1 A2
  rw [hd] at AD
  have q1 := ts_len AD
  have KF1 := fun w (hb : Below W.heap.size W w) => Few_is (c := c1) (d := d1) w (hV.below hb) hz1
  rw [hf1] at KF1
  replace KF1 := Lib.hid KF1
  have KF2 := fun w (hb : Below W.heap.size W w) => Few_is (c := c2) (d := d2) w (hU.below hb) hz2
  rw [hf2] at KF2
  replace KF2 := Lib.hid KF2
  have KD := fun w (hb : Below W.heap.size W w) => SDyad_is (op := op) (c1 := c1) (d1 := d1) (c2 := c2) (d2 := d2) w (hW.below hb) ho (hV.below hb) (hU.below hb) hz1 hz2 A1 A2
  rw [hd] at KD
  replace KD := Lib.hid KD
  simp only [TS] at KD q1
  have KS := Lib.hid (fun w (hb : Below W.heap.size W w) => sshown_is w (hW.below hb))
  have hXv := (Bx.new W a1 n1 c1 b1 m1 d1).alloc (.cells #[.slice a2 n2 c2, .slice b2 m2 d2] 25)
  have hXu := Bx.two W (.cells #[.slice a1 n1 c1, .slice b1 m1 d1] 25) a2 n2 c2 b2 m2 d2
  have hb : Below W.heap.size W ((W.alloc (.cells #[.slice a1 n1 c1, .slice b1 m1 d1] 25)).alloc (.cells #[.slice a2 n2 c2, .slice b2 m2 d2] 25)) := ((Below.refl _ _).alloc (Nat.le_refl _) _).alloc (by simp) _
  have hVv := hV.below hb
  have hVu := hU.below hb
  clear hW hV hz1 hf1 hU hz2 hf2 A1 A2 ho hd AD
  generalize zs.map S = E at *
  go_enter Tryz.func4, Tryz.ntmps4
  have cev0 := hXv.c0
  have cev1 := hXv.c1
  have ceu0 := hXu.c0
  have ceu1 := hXu.c1
  go_wp2_with fail
  refine (KS.out _ hb).mono ?_
  rintro e w1 ⟨rfl, hq⟩
  clear cev0 cev1 ceu0 ceu1
  replace hXv := hXv.below hq hXv.lt
  replace hVv := hVv.below hq
  replace hXu := hXu.below hq hXu.lt
  replace hVu := hVu.below hq
  replace hb := hb.trans (hq.mono hb.size)
  clear hq
  have cev0 := hXv.c0
  have cev1 := hXv.c1
  have ceu0 := hXu.c0
  have ceu1 := hXu.c1
  go_wp2_with fail
  refine (KF1.out _ hb).mono ?_
  rintro e w2 ⟨rfl, hq⟩
  clear cev0 cev1 ceu0 ceu1
  replace hXv := hXv.below hq hXv.lt
  replace hVv := hVv.below hq
  replace hXu := hXu.below hq hXu.lt
  replace hVu := hVu.below hq
  replace hb := hb.trans (hq.mono hb.size)
  clear hq
  have cev0 := hXv.c0
  have cev1 := hXv.c1
  have ceu0 := hXu.c0
  have ceu1 := hXu.c1
  go_wp2_with fail
  refine (KF2.out _ hb).mono ?_
  rintro e w3 ⟨rfl, hq⟩
  clear cev0 cev1 ceu0 ceu1
  replace hXv := hXv.below hq hXv.lt
  replace hVv := hVv.below hq
  replace hXu := hXu.below hq hXu.lt
  replace hVu := hVu.below hq
  replace hb := hb.trans (hq.mono hb.size)
  clear hq
  have cev0 := hXv.c0
  have cev1 := hXv.c1
  have ceu0 := hXu.c0
  have ceu1 := hXu.c1
  go_wp2_with fail
  refine (KD.out _ hb).mono ?_
  rintro e w4 ⟨ax, nx, cx, bx, mx, dx, rfl, hVx, hCx, hq⟩
  clear cev0 cev1 ceu0 ceu1
  have hbl := (Below.refl w4.heap.size w4).alloc (Nat.le_refl _) (.cells #[.slice ax nx cx, .slice bx mx dx] 25)
  have hq2 := hq.trans (hbl.mono hq.size)
  replace hXv := hXv.below hq2 hXv.lt
  replace hVv := hVv.below hq2
  replace hXu := hXu.below hq2 hXu.lt
  replace hVu := hVu.below hq2
  replace hb := hb.trans (hq2.mono hb.size)
  have hXx := Bx.new w4 ax nx cx bx mx dx
  replace hVx := hVx.below hbl
  clear hq hbl hq2
  obtain rfl : 0 = nx := hVx.s.1
  have cev0 := hXv.c0
  have cev1 := hXv.c1
  have ceu0 := hXu.c0
  have ceu1 := hXu.c1
  have cex0 := hXx.c0
  have cex1 := hXx.c1
  go_wp2_with fail
  refine (VMany_is _ hVx (by omega) hCx.nc hCx.cm).mono ?_
  rintro e w5 ⟨rfl, hq⟩
  clear cev0 cev1 ceu0 ceu1 cex0 cex1
  replace hXv := hXv.below hq hXv.lt
  replace hVv := hVv.below hq
  replace hXu := hXu.below hq hXu.lt
  replace hVu := hVu.below hq
  replace hXx := hXx.below hq hXx.lt
  replace hVx := hVx.below hq
  replace hb := hb.trans (hq.mono hb.size)
  clear hq
  rw [show itV [] = 1 from rfl]
  have cev0 := hXv.c0
  have cev1 := hXv.c1
  have ceu0 := hXu.c0
  have ceu1 := hXu.c1
  have cex0 := hXx.c0
  have cex1 := hXx.c1
  go_wp2_with fail
  go_ret
  exact ⟨rfl, hb⟩
set_option maxRecDepth 100000 in
set_option maxHeartbeats 6400000 in
theorem sitems_vv {op : ByteArray} {x : Int} {a1 b1 a2 b2 : Option Addr} {n1 c1 m1 d1 n2 c2 m2 d2 : Nat} {l m : List Int} {es fs : List ByteArray} {xs ys s zs : List Int} (W : World) (hW : SC W) (ho : op.size ≤ maxLen) (hV : Vl W a1 n1 b1 m1 l es) (hz1 : ∀ j, j < m1 → (es.getD j ByteArray.empty).size ≤ maxLen) (hU : Vl W a2 n2 b2 m2 m fs) (hz2 : ∀ j, j < m2 → (fs.getD j ByteArray.empty).size ≤ maxLen) (hp1 : Cp n1 c1 m1 d1) (hp2 : Cp n2 c2 m2 d2) (hf1 : fewB l es = true) (hf2 : fewB m fs = true) (A1 : AIs l es (some (l, xs))) (A2 : AIs m fs (some (m, ys))) (hd : dyA (kdL op.data.toList) (some (l, xs)) (some (m, ys)) = (some (s, zs), 0)) (hs : s ≠ []) (i : Nat) (hi : (i : Int) < s.getD 0 0) (hx : x.tmod (itV s) = (i : Int)) (hx0 : 0 ≤ x) (hx1 : x ≤ 255) (hl : l = s) (hn : 0 < n1) (hm : m = s) (hn2 : 0 < n2) :
    Calls Tryz.prog 4 #[.string op, .agg #[.slice a1 n1 c1, .slice b1 m1 d1], .agg #[.slice a2 n2 c2, .slice b2 m2 d2], .int .u8 x] W (TrueEnd W) := by
  have AD := dyA_is (k := kdL op.data.toList) A1 A2
  rw [hd] at AD
  have q1 := ts_len AD
  simp only [TS] at AD q1
  have h0 : ∀ x ∈ s, 0 ≤ x := fun x hx => by
    obtain ⟨j, hj, rfl⟩ := List.getElem_of_mem hx
    have := (szE_may.1 AD.len.2.2.1).nn j hj
    rwa [List.getD_eq_getElem?_getD, List.getElem?_eq_getElem hj] at this
  have hit := dyA_items hd hs hi h0
  have hmz := AD.may
  have hszz := fun n (hn : n = (zs.map S).length) => ais_sz AD hn
  obtain ⟨q, e, hq, hqe, hiq, hgd, AZ, hZ⟩ := item_ais AD hs hi
  generalize (itA s zs i).2 = zi at *
  have hzi := AZ.2.1
  simp only at hzi
  have hmay1 := A1.may
  obtain ⟨qa, ea, hqa, hqea, hiqa, hgda, B1, hI1⟩ := item_ais A1 (i := i) (by rw [hl]; exact hs) (by rw [hl]; exact hi)
  generalize (itA l xs i).2 = xi at *
  have hmay2 := A2.may
  obtain ⟨qb, eb, hqb, hqeb, hiqb, hgdb, B2, hI2⟩ := item_ais A2 (i := i) (by rw [hm]; exact hs) (by rw [hm]; exact hi)
  generalize (itA m ys i).2 = yi at *
  rw [hI1, hI2, hZ] at hit
  rw [hq] at hx
  have hn1 : n1 ≤ 20 := by have := (fewB_yes hf1).1; rw [hV.s.1] at this; exact this
  have hn2' : n2 ≤ 20 := by have := (fewB_yes hf2).1; rw [hU.s.1] at this; exact this
  have hm1 : m1 ≤ 300 := by have := (fewB_yes hf1).2.1; rw [hV.t.1] at this; exact this
  have hm2 : m2 ≤ 300 := by have := (fewB_yes hf2).2.1; rw [hU.t.1] at this; exact this
  have hs3 := (szE_may.1 AD.len.2.2.1).len
  have hz4 : (zs.map S).length ≤ 4096 := by have h1 := AD.len; have h2 := (szE_may.1 h1.2.2.1).pr; simp only at h1; omega
  have KF1 := fun w (hb : Below W.heap.size W w) => Few_is (c := c1) (d := d1) w (hV.below hb) hz1
  rw [hf1] at KF1
  replace KF1 := Lib.hid KF1
  have KF2 := fun w (hb : Below W.heap.size W w) => Few_is (c := c2) (d := d2) w (hU.below hb) hz2
  rw [hf2] at KF2
  replace KF2 := Lib.hid KF2
  have KD := fun w (hb : Below W.heap.size W w) => SDyad_is (op := op) (c1 := c1) (d1 := d1) (c2 := c2) (d2 := d2) w (hW.below hb) ho (hV.below hb) (hU.below hb) hz1 hz2 A1 A2
  rw [hd] at KD
  replace KD := Lib.hid KD
  have KI1 := fun w (hb : Below W.heap.size W w) => Item_yes (c := c1) (d := d1) w (hV.below hb) hp1 hn1 (by omega) hz1 hmay1 qa ea i hqa hiqa (by rw [← hV.t.1]; exact hqea)
  replace KI1 := Lib.hid KI1
  have KI2 := fun w (hb : Below W.heap.size W w) => Item_yes (c := c2) (d := d2) w (hU.below hb) hp2 hn2' (by omega) hz2 hmay2 qb eb i hqb hiqb (by rw [← hU.t.1]; exact hqeb)
  replace KI2 := Lib.hid KI2
  have KY := fun w a n c b k d a' n' c' b' k' d' (hb : Below W.heap.size W w) (h1 : Vl w a n b k l.tail (part es ea i)) (h2 : Vl w a' n' b' k' m.tail (part fs eb i)) => SDyad_is (op := op) (c1 := c) (d1 := d) (c2 := c') (d2 := d') w (hW.below hb) ho h1 h2 (ais_sz B1 h1.t.1.symm) (ais_sz B2 h2.t.1.symm) B1 B2
  rw [hit] at KY
  simp only [TS] at KY
  rw [← hzi] at KY
  replace KY := Lib.hid KY
  have KZ := Lib.hid (fun w a n c b k d (hb : Below W.heap.size W w) (h : Vl w a n b k s (zs.map S)) (hc : Cp n c k d) => Item_yes (c := c) (d := d) w h hc (by have := h.s.1; omega) (by have := h.t.1; omega) (hszz _ h.t.1.symm) hmz q e i hq hiq (by rw [← h.t.1]; exact hqe))
  have KX := fun w a n c b k d (hb : Below W.heap.size W w) (h : Vl w a n b k s (zs.map S)) => VMay_is (c := c) (d := d) w h (hszz _ h.t.1.symm)
  rw [hmz] at KX
  replace KX := Lib.hid KX
  have hst3 : s.tail.length ≤ 20 := by rw [List.length_tail]; omega
  have hnx0 : ∀ n, s.length = n → 0 < n := fun n h => by rcases Nat.eq_zero_or_pos n with h0 | h0; exact absurd (List.length_eq_zero_iff.1 (h.trans h0)) hs; exact h0
  simp only [TS] at KD
  have KS := Lib.hid (fun w (hb : Below W.heap.size W w) => sshown_is w (hW.below hb))
  have hXv := (Bx.new W a1 n1 c1 b1 m1 d1).alloc (.cells #[.slice a2 n2 c2, .slice b2 m2 d2] 25)
  have hXu := Bx.two W (.cells #[.slice a1 n1 c1, .slice b1 m1 d1] 25) a2 n2 c2 b2 m2 d2
  have hb : Below W.heap.size W ((W.alloc (.cells #[.slice a1 n1 c1, .slice b1 m1 d1] 25)).alloc (.cells #[.slice a2 n2 c2, .slice b2 m2 d2] 25)) := ((Below.refl _ _).alloc (Nat.le_refl _) _).alloc (by simp) _
  have hVv := hV.below hb
  have hVu := hU.below hb
  have HN := Lib.hid hnx0
  have HQ := Lib.hid hq
  clear hW hV hz1 hf1 hU hz2 hf2 A1 A2 ho hd AD h0 hit hmz hszz hqe hgd AZ hZ hzi B1 hI1 B2 hI2 hp1 hp2 hl hm hi hnx0 hq hs hm1 hm2 hz4 hmay1 hqa hqea hiqa hgda hmay2 hqb hqeb hiqb hgdb
  generalize zs.map S = E at *
  go_enter Tryz.func4, Tryz.ntmps4
  have cev0 := hXv.c0
  have cev1 := hXv.c1
  have ceu0 := hXu.c0
  have ceu1 := hXu.c1
  go_wp2_with fail
  refine (KS.out _ hb).mono ?_
  rintro e w1 ⟨rfl, hq⟩
  clear cev0 cev1 ceu0 ceu1
  replace hXv := hXv.below hq hXv.lt
  replace hVv := hVv.below hq
  replace hXu := hXu.below hq hXu.lt
  replace hVu := hVu.below hq
  replace hb := hb.trans (hq.mono hb.size)
  clear hq
  have cev0 := hXv.c0
  have cev1 := hXv.c1
  have ceu0 := hXu.c0
  have ceu1 := hXu.c1
  go_wp2_with fail
  refine (KF1.out _ hb).mono ?_
  rintro e w2 ⟨rfl, hq⟩
  clear cev0 cev1 ceu0 ceu1
  replace hXv := hXv.below hq hXv.lt
  replace hVv := hVv.below hq
  replace hXu := hXu.below hq hXu.lt
  replace hVu := hVu.below hq
  replace hb := hb.trans (hq.mono hb.size)
  clear hq
  have cev0 := hXv.c0
  have cev1 := hXv.c1
  have ceu0 := hXu.c0
  have ceu1 := hXu.c1
  go_wp2_with fail
  refine (KF2.out _ hb).mono ?_
  rintro e w3 ⟨rfl, hq⟩
  clear cev0 cev1 ceu0 ceu1
  replace hXv := hXv.below hq hXv.lt
  replace hVv := hVv.below hq
  replace hXu := hXu.below hq hXu.lt
  replace hVu := hVu.below hq
  replace hb := hb.trans (hq.mono hb.size)
  clear hq
  have cev0 := hXv.c0
  have cev1 := hXv.c1
  have ceu0 := hXu.c0
  have ceu1 := hXu.c1
  go_wp2_with fail
  refine (KD.out _ hb).mono ?_
  rintro e w4 ⟨ax, nx, cx, bx, mx, dx, rfl, hVx, hCx, hq⟩
  clear cev0 cev1 ceu0 ceu1
  have hbl := (Below.refl w4.heap.size w4).alloc (Nat.le_refl _) (.cells #[.slice ax nx cx, .slice bx mx dx] 25)
  have hq2 := hq.trans (hbl.mono hq.size)
  replace hXv := hXv.below hq2 hXv.lt
  replace hVv := hVv.below hq2
  replace hXu := hXu.below hq2 hXu.lt
  replace hVu := hVu.below hq2
  replace hb := hb.trans (hq2.mono hb.size)
  have hXx := Bx.new w4 ax nx cx bx mx dx
  replace hVx := hVx.below hbl
  clear hq hbl hq2
  have hnx : nx ≤ 20 := by have := hVx.s.1; omega
  have hnp := HN.out _ hVx.s.1
  have cev0 := hXv.c0
  have cev1 := hXv.c1
  have ceu0 := hXu.c0
  have ceu1 := hXu.c1
  have cex0 := hXx.c0
  have cex1 := hXx.c1
  go_wp2_with fail
  refine (VMany_is _ hVx hnx hCx.nc hCx.cm).mono ?_
  rintro e w5 ⟨rfl, hq⟩
  clear cev0 cev1 ceu0 ceu1 cex0 cex1
  replace hXv := hXv.below hq hXv.lt
  replace hVv := hVv.below hq
  replace hXu := hXu.below hq hXu.lt
  replace hVu := hVu.below hq
  replace hXx := hXx.below hq hXx.lt
  replace hVx := hVx.below hq
  replace hb := hb.trans (hq.mono hb.size)
  clear hq
  rw [HQ.out]
  have f1 : ¬ (q : Int) = 0 := by omega
  have f1' : ((q : Int) == 0) = false := beq_eq_false_iff_ne.2 f1
  have f2 : ¬ (nx : Int) = 0 := by omega
  have f2' : ((nx : Int) == 0) = false := beq_eq_false_iff_ne.2 f2
  have cev0 := hXv.c0
  have cev1 := hXv.c1
  have ceu0 := hXu.c0
  have ceu1 := hXu.c1
  have cex0 := hXx.c0
  have cex1 := hXx.c1
  have cm0 := (hXu.alloc (.cells #[.slice a1 n1 c1, .slice b1 m1 d1] 25)).c0
  have cm1 := (hXu.alloc (.cells #[.slice a1 n1 c1, .slice b1 m1 d1] 25)).c1
  have lv : W.heap.size < w5.heap.size := hXv.lt
  have lu : W.heap.size + 1 < w5.heap.size := hXu.lt
  have lx : w4.heap.size < w5.heap.size := hXx.lt
  have hbl : Below w5.heap.size w5 ((w5.alloc (.cells #[.slice a1 n1 c1, .slice b1 m1 d1] 25)).alloc (.cells #[.slice a2 n2 c2, .slice b2 m2 d2] 25)) := ((Below.refl _ _).alloc (Nat.le_refl _) _).alloc (by simp) _
  have hXa := (Bx.new w5 a1 n1 c1 b1 m1 d1).alloc (.cells #[.slice a2 n2 c2, .slice b2 m2 d2] 25)
  have hXb := Bx.two w5 (.cells #[.slice a1 n1 c1, .slice b1 m1 d1] 25) a2 n2 c2 b2 m2 d2
  replace hXv := hXv.below hbl hXv.lt
  replace hVv := hVv.below hbl
  replace hXu := hXu.below hbl hXu.lt
  replace hVu := hVu.below hbl
  replace hXx := hXx.below hbl hXx.lt
  replace hVx := hVx.below hbl
  replace hb := hb.trans (hbl.mono hb.size)
  have hVa := hVv
  have hVb := hVu
  clear hbl
  have ddv0 := hXv.c0
  have ddv1 := hXv.c1
  have ddu0 := hXu.c0
  have ddu1 := hXu.c1
  have ddx0 := hXx.c0
  have ddx1 := hXx.c1
  have dda0 := hXa.c0
  have dda1 := hXa.c1
  have ddb0 := hXb.c0
  have ddb1 := hXb.c1
  go_wp2_with fail
  refine (KI1.out _ hb).mono ?_
  rintro e w6 ⟨aa', na', ca', ba', ma', da', rfl, hVi, hNi, hq⟩
  clear cev0 cev1 ceu0 ceu1 cex0 cex1 cm0 cm1 ddv0 ddv1 ddu0 ddu1 ddx0 ddx1 dda0 dda1 ddb0 ddb1
  replace hXv := hXv.below hq hXv.lt
  replace hVv := hVv.below hq
  replace hXu := hXu.below hq hXu.lt
  replace hVu := hVu.below hq
  replace hXx := hXx.below hq hXx.lt
  replace hVx := hVx.below hq
  replace hXa := hXa.below hq hXa.lt
  replace hVa := hVa.below hq
  replace hXb := hXb.below hq hXb.lt
  replace hVb := hVb.below hq
  replace hb := hb.trans (hq.mono hb.size)
  clear hq
  have ea0 := hXa.c0
  have ea1 := hXa.c1
  have fa0 := hXa.f 0
  have fa1 := hXa.f 1
  replace hXv := (hXv.setOther (p := ⟨w5.heap.size, 0, none⟩) (by first | (simp; done) | (simp; omega)) (.slice aa' na' ca')).setOther (p := ⟨w5.heap.size, 1, none⟩) (by first | (simp; done) | (simp; omega)) (.slice ba' ma' da')
  replace hVv : Vl _ _ _ _ _ _ _ := ⟨hXa.sl hVv.s (.slice aa' na' ca') (.slice ba' ma' da'), hXa.st hVv.t (.slice aa' na' ca') (.slice ba' ma' da'), hVv.mm⟩
  replace hXu := (hXu.setOther (p := ⟨w5.heap.size, 0, none⟩) (by first | (simp; done) | (simp; omega)) (.slice aa' na' ca')).setOther (p := ⟨w5.heap.size, 1, none⟩) (by first | (simp; done) | (simp; omega)) (.slice ba' ma' da')
  replace hVu : Vl _ _ _ _ _ _ _ := ⟨hXa.sl hVu.s (.slice aa' na' ca') (.slice ba' ma' da'), hXa.st hVu.t (.slice aa' na' ca') (.slice ba' ma' da'), hVu.mm⟩
  replace hXx := (hXx.setOther (p := ⟨w5.heap.size, 0, none⟩) (by first | (simp; done) | (simp; omega)) (.slice aa' na' ca')).setOther (p := ⟨w5.heap.size, 1, none⟩) (by first | (simp; done) | (simp; omega)) (.slice ba' ma' da')
  replace hVx : Vl _ _ _ _ _ _ _ := ⟨hXa.sl hVx.s (.slice aa' na' ca') (.slice ba' ma' da'), hXa.st hVx.t (.slice aa' na' ca') (.slice ba' ma' da'), hVx.mm⟩
  replace hXb := (hXb.setOther (p := ⟨w5.heap.size, 0, none⟩) (by first | (simp; done) | (simp; omega)) (.slice aa' na' ca')).setOther (p := ⟨w5.heap.size, 1, none⟩) (by first | (simp; done) | (simp; omega)) (.slice ba' ma' da')
  replace hVb : Vl _ _ _ _ _ _ _ := ⟨hXa.sl hVb.s (.slice aa' na' ca') (.slice ba' ma' da'), hXa.st hVb.t (.slice aa' na' ca') (.slice ba' ma' da'), hVb.mm⟩
  replace hVa : Vl _ _ _ _ _ _ _ := ⟨hXa.sl hVi.s (.slice aa' na' ca') (.slice ba' ma' da'), hXa.st hVi.t (.slice aa' na' ca') (.slice ba' ma' da'), hVi.mm⟩
  replace hXa := hXa.set aa' na' ca' ba' ma' da'
  replace hb := below_made hb (show W.heap.size ≤ w5.heap.size by omega) (.slice aa' na' ca') (.slice ba' ma' da')
  clear hVi hNi
  have cev0 := hXv.c0
  have cev1 := hXv.c1
  have ceu0 := hXu.c0
  have ceu1 := hXu.c1
  have cex0 := hXx.c0
  have cex1 := hXx.c1
  have cea0 := hXa.c0
  have cea1 := hXa.c1
  have ceb0 := hXb.c0
  have ceb1 := hXb.c1
  go_wp2_with fail
  refine (KI2.out _ hb).mono ?_
  rintro e w7 ⟨ab', nb', cb', bb', mb', db', rfl, hVi, hNi, hq⟩
  clear cev0 cev1 ceu0 ceu1 cex0 cex1 cea0 cea1 ceb0 ceb1 ea0 ea1 fa0 fa1
  replace hXv := hXv.below hq hXv.lt
  replace hVv := hVv.below hq
  replace hXu := hXu.below hq hXu.lt
  replace hVu := hVu.below hq
  replace hXx := hXx.below hq hXx.lt
  replace hVx := hVx.below hq
  replace hXa := hXa.below hq hXa.lt
  replace hVa := hVa.below hq
  replace hXb := hXb.below hq hXb.lt
  replace hVb := hVb.below hq
  replace hb := hb.trans (hq.mono hb.size)
  clear hq
  have ea0 := hXb.c0
  have ea1 := hXb.c1
  have fa0 := hXb.f 0
  have fa1 := hXb.f 1
  replace hXv := (hXv.setOther (p := ⟨w5.heap.size + 1, 0, none⟩) (by first | (simp; done) | (simp; omega)) (.slice ab' nb' cb')).setOther (p := ⟨w5.heap.size + 1, 1, none⟩) (by first | (simp; done) | (simp; omega)) (.slice bb' mb' db')
  replace hVv : Vl _ _ _ _ _ _ _ := ⟨hXb.sl hVv.s (.slice ab' nb' cb') (.slice bb' mb' db'), hXb.st hVv.t (.slice ab' nb' cb') (.slice bb' mb' db'), hVv.mm⟩
  replace hXu := (hXu.setOther (p := ⟨w5.heap.size + 1, 0, none⟩) (by first | (simp; done) | (simp; omega)) (.slice ab' nb' cb')).setOther (p := ⟨w5.heap.size + 1, 1, none⟩) (by first | (simp; done) | (simp; omega)) (.slice bb' mb' db')
  replace hVu : Vl _ _ _ _ _ _ _ := ⟨hXb.sl hVu.s (.slice ab' nb' cb') (.slice bb' mb' db'), hXb.st hVu.t (.slice ab' nb' cb') (.slice bb' mb' db'), hVu.mm⟩
  replace hXx := (hXx.setOther (p := ⟨w5.heap.size + 1, 0, none⟩) (by first | (simp; done) | (simp; omega)) (.slice ab' nb' cb')).setOther (p := ⟨w5.heap.size + 1, 1, none⟩) (by first | (simp; done) | (simp; omega)) (.slice bb' mb' db')
  replace hVx : Vl _ _ _ _ _ _ _ := ⟨hXb.sl hVx.s (.slice ab' nb' cb') (.slice bb' mb' db'), hXb.st hVx.t (.slice ab' nb' cb') (.slice bb' mb' db'), hVx.mm⟩
  replace hXa := (hXa.setOther (p := ⟨w5.heap.size + 1, 0, none⟩) (by first | (simp; done) | (simp; omega)) (.slice ab' nb' cb')).setOther (p := ⟨w5.heap.size + 1, 1, none⟩) (by first | (simp; done) | (simp; omega)) (.slice bb' mb' db')
  replace hVa : Vl _ _ _ _ _ _ _ := ⟨hXb.sl hVa.s (.slice ab' nb' cb') (.slice bb' mb' db'), hXb.st hVa.t (.slice ab' nb' cb') (.slice bb' mb' db'), hVa.mm⟩
  replace hVb : Vl _ _ _ _ _ _ _ := ⟨hXb.sl hVi.s (.slice ab' nb' cb') (.slice bb' mb' db'), hXb.st hVi.t (.slice ab' nb' cb') (.slice bb' mb' db'), hVi.mm⟩
  replace hXb := hXb.set ab' nb' cb' bb' mb' db'
  replace hb := below_made hb (show W.heap.size ≤ w5.heap.size + 1 by omega) (.slice ab' nb' cb') (.slice bb' mb' db')
  clear hVi hNi
  have cev0 := hXv.c0
  have cev1 := hXv.c1
  have ceu0 := hXu.c0
  have ceu1 := hXu.c1
  have cex0 := hXx.c0
  have cex1 := hXx.c1
  have cea0 := hXa.c0
  have cea1 := hXa.c1
  have ceb0 := hXb.c0
  have ceb1 := hXb.c1
  go_wp2_with fail
  refine (KY.out _ _ _ _ _ _ _ _ _ _ _ _ _ hb hVa hVb).mono ?_
  rintro e w8 ⟨ay, ny, cy, bY, my, dy, rfl, hVy, hCy, hq⟩
  clear cev0 cev1 ceu0 ceu1 cex0 cex1 cea0 cea1 ceb0 ceb1 ea0 ea1 fa0 fa1
  have hbl := (Below.refl w8.heap.size w8).alloc (Nat.le_refl _) (.cells #[.slice ay ny cy, .slice bY my dy] 25)
  have hq2 := hq.trans (hbl.mono hq.size)
  replace hXv := hXv.below hq2 hXv.lt
  replace hVv := hVv.below hq2
  replace hXu := hXu.below hq2 hXu.lt
  replace hVu := hVu.below hq2
  replace hXx := hXx.below hq2 hXx.lt
  replace hVx := hVx.below hq2
  replace hXa := hXa.below hq2 hXa.lt
  replace hVa := hVa.below hq2
  replace hXb := hXb.below hq2 hXb.lt
  replace hVb := hVb.below hq2
  replace hb := hb.trans (hq2.mono hb.size)
  have hXy := Bx.new w8 ay ny cy bY my dy
  replace hVy := hVy.below hbl
  clear hq hbl hq2
  have cev0 := hXv.c0
  have cev1 := hXv.c1
  have ceu0 := hXu.c0
  have ceu1 := hXu.c1
  have cex0 := hXx.c0
  have cex1 := hXx.c1
  have cea0 := hXa.c0
  have cea1 := hXa.c1
  have ceb0 := hXb.c0
  have ceb1 := hXb.c1
  have cey0 := hXy.c0
  have cey1 := hXy.c1
  go_wp2_with fail
  refine (KZ.out _ _ _ _ _ _ _ hb hVx hCx).mono ?_
  rintro e w9 ⟨az, nz, cz, bz, mz, dz, rfl, hVz, hNz, hq⟩
  clear cev0 cev1 ceu0 ceu1 cex0 cex1 cea0 cea1 ceb0 ceb1 cey0 cey1
  have hbl := (Below.refl w9.heap.size w9).alloc (Nat.le_refl _) (.cells #[.slice az nz cz, .slice bz mz dz] 25)
  have hq2 := hq.trans (hbl.mono hq.size)
  replace hXv := hXv.below hq2 hXv.lt
  replace hVv := hVv.below hq2
  replace hXu := hXu.below hq2 hXu.lt
  replace hVu := hVu.below hq2
  replace hXx := hXx.below hq2 hXx.lt
  replace hVx := hVx.below hq2
  replace hXa := hXa.below hq2 hXa.lt
  replace hVa := hVa.below hq2
  replace hXb := hXb.below hq2 hXb.lt
  replace hVb := hVb.below hq2
  replace hXy := hXy.below hq2 hXy.lt
  replace hVy := hVy.below hq2
  replace hb := hb.trans (hq2.mono hb.size)
  have hXz := Bx.new w9 az nz cz bz mz dz
  replace hVz := hVz.below hbl
  clear hq hbl hq2
  have cev0 := hXv.c0
  have cev1 := hXv.c1
  have ceu0 := hXu.c0
  have ceu1 := hXu.c1
  have cex0 := hXx.c0
  have cex1 := hXx.c1
  have cea0 := hXa.c0
  have cea1 := hXa.c1
  have ceb0 := hXb.c0
  have ceb1 := hXb.c1
  have cey0 := hXy.c0
  have cey1 := hXy.c1
  have cez0 := hXz.c0
  have cez1 := hXz.c1
  go_wp2_with fail
  refine (KX.out _ _ _ _ _ _ _ hb hVx).mono ?_
  rintro e w10 ⟨rfl, hq⟩
  clear cev0 cev1 ceu0 ceu1 cex0 cex1 cea0 cea1 ceb0 ceb1 cey0 cey1 cez0 cez1
  replace hXv := hXv.below hq hXv.lt
  replace hVv := hVv.below hq
  replace hXu := hXu.below hq hXu.lt
  replace hVu := hVu.below hq
  replace hXx := hXx.below hq hXx.lt
  replace hVx := hVx.below hq
  replace hXa := hXa.below hq hXa.lt
  replace hVa := hVa.below hq
  replace hXb := hXb.below hq hXb.lt
  replace hVb := hVb.below hq
  replace hXy := hXy.below hq hXy.lt
  replace hVy := hVy.below hq
  replace hXz := hXz.below hq hXz.lt
  replace hVz := hVz.below hq
  replace hb := hb.trans (hq.mono hb.size)
  clear hq
  have cev0 := hXv.c0
  have cev1 := hXv.c1
  have ceu0 := hXu.c0
  have ceu1 := hXu.c1
  have cex0 := hXx.c0
  have cex1 := hXx.c1
  have cea0 := hXa.c0
  have cea1 := hXa.c1
  have ceb0 := hXb.c0
  have ceb1 := hXb.c1
  have cey0 := hXy.c0
  have cey1 := hXy.c1
  have cez0 := hXz.c0
  have cez1 := hXz.c1
  go_wp2_with fail
  refine (VSame_y _ hVy hVz hst3).mono ?_
  rintro e w11 ⟨rfl, hq⟩
  clear cev0 cev1 ceu0 ceu1 cex0 cex1 cea0 cea1 ceb0 ceb1 cey0 cey1 cez0 cez1
  replace hXv := hXv.below hq hXv.lt
  replace hVv := hVv.below hq
  replace hXu := hXu.below hq hXu.lt
  replace hVu := hVu.below hq
  replace hXx := hXx.below hq hXx.lt
  replace hVx := hVx.below hq
  replace hXa := hXa.below hq hXa.lt
  replace hVa := hVa.below hq
  replace hXb := hXb.below hq hXb.lt
  replace hVb := hVb.below hq
  replace hXy := hXy.below hq hXy.lt
  replace hVy := hVy.below hq
  replace hXz := hXz.below hq hXz.lt
  replace hVz := hVz.below hq
  replace hb := hb.trans (hq.mono hb.size)
  clear hq
  go_wp2_with fail
  go_ret
  exact ⟨rfl, hb⟩
set_option maxRecDepth 100000 in
set_option maxHeartbeats 6400000 in
theorem sitems_vs {op : ByteArray} {x : Int} {a1 b1 a2 b2 : Option Addr} {n1 c1 m1 d1 c2 m2 d2 : Nat} {l m : List Int} {es fs : List ByteArray} {xs ys s zs : List Int} (W : World) (hW : SC W) (ho : op.size ≤ maxLen) (hV : Vl W a1 n1 b1 m1 l es) (hz1 : ∀ j, j < m1 → (es.getD j ByteArray.empty).size ≤ maxLen) (hU : Vl W a2 0 b2 m2 m fs) (hz2 : ∀ j, j < m2 → (fs.getD j ByteArray.empty).size ≤ maxLen) (hp1 : Cp n1 c1 m1 d1) (hp2 : Cp 0 c2 m2 d2) (hf1 : fewB l es = true) (hf2 : fewB m fs = true) (A1 : AIs l es (some (l, xs))) (A2 : AIs m fs (some (m, ys))) (hd : dyA (kdL op.data.toList) (some (l, xs)) (some (m, ys)) = (some (s, zs), 0)) (hs : s ≠ []) (i : Nat) (hi : (i : Int) < s.getD 0 0) (hx : x.tmod (itV s) = (i : Int)) (hx0 : 0 ≤ x) (hx1 : x ≤ 255) (hl : l = s) (hn : 0 < n1) (hm : m = []) :
    Calls Tryz.prog 4 #[.string op, .agg #[.slice a1 n1 c1, .slice b1 m1 d1], .agg #[.slice a2 0 c2, .slice b2 m2 d2], .int .u8 x] W (TrueEnd W) := by
  have AD := dyA_is (k := kdL op.data.toList) A1 A2
  rw [hd] at AD
  have q1 := ts_len AD
  simp only [TS] at AD q1
  have h0 : ∀ x ∈ s, 0 ≤ x := fun x hx => by
    obtain ⟨j, hj, rfl⟩ := List.getElem_of_mem hx
    have := (szE_may.1 AD.len.2.2.1).nn j hj
    rwa [List.getD_eq_getElem?_getD, List.getElem?_eq_getElem hj] at this
  have hit := dyA_items hd hs hi h0
  have hmz := AD.may
  have hszz := fun n (hn : n = (zs.map S).length) => ais_sz AD hn
  obtain ⟨q, e, hq, hqe, hiq, hgd, AZ, hZ⟩ := item_ais AD hs hi
  generalize (itA s zs i).2 = zi at *
  have hzi := AZ.2.1
  simp only at hzi
  have hmay1 := A1.may
  obtain ⟨qa, ea, hqa, hqea, hiqa, hgda, B1, hI1⟩ := item_ais A1 (i := i) (by rw [hl]; exact hs) (by rw [hl]; exact hi)
  generalize (itA l xs i).2 = xi at *
  have B2 := A2
  have hI2 : itA m ys i = (m, ys) := by rw [hm]; simp [itA]
  rw [hI1, hI2, hZ] at hit
  rw [hq] at hx
  have hn1 : n1 ≤ 20 := by have := (fewB_yes hf1).1; rw [hV.s.1] at this; exact this
  have hn2' : 0 ≤ 20 := by have := (fewB_yes hf2).1; rw [hU.s.1] at this; exact this
  have hm1 : m1 ≤ 300 := by have := (fewB_yes hf1).2.1; rw [hV.t.1] at this; exact this
  have hm2 : m2 ≤ 300 := by have := (fewB_yes hf2).2.1; rw [hU.t.1] at this; exact this
  have hs3 := (szE_may.1 AD.len.2.2.1).len
  have hz4 : (zs.map S).length ≤ 4096 := by have h1 := AD.len; have h2 := (szE_may.1 h1.2.2.1).pr; simp only at h1; omega
  have KF1 := fun w (hb : Below W.heap.size W w) => Few_is (c := c1) (d := d1) w (hV.below hb) hz1
  rw [hf1] at KF1
  replace KF1 := Lib.hid KF1
  have KF2 := fun w (hb : Below W.heap.size W w) => Few_is (c := c2) (d := d2) w (hU.below hb) hz2
  rw [hf2] at KF2
  replace KF2 := Lib.hid KF2
  have KD := fun w (hb : Below W.heap.size W w) => SDyad_is (op := op) (c1 := c1) (d1 := d1) (c2 := c2) (d2 := d2) w (hW.below hb) ho (hV.below hb) (hU.below hb) hz1 hz2 A1 A2
  rw [hd] at KD
  replace KD := Lib.hid KD
  have KI1 := fun w (hb : Below W.heap.size W w) => Item_yes (c := c1) (d := d1) w (hV.below hb) hp1 hn1 (by omega) hz1 hmay1 qa ea i hqa hiqa (by rw [← hV.t.1]; exact hqea)
  replace KI1 := Lib.hid KI1
  have KY := fun w a n c b k d a' n' c' b' k' d' (hb : Below W.heap.size W w) (h1 : Vl w a n b k l.tail (part es ea i)) (h2 : Vl w a' n' b' k' m fs) => SDyad_is (op := op) (c1 := c) (d1 := d) (c2 := c') (d2 := d') w (hW.below hb) ho h1 h2 (ais_sz B1 h1.t.1.symm) (ais_sz B2 h2.t.1.symm) B1 B2
  rw [hit] at KY
  simp only [TS] at KY
  rw [← hzi] at KY
  replace KY := Lib.hid KY
  have KZ := Lib.hid (fun w a n c b k d (hb : Below W.heap.size W w) (h : Vl w a n b k s (zs.map S)) (hc : Cp n c k d) => Item_yes (c := c) (d := d) w h hc (by have := h.s.1; omega) (by have := h.t.1; omega) (hszz _ h.t.1.symm) hmz q e i hq hiq (by rw [← h.t.1]; exact hqe))
  have KX := fun w a n c b k d (hb : Below W.heap.size W w) (h : Vl w a n b k s (zs.map S)) => VMay_is (c := c) (d := d) w h (hszz _ h.t.1.symm)
  rw [hmz] at KX
  replace KX := Lib.hid KX
  have hst3 : s.tail.length ≤ 20 := by rw [List.length_tail]; omega
  have hnx0 : ∀ n, s.length = n → 0 < n := fun n h => by rcases Nat.eq_zero_or_pos n with h0 | h0; exact absurd (List.length_eq_zero_iff.1 (h.trans h0)) hs; exact h0
  simp only [TS] at KD
  have KS := Lib.hid (fun w (hb : Below W.heap.size W w) => sshown_is w (hW.below hb))
  have hXv := (Bx.new W a1 n1 c1 b1 m1 d1).alloc (.cells #[.slice a2 0 c2, .slice b2 m2 d2] 25)
  have hXu := Bx.two W (.cells #[.slice a1 n1 c1, .slice b1 m1 d1] 25) a2 0 c2 b2 m2 d2
  have hb : Below W.heap.size W ((W.alloc (.cells #[.slice a1 n1 c1, .slice b1 m1 d1] 25)).alloc (.cells #[.slice a2 0 c2, .slice b2 m2 d2] 25)) := ((Below.refl _ _).alloc (Nat.le_refl _) _).alloc (by simp) _
  have hVv := hV.below hb
  have hVu := hU.below hb
  have HN := Lib.hid hnx0
  have HQ := Lib.hid hq
  clear hW hV hz1 hf1 hU hz2 hf2 A1 A2 ho hd AD h0 hit hmz hszz hqe hgd AZ hZ hzi B1 hI1 B2 hI2 hp1 hp2 hl hm hi hnx0 hq hs hm1 hm2 hz4 hmay1 hqa hqea hiqa hgda
  generalize zs.map S = E at *
  go_enter Tryz.func4, Tryz.ntmps4
  have cev0 := hXv.c0
  have cev1 := hXv.c1
  have ceu0 := hXu.c0
  have ceu1 := hXu.c1
  go_wp2_with fail
  refine (KS.out _ hb).mono ?_
  rintro e w1 ⟨rfl, hq⟩
  clear cev0 cev1 ceu0 ceu1
  replace hXv := hXv.below hq hXv.lt
  replace hVv := hVv.below hq
  replace hXu := hXu.below hq hXu.lt
  replace hVu := hVu.below hq
  replace hb := hb.trans (hq.mono hb.size)
  clear hq
  have cev0 := hXv.c0
  have cev1 := hXv.c1
  have ceu0 := hXu.c0
  have ceu1 := hXu.c1
  go_wp2_with fail
  refine (KF1.out _ hb).mono ?_
  rintro e w2 ⟨rfl, hq⟩
  clear cev0 cev1 ceu0 ceu1
  replace hXv := hXv.below hq hXv.lt
  replace hVv := hVv.below hq
  replace hXu := hXu.below hq hXu.lt
  replace hVu := hVu.below hq
  replace hb := hb.trans (hq.mono hb.size)
  clear hq
  have cev0 := hXv.c0
  have cev1 := hXv.c1
  have ceu0 := hXu.c0
  have ceu1 := hXu.c1
  go_wp2_with fail
  refine (KF2.out _ hb).mono ?_
  rintro e w3 ⟨rfl, hq⟩
  clear cev0 cev1 ceu0 ceu1
  replace hXv := hXv.below hq hXv.lt
  replace hVv := hVv.below hq
  replace hXu := hXu.below hq hXu.lt
  replace hVu := hVu.below hq
  replace hb := hb.trans (hq.mono hb.size)
  clear hq
  have cev0 := hXv.c0
  have cev1 := hXv.c1
  have ceu0 := hXu.c0
  have ceu1 := hXu.c1
  go_wp2_with fail
  refine (KD.out _ hb).mono ?_
  rintro e w4 ⟨ax, nx, cx, bx, mx, dx, rfl, hVx, hCx, hq⟩
  clear cev0 cev1 ceu0 ceu1
  have hbl := (Below.refl w4.heap.size w4).alloc (Nat.le_refl _) (.cells #[.slice ax nx cx, .slice bx mx dx] 25)
  have hq2 := hq.trans (hbl.mono hq.size)
  replace hXv := hXv.below hq2 hXv.lt
  replace hVv := hVv.below hq2
  replace hXu := hXu.below hq2 hXu.lt
  replace hVu := hVu.below hq2
  replace hb := hb.trans (hq2.mono hb.size)
  have hXx := Bx.new w4 ax nx cx bx mx dx
  replace hVx := hVx.below hbl
  clear hq hbl hq2
  have hnx : nx ≤ 20 := by have := hVx.s.1; omega
  have hnp := HN.out _ hVx.s.1
  have cev0 := hXv.c0
  have cev1 := hXv.c1
  have ceu0 := hXu.c0
  have ceu1 := hXu.c1
  have cex0 := hXx.c0
  have cex1 := hXx.c1
  go_wp2_with fail
  refine (VMany_is _ hVx hnx hCx.nc hCx.cm).mono ?_
  rintro e w5 ⟨rfl, hq⟩
  clear cev0 cev1 ceu0 ceu1 cex0 cex1
  replace hXv := hXv.below hq hXv.lt
  replace hVv := hVv.below hq
  replace hXu := hXu.below hq hXu.lt
  replace hVu := hVu.below hq
  replace hXx := hXx.below hq hXx.lt
  replace hVx := hVx.below hq
  replace hb := hb.trans (hq.mono hb.size)
  clear hq
  rw [HQ.out]
  have f1 : ¬ (q : Int) = 0 := by omega
  have f1' : ((q : Int) == 0) = false := beq_eq_false_iff_ne.2 f1
  have f2 : ¬ (nx : Int) = 0 := by omega
  have f2' : ((nx : Int) == 0) = false := beq_eq_false_iff_ne.2 f2
  have cev0 := hXv.c0
  have cev1 := hXv.c1
  have ceu0 := hXu.c0
  have ceu1 := hXu.c1
  have cex0 := hXx.c0
  have cex1 := hXx.c1
  have cm0 := (hXu.alloc (.cells #[.slice a1 n1 c1, .slice b1 m1 d1] 25)).c0
  have cm1 := (hXu.alloc (.cells #[.slice a1 n1 c1, .slice b1 m1 d1] 25)).c1
  have lv : W.heap.size < w5.heap.size := hXv.lt
  have lu : W.heap.size + 1 < w5.heap.size := hXu.lt
  have lx : w4.heap.size < w5.heap.size := hXx.lt
  have hbl : Below w5.heap.size w5 ((w5.alloc (.cells #[.slice a1 n1 c1, .slice b1 m1 d1] 25)).alloc (.cells #[.slice a2 0 c2, .slice b2 m2 d2] 25)) := ((Below.refl _ _).alloc (Nat.le_refl _) _).alloc (by simp) _
  have hXa := (Bx.new w5 a1 n1 c1 b1 m1 d1).alloc (.cells #[.slice a2 0 c2, .slice b2 m2 d2] 25)
  have hXb := Bx.two w5 (.cells #[.slice a1 n1 c1, .slice b1 m1 d1] 25) a2 0 c2 b2 m2 d2
  replace hXv := hXv.below hbl hXv.lt
  replace hVv := hVv.below hbl
  replace hXu := hXu.below hbl hXu.lt
  replace hVu := hVu.below hbl
  replace hXx := hXx.below hbl hXx.lt
  replace hVx := hVx.below hbl
  replace hb := hb.trans (hbl.mono hb.size)
  have hVa := hVv
  have hVb := hVu
  clear hbl
  have ddv0 := hXv.c0
  have ddv1 := hXv.c1
  have ddu0 := hXu.c0
  have ddu1 := hXu.c1
  have ddx0 := hXx.c0
  have ddx1 := hXx.c1
  have dda0 := hXa.c0
  have dda1 := hXa.c1
  have ddb0 := hXb.c0
  have ddb1 := hXb.c1
  go_wp2_with fail
  refine (KI1.out _ hb).mono ?_
  rintro e w6 ⟨aa', na', ca', ba', ma', da', rfl, hVi, hNi, hq⟩
  clear cev0 cev1 ceu0 ceu1 cex0 cex1 cm0 cm1 ddv0 ddv1 ddu0 ddu1 ddx0 ddx1 dda0 dda1 ddb0 ddb1
  replace hXv := hXv.below hq hXv.lt
  replace hVv := hVv.below hq
  replace hXu := hXu.below hq hXu.lt
  replace hVu := hVu.below hq
  replace hXx := hXx.below hq hXx.lt
  replace hVx := hVx.below hq
  replace hXa := hXa.below hq hXa.lt
  replace hVa := hVa.below hq
  replace hXb := hXb.below hq hXb.lt
  replace hVb := hVb.below hq
  replace hb := hb.trans (hq.mono hb.size)
  clear hq
  have ea0 := hXa.c0
  have ea1 := hXa.c1
  have fa0 := hXa.f 0
  have fa1 := hXa.f 1
  replace hXv := (hXv.setOther (p := ⟨w5.heap.size, 0, none⟩) (by first | (simp; done) | (simp; omega)) (.slice aa' na' ca')).setOther (p := ⟨w5.heap.size, 1, none⟩) (by first | (simp; done) | (simp; omega)) (.slice ba' ma' da')
  replace hVv : Vl _ _ _ _ _ _ _ := ⟨hXa.sl hVv.s (.slice aa' na' ca') (.slice ba' ma' da'), hXa.st hVv.t (.slice aa' na' ca') (.slice ba' ma' da'), hVv.mm⟩
  replace hXu := (hXu.setOther (p := ⟨w5.heap.size, 0, none⟩) (by first | (simp; done) | (simp; omega)) (.slice aa' na' ca')).setOther (p := ⟨w5.heap.size, 1, none⟩) (by first | (simp; done) | (simp; omega)) (.slice ba' ma' da')
  replace hVu : Vl _ _ _ _ _ _ _ := ⟨hXa.sl hVu.s (.slice aa' na' ca') (.slice ba' ma' da'), hXa.st hVu.t (.slice aa' na' ca') (.slice ba' ma' da'), hVu.mm⟩
  replace hXx := (hXx.setOther (p := ⟨w5.heap.size, 0, none⟩) (by first | (simp; done) | (simp; omega)) (.slice aa' na' ca')).setOther (p := ⟨w5.heap.size, 1, none⟩) (by first | (simp; done) | (simp; omega)) (.slice ba' ma' da')
  replace hVx : Vl _ _ _ _ _ _ _ := ⟨hXa.sl hVx.s (.slice aa' na' ca') (.slice ba' ma' da'), hXa.st hVx.t (.slice aa' na' ca') (.slice ba' ma' da'), hVx.mm⟩
  replace hXb := (hXb.setOther (p := ⟨w5.heap.size, 0, none⟩) (by first | (simp; done) | (simp; omega)) (.slice aa' na' ca')).setOther (p := ⟨w5.heap.size, 1, none⟩) (by first | (simp; done) | (simp; omega)) (.slice ba' ma' da')
  replace hVb : Vl _ _ _ _ _ _ _ := ⟨hXa.sl hVb.s (.slice aa' na' ca') (.slice ba' ma' da'), hXa.st hVb.t (.slice aa' na' ca') (.slice ba' ma' da'), hVb.mm⟩
  replace hVa : Vl _ _ _ _ _ _ _ := ⟨hXa.sl hVi.s (.slice aa' na' ca') (.slice ba' ma' da'), hXa.st hVi.t (.slice aa' na' ca') (.slice ba' ma' da'), hVi.mm⟩
  replace hXa := hXa.set aa' na' ca' ba' ma' da'
  replace hb := below_made hb (show W.heap.size ≤ w5.heap.size by omega) (.slice aa' na' ca') (.slice ba' ma' da')
  clear hVi hNi
  have cev0 := hXv.c0
  have cev1 := hXv.c1
  have ceu0 := hXu.c0
  have ceu1 := hXu.c1
  have cex0 := hXx.c0
  have cex1 := hXx.c1
  have cea0 := hXa.c0
  have cea1 := hXa.c1
  have ceb0 := hXb.c0
  have ceb1 := hXb.c1
  go_wp2_with fail
  refine (KY.out _ _ _ _ _ _ _ _ _ _ _ _ _ hb hVa hVb).mono ?_
  rintro e w7 ⟨ay, ny, cy, bY, my, dy, rfl, hVy, hCy, hq⟩
  clear cev0 cev1 ceu0 ceu1 cex0 cex1 cea0 cea1 ceb0 ceb1 ea0 ea1 fa0 fa1
  have hbl := (Below.refl w7.heap.size w7).alloc (Nat.le_refl _) (.cells #[.slice ay ny cy, .slice bY my dy] 25)
  have hq2 := hq.trans (hbl.mono hq.size)
  replace hXv := hXv.below hq2 hXv.lt
  replace hVv := hVv.below hq2
  replace hXu := hXu.below hq2 hXu.lt
  replace hVu := hVu.below hq2
  replace hXx := hXx.below hq2 hXx.lt
  replace hVx := hVx.below hq2
  replace hXa := hXa.below hq2 hXa.lt
  replace hVa := hVa.below hq2
  replace hXb := hXb.below hq2 hXb.lt
  replace hVb := hVb.below hq2
  replace hb := hb.trans (hq2.mono hb.size)
  have hXy := Bx.new w7 ay ny cy bY my dy
  replace hVy := hVy.below hbl
  clear hq hbl hq2
  have cev0 := hXv.c0
  have cev1 := hXv.c1
  have ceu0 := hXu.c0
  have ceu1 := hXu.c1
  have cex0 := hXx.c0
  have cex1 := hXx.c1
  have cea0 := hXa.c0
  have cea1 := hXa.c1
  have ceb0 := hXb.c0
  have ceb1 := hXb.c1
  have cey0 := hXy.c0
  have cey1 := hXy.c1
  go_wp2_with fail
  refine (KZ.out _ _ _ _ _ _ _ hb hVx hCx).mono ?_
  rintro e w8 ⟨az, nz, cz, bz, mz, dz, rfl, hVz, hNz, hq⟩
  clear cev0 cev1 ceu0 ceu1 cex0 cex1 cea0 cea1 ceb0 ceb1 cey0 cey1
  have hbl := (Below.refl w8.heap.size w8).alloc (Nat.le_refl _) (.cells #[.slice az nz cz, .slice bz mz dz] 25)
  have hq2 := hq.trans (hbl.mono hq.size)
  replace hXv := hXv.below hq2 hXv.lt
  replace hVv := hVv.below hq2
  replace hXu := hXu.below hq2 hXu.lt
  replace hVu := hVu.below hq2
  replace hXx := hXx.below hq2 hXx.lt
  replace hVx := hVx.below hq2
  replace hXa := hXa.below hq2 hXa.lt
  replace hVa := hVa.below hq2
  replace hXb := hXb.below hq2 hXb.lt
  replace hVb := hVb.below hq2
  replace hXy := hXy.below hq2 hXy.lt
  replace hVy := hVy.below hq2
  replace hb := hb.trans (hq2.mono hb.size)
  have hXz := Bx.new w8 az nz cz bz mz dz
  replace hVz := hVz.below hbl
  clear hq hbl hq2
  have cev0 := hXv.c0
  have cev1 := hXv.c1
  have ceu0 := hXu.c0
  have ceu1 := hXu.c1
  have cex0 := hXx.c0
  have cex1 := hXx.c1
  have cea0 := hXa.c0
  have cea1 := hXa.c1
  have ceb0 := hXb.c0
  have ceb1 := hXb.c1
  have cey0 := hXy.c0
  have cey1 := hXy.c1
  have cez0 := hXz.c0
  have cez1 := hXz.c1
  go_wp2_with fail
  refine (KX.out _ _ _ _ _ _ _ hb hVx).mono ?_
  rintro e w9 ⟨rfl, hq⟩
  clear cev0 cev1 ceu0 ceu1 cex0 cex1 cea0 cea1 ceb0 ceb1 cey0 cey1 cez0 cez1
  replace hXv := hXv.below hq hXv.lt
  replace hVv := hVv.below hq
  replace hXu := hXu.below hq hXu.lt
  replace hVu := hVu.below hq
  replace hXx := hXx.below hq hXx.lt
  replace hVx := hVx.below hq
  replace hXa := hXa.below hq hXa.lt
  replace hVa := hVa.below hq
  replace hXb := hXb.below hq hXb.lt
  replace hVb := hVb.below hq
  replace hXy := hXy.below hq hXy.lt
  replace hVy := hVy.below hq
  replace hXz := hXz.below hq hXz.lt
  replace hVz := hVz.below hq
  replace hb := hb.trans (hq.mono hb.size)
  clear hq
  have cev0 := hXv.c0
  have cev1 := hXv.c1
  have ceu0 := hXu.c0
  have ceu1 := hXu.c1
  have cex0 := hXx.c0
  have cex1 := hXx.c1
  have cea0 := hXa.c0
  have cea1 := hXa.c1
  have ceb0 := hXb.c0
  have ceb1 := hXb.c1
  have cey0 := hXy.c0
  have cey1 := hXy.c1
  have cez0 := hXz.c0
  have cez1 := hXz.c1
  go_wp2_with fail
  refine (VSame_y _ hVy hVz hst3).mono ?_
  rintro e w10 ⟨rfl, hq⟩
  clear cev0 cev1 ceu0 ceu1 cex0 cex1 cea0 cea1 ceb0 ceb1 cey0 cey1 cez0 cez1
  replace hXv := hXv.below hq hXv.lt
  replace hVv := hVv.below hq
  replace hXu := hXu.below hq hXu.lt
  replace hVu := hVu.below hq
  replace hXx := hXx.below hq hXx.lt
  replace hVx := hVx.below hq
  replace hXa := hXa.below hq hXa.lt
  replace hVa := hVa.below hq
  replace hXb := hXb.below hq hXb.lt
  replace hVb := hVb.below hq
  replace hXy := hXy.below hq hXy.lt
  replace hVy := hVy.below hq
  replace hXz := hXz.below hq hXz.lt
  replace hVz := hVz.below hq
  replace hb := hb.trans (hq.mono hb.size)
  clear hq
  go_wp2_with fail
  go_ret
  exact ⟨rfl, hb⟩
set_option maxRecDepth 100000 in
set_option maxHeartbeats 6400000 in
theorem sitems_sv {op : ByteArray} {x : Int} {a1 b1 a2 b2 : Option Addr} {c1 m1 d1 n2 c2 m2 d2 : Nat} {l m : List Int} {es fs : List ByteArray} {xs ys s zs : List Int} (W : World) (hW : SC W) (ho : op.size ≤ maxLen) (hV : Vl W a1 0 b1 m1 l es) (hz1 : ∀ j, j < m1 → (es.getD j ByteArray.empty).size ≤ maxLen) (hU : Vl W a2 n2 b2 m2 m fs) (hz2 : ∀ j, j < m2 → (fs.getD j ByteArray.empty).size ≤ maxLen) (hp1 : Cp 0 c1 m1 d1) (hp2 : Cp n2 c2 m2 d2) (hf1 : fewB l es = true) (hf2 : fewB m fs = true) (A1 : AIs l es (some (l, xs))) (A2 : AIs m fs (some (m, ys))) (hd : dyA (kdL op.data.toList) (some (l, xs)) (some (m, ys)) = (some (s, zs), 0)) (hs : s ≠ []) (i : Nat) (hi : (i : Int) < s.getD 0 0) (hx : x.tmod (itV s) = (i : Int)) (hx0 : 0 ≤ x) (hx1 : x ≤ 255) (hl : l = []) (hm : m = s) (hn2 : 0 < n2) :
    Calls Tryz.prog 4 #[.string op, .agg #[.slice a1 0 c1, .slice b1 m1 d1], .agg #[.slice a2 n2 c2, .slice b2 m2 d2], .int .u8 x] W (TrueEnd W) := by
  have AD := dyA_is (k := kdL op.data.toList) A1 A2
  rw [hd] at AD
  have q1 := ts_len AD
  simp only [TS] at AD q1
  have h0 : ∀ x ∈ s, 0 ≤ x := fun x hx => by
    obtain ⟨j, hj, rfl⟩ := List.getElem_of_mem hx
    have := (szE_may.1 AD.len.2.2.1).nn j hj
    rwa [List.getD_eq_getElem?_getD, List.getElem?_eq_getElem hj] at this
  have hit := dyA_items hd hs hi h0
  have hmz := AD.may
  have hszz := fun n (hn : n = (zs.map S).length) => ais_sz AD hn
  obtain ⟨q, e, hq, hqe, hiq, hgd, AZ, hZ⟩ := item_ais AD hs hi
  generalize (itA s zs i).2 = zi at *
  have hzi := AZ.2.1
  simp only at hzi
  have B1 := A1
  have hI1 : itA l xs i = (l, xs) := by rw [hl]; simp [itA]
  have hmay2 := A2.may
  obtain ⟨qb, eb, hqb, hqeb, hiqb, hgdb, B2, hI2⟩ := item_ais A2 (i := i) (by rw [hm]; exact hs) (by rw [hm]; exact hi)
  generalize (itA m ys i).2 = yi at *
  rw [hI1, hI2, hZ] at hit
  rw [hq] at hx
  have hn1 : 0 ≤ 20 := by have := (fewB_yes hf1).1; rw [hV.s.1] at this; exact this
  have hn2' : n2 ≤ 20 := by have := (fewB_yes hf2).1; rw [hU.s.1] at this; exact this
  have hm1 : m1 ≤ 300 := by have := (fewB_yes hf1).2.1; rw [hV.t.1] at this; exact this
  have hm2 : m2 ≤ 300 := by have := (fewB_yes hf2).2.1; rw [hU.t.1] at this; exact this
  have hs3 := (szE_may.1 AD.len.2.2.1).len
  have hz4 : (zs.map S).length ≤ 4096 := by have h1 := AD.len; have h2 := (szE_may.1 h1.2.2.1).pr; simp only at h1; omega
  have KF1 := fun w (hb : Below W.heap.size W w) => Few_is (c := c1) (d := d1) w (hV.below hb) hz1
  rw [hf1] at KF1
  replace KF1 := Lib.hid KF1
  have KF2 := fun w (hb : Below W.heap.size W w) => Few_is (c := c2) (d := d2) w (hU.below hb) hz2
  rw [hf2] at KF2
  replace KF2 := Lib.hid KF2
  have KD := fun w (hb : Below W.heap.size W w) => SDyad_is (op := op) (c1 := c1) (d1 := d1) (c2 := c2) (d2 := d2) w (hW.below hb) ho (hV.below hb) (hU.below hb) hz1 hz2 A1 A2
  rw [hd] at KD
  replace KD := Lib.hid KD
  have KI2 := fun w (hb : Below W.heap.size W w) => Item_yes (c := c2) (d := d2) w (hU.below hb) hp2 hn2' (by omega) hz2 hmay2 qb eb i hqb hiqb (by rw [← hU.t.1]; exact hqeb)
  replace KI2 := Lib.hid KI2
  have KY := fun w a n c b k d a' n' c' b' k' d' (hb : Below W.heap.size W w) (h1 : Vl w a n b k l es) (h2 : Vl w a' n' b' k' m.tail (part fs eb i)) => SDyad_is (op := op) (c1 := c) (d1 := d) (c2 := c') (d2 := d') w (hW.below hb) ho h1 h2 (ais_sz B1 h1.t.1.symm) (ais_sz B2 h2.t.1.symm) B1 B2
  rw [hit] at KY
  simp only [TS] at KY
  rw [← hzi] at KY
  replace KY := Lib.hid KY
  have KZ := Lib.hid (fun w a n c b k d (hb : Below W.heap.size W w) (h : Vl w a n b k s (zs.map S)) (hc : Cp n c k d) => Item_yes (c := c) (d := d) w h hc (by have := h.s.1; omega) (by have := h.t.1; omega) (hszz _ h.t.1.symm) hmz q e i hq hiq (by rw [← h.t.1]; exact hqe))
  have KX := fun w a n c b k d (hb : Below W.heap.size W w) (h : Vl w a n b k s (zs.map S)) => VMay_is (c := c) (d := d) w h (hszz _ h.t.1.symm)
  rw [hmz] at KX
  replace KX := Lib.hid KX
  have hst3 : s.tail.length ≤ 20 := by rw [List.length_tail]; omega
  have hnx0 : ∀ n, s.length = n → 0 < n := fun n h => by rcases Nat.eq_zero_or_pos n with h0 | h0; exact absurd (List.length_eq_zero_iff.1 (h.trans h0)) hs; exact h0
  simp only [TS] at KD
  have KS := Lib.hid (fun w (hb : Below W.heap.size W w) => sshown_is w (hW.below hb))
  have hXv := (Bx.new W a1 0 c1 b1 m1 d1).alloc (.cells #[.slice a2 n2 c2, .slice b2 m2 d2] 25)
  have hXu := Bx.two W (.cells #[.slice a1 0 c1, .slice b1 m1 d1] 25) a2 n2 c2 b2 m2 d2
  have hb : Below W.heap.size W ((W.alloc (.cells #[.slice a1 0 c1, .slice b1 m1 d1] 25)).alloc (.cells #[.slice a2 n2 c2, .slice b2 m2 d2] 25)) := ((Below.refl _ _).alloc (Nat.le_refl _) _).alloc (by simp) _
  have hVv := hV.below hb
  have hVu := hU.below hb
  have HN := Lib.hid hnx0
  have HQ := Lib.hid hq
  clear hW hV hz1 hf1 hU hz2 hf2 A1 A2 ho hd AD h0 hit hmz hszz hqe hgd AZ hZ hzi B1 hI1 B2 hI2 hp1 hp2 hl hm hi hnx0 hq hs hm1 hm2 hz4 hmay2 hqb hqeb hiqb hgdb
  generalize zs.map S = E at *
  go_enter Tryz.func4, Tryz.ntmps4
  have cev0 := hXv.c0
  have cev1 := hXv.c1
  have ceu0 := hXu.c0
  have ceu1 := hXu.c1
  go_wp2_with fail
  refine (KS.out _ hb).mono ?_
  rintro e w1 ⟨rfl, hq⟩
  clear cev0 cev1 ceu0 ceu1
  replace hXv := hXv.below hq hXv.lt
  replace hVv := hVv.below hq
  replace hXu := hXu.below hq hXu.lt
  replace hVu := hVu.below hq
  replace hb := hb.trans (hq.mono hb.size)
  clear hq
  have cev0 := hXv.c0
  have cev1 := hXv.c1
  have ceu0 := hXu.c0
  have ceu1 := hXu.c1
  go_wp2_with fail
  refine (KF1.out _ hb).mono ?_
  rintro e w2 ⟨rfl, hq⟩
  clear cev0 cev1 ceu0 ceu1
  replace hXv := hXv.below hq hXv.lt
  replace hVv := hVv.below hq
  replace hXu := hXu.below hq hXu.lt
  replace hVu := hVu.below hq
  replace hb := hb.trans (hq.mono hb.size)
  clear hq
  have cev0 := hXv.c0
  have cev1 := hXv.c1
  have ceu0 := hXu.c0
  have ceu1 := hXu.c1
  go_wp2_with fail
  refine (KF2.out _ hb).mono ?_
  rintro e w3 ⟨rfl, hq⟩
  clear cev0 cev1 ceu0 ceu1
  replace hXv := hXv.below hq hXv.lt
  replace hVv := hVv.below hq
  replace hXu := hXu.below hq hXu.lt
  replace hVu := hVu.below hq
  replace hb := hb.trans (hq.mono hb.size)
  clear hq
  have cev0 := hXv.c0
  have cev1 := hXv.c1
  have ceu0 := hXu.c0
  have ceu1 := hXu.c1
  go_wp2_with fail
  refine (KD.out _ hb).mono ?_
  rintro e w4 ⟨ax, nx, cx, bx, mx, dx, rfl, hVx, hCx, hq⟩
  clear cev0 cev1 ceu0 ceu1
  have hbl := (Below.refl w4.heap.size w4).alloc (Nat.le_refl _) (.cells #[.slice ax nx cx, .slice bx mx dx] 25)
  have hq2 := hq.trans (hbl.mono hq.size)
  replace hXv := hXv.below hq2 hXv.lt
  replace hVv := hVv.below hq2
  replace hXu := hXu.below hq2 hXu.lt
  replace hVu := hVu.below hq2
  replace hb := hb.trans (hq2.mono hb.size)
  have hXx := Bx.new w4 ax nx cx bx mx dx
  replace hVx := hVx.below hbl
  clear hq hbl hq2
  have hnx : nx ≤ 20 := by have := hVx.s.1; omega
  have hnp := HN.out _ hVx.s.1
  have cev0 := hXv.c0
  have cev1 := hXv.c1
  have ceu0 := hXu.c0
  have ceu1 := hXu.c1
  have cex0 := hXx.c0
  have cex1 := hXx.c1
  go_wp2_with fail
  refine (VMany_is _ hVx hnx hCx.nc hCx.cm).mono ?_
  rintro e w5 ⟨rfl, hq⟩
  clear cev0 cev1 ceu0 ceu1 cex0 cex1
  replace hXv := hXv.below hq hXv.lt
  replace hVv := hVv.below hq
  replace hXu := hXu.below hq hXu.lt
  replace hVu := hVu.below hq
  replace hXx := hXx.below hq hXx.lt
  replace hVx := hVx.below hq
  replace hb := hb.trans (hq.mono hb.size)
  clear hq
  rw [HQ.out]
  have f1 : ¬ (q : Int) = 0 := by omega
  have f1' : ((q : Int) == 0) = false := beq_eq_false_iff_ne.2 f1
  have f2 : ¬ (nx : Int) = 0 := by omega
  have f2' : ((nx : Int) == 0) = false := beq_eq_false_iff_ne.2 f2
  have cev0 := hXv.c0
  have cev1 := hXv.c1
  have ceu0 := hXu.c0
  have ceu1 := hXu.c1
  have cex0 := hXx.c0
  have cex1 := hXx.c1
  have cm0 := (hXu.alloc (.cells #[.slice a1 0 c1, .slice b1 m1 d1] 25)).c0
  have cm1 := (hXu.alloc (.cells #[.slice a1 0 c1, .slice b1 m1 d1] 25)).c1
  have lv : W.heap.size < w5.heap.size := hXv.lt
  have lu : W.heap.size + 1 < w5.heap.size := hXu.lt
  have lx : w4.heap.size < w5.heap.size := hXx.lt
  have hbl : Below w5.heap.size w5 ((w5.alloc (.cells #[.slice a1 0 c1, .slice b1 m1 d1] 25)).alloc (.cells #[.slice a2 n2 c2, .slice b2 m2 d2] 25)) := ((Below.refl _ _).alloc (Nat.le_refl _) _).alloc (by simp) _
  have hXa := (Bx.new w5 a1 0 c1 b1 m1 d1).alloc (.cells #[.slice a2 n2 c2, .slice b2 m2 d2] 25)
  have hXb := Bx.two w5 (.cells #[.slice a1 0 c1, .slice b1 m1 d1] 25) a2 n2 c2 b2 m2 d2
  replace hXv := hXv.below hbl hXv.lt
  replace hVv := hVv.below hbl
  replace hXu := hXu.below hbl hXu.lt
  replace hVu := hVu.below hbl
  replace hXx := hXx.below hbl hXx.lt
  replace hVx := hVx.below hbl
  replace hb := hb.trans (hbl.mono hb.size)
  have hVa := hVv
  have hVb := hVu
  clear hbl
  have ddv0 := hXv.c0
  have ddv1 := hXv.c1
  have ddu0 := hXu.c0
  have ddu1 := hXu.c1
  have ddx0 := hXx.c0
  have ddx1 := hXx.c1
  have dda0 := hXa.c0
  have dda1 := hXa.c1
  have ddb0 := hXb.c0
  have ddb1 := hXb.c1
  go_wp2_with fail
  refine (KI2.out _ hb).mono ?_
  rintro e w6 ⟨ab', nb', cb', bb', mb', db', rfl, hVi, hNi, hq⟩
  clear cev0 cev1 ceu0 ceu1 cex0 cex1 cm0 cm1 ddv0 ddv1 ddu0 ddu1 ddx0 ddx1 dda0 dda1 ddb0 ddb1
  replace hXv := hXv.below hq hXv.lt
  replace hVv := hVv.below hq
  replace hXu := hXu.below hq hXu.lt
  replace hVu := hVu.below hq
  replace hXx := hXx.below hq hXx.lt
  replace hVx := hVx.below hq
  replace hXa := hXa.below hq hXa.lt
  replace hVa := hVa.below hq
  replace hXb := hXb.below hq hXb.lt
  replace hVb := hVb.below hq
  replace hb := hb.trans (hq.mono hb.size)
  clear hq
  have ea0 := hXb.c0
  have ea1 := hXb.c1
  have fa0 := hXb.f 0
  have fa1 := hXb.f 1
  replace hXv := (hXv.setOther (p := ⟨w5.heap.size + 1, 0, none⟩) (by first | (simp; done) | (simp; omega)) (.slice ab' nb' cb')).setOther (p := ⟨w5.heap.size + 1, 1, none⟩) (by first | (simp; done) | (simp; omega)) (.slice bb' mb' db')
  replace hVv : Vl _ _ _ _ _ _ _ := ⟨hXb.sl hVv.s (.slice ab' nb' cb') (.slice bb' mb' db'), hXb.st hVv.t (.slice ab' nb' cb') (.slice bb' mb' db'), hVv.mm⟩
  replace hXu := (hXu.setOther (p := ⟨w5.heap.size + 1, 0, none⟩) (by first | (simp; done) | (simp; omega)) (.slice ab' nb' cb')).setOther (p := ⟨w5.heap.size + 1, 1, none⟩) (by first | (simp; done) | (simp; omega)) (.slice bb' mb' db')
  replace hVu : Vl _ _ _ _ _ _ _ := ⟨hXb.sl hVu.s (.slice ab' nb' cb') (.slice bb' mb' db'), hXb.st hVu.t (.slice ab' nb' cb') (.slice bb' mb' db'), hVu.mm⟩
  replace hXx := (hXx.setOther (p := ⟨w5.heap.size + 1, 0, none⟩) (by first | (simp; done) | (simp; omega)) (.slice ab' nb' cb')).setOther (p := ⟨w5.heap.size + 1, 1, none⟩) (by first | (simp; done) | (simp; omega)) (.slice bb' mb' db')
  replace hVx : Vl _ _ _ _ _ _ _ := ⟨hXb.sl hVx.s (.slice ab' nb' cb') (.slice bb' mb' db'), hXb.st hVx.t (.slice ab' nb' cb') (.slice bb' mb' db'), hVx.mm⟩
  replace hXa := (hXa.setOther (p := ⟨w5.heap.size + 1, 0, none⟩) (by first | (simp; done) | (simp; omega)) (.slice ab' nb' cb')).setOther (p := ⟨w5.heap.size + 1, 1, none⟩) (by first | (simp; done) | (simp; omega)) (.slice bb' mb' db')
  replace hVa : Vl _ _ _ _ _ _ _ := ⟨hXb.sl hVa.s (.slice ab' nb' cb') (.slice bb' mb' db'), hXb.st hVa.t (.slice ab' nb' cb') (.slice bb' mb' db'), hVa.mm⟩
  replace hVb : Vl _ _ _ _ _ _ _ := ⟨hXb.sl hVi.s (.slice ab' nb' cb') (.slice bb' mb' db'), hXb.st hVi.t (.slice ab' nb' cb') (.slice bb' mb' db'), hVi.mm⟩
  replace hXb := hXb.set ab' nb' cb' bb' mb' db'
  replace hb := below_made hb (show W.heap.size ≤ w5.heap.size + 1 by omega) (.slice ab' nb' cb') (.slice bb' mb' db')
  clear hVi hNi
  have cev0 := hXv.c0
  have cev1 := hXv.c1
  have ceu0 := hXu.c0
  have ceu1 := hXu.c1
  have cex0 := hXx.c0
  have cex1 := hXx.c1
  have cea0 := hXa.c0
  have cea1 := hXa.c1
  have ceb0 := hXb.c0
  have ceb1 := hXb.c1
  go_wp2_with fail
  refine (KY.out _ _ _ _ _ _ _ _ _ _ _ _ _ hb hVa hVb).mono ?_
  rintro e w7 ⟨ay, ny, cy, bY, my, dy, rfl, hVy, hCy, hq⟩
  clear cev0 cev1 ceu0 ceu1 cex0 cex1 cea0 cea1 ceb0 ceb1 ea0 ea1 fa0 fa1
  have hbl := (Below.refl w7.heap.size w7).alloc (Nat.le_refl _) (.cells #[.slice ay ny cy, .slice bY my dy] 25)
  have hq2 := hq.trans (hbl.mono hq.size)
  replace hXv := hXv.below hq2 hXv.lt
  replace hVv := hVv.below hq2
  replace hXu := hXu.below hq2 hXu.lt
  replace hVu := hVu.below hq2
  replace hXx := hXx.below hq2 hXx.lt
  replace hVx := hVx.below hq2
  replace hXa := hXa.below hq2 hXa.lt
  replace hVa := hVa.below hq2
  replace hXb := hXb.below hq2 hXb.lt
  replace hVb := hVb.below hq2
  replace hb := hb.trans (hq2.mono hb.size)
  have hXy := Bx.new w7 ay ny cy bY my dy
  replace hVy := hVy.below hbl
  clear hq hbl hq2
  have cev0 := hXv.c0
  have cev1 := hXv.c1
  have ceu0 := hXu.c0
  have ceu1 := hXu.c1
  have cex0 := hXx.c0
  have cex1 := hXx.c1
  have cea0 := hXa.c0
  have cea1 := hXa.c1
  have ceb0 := hXb.c0
  have ceb1 := hXb.c1
  have cey0 := hXy.c0
  have cey1 := hXy.c1
  go_wp2_with fail
  refine (KZ.out _ _ _ _ _ _ _ hb hVx hCx).mono ?_
  rintro e w8 ⟨az, nz, cz, bz, mz, dz, rfl, hVz, hNz, hq⟩
  clear cev0 cev1 ceu0 ceu1 cex0 cex1 cea0 cea1 ceb0 ceb1 cey0 cey1
  have hbl := (Below.refl w8.heap.size w8).alloc (Nat.le_refl _) (.cells #[.slice az nz cz, .slice bz mz dz] 25)
  have hq2 := hq.trans (hbl.mono hq.size)
  replace hXv := hXv.below hq2 hXv.lt
  replace hVv := hVv.below hq2
  replace hXu := hXu.below hq2 hXu.lt
  replace hVu := hVu.below hq2
  replace hXx := hXx.below hq2 hXx.lt
  replace hVx := hVx.below hq2
  replace hXa := hXa.below hq2 hXa.lt
  replace hVa := hVa.below hq2
  replace hXb := hXb.below hq2 hXb.lt
  replace hVb := hVb.below hq2
  replace hXy := hXy.below hq2 hXy.lt
  replace hVy := hVy.below hq2
  replace hb := hb.trans (hq2.mono hb.size)
  have hXz := Bx.new w8 az nz cz bz mz dz
  replace hVz := hVz.below hbl
  clear hq hbl hq2
  have cev0 := hXv.c0
  have cev1 := hXv.c1
  have ceu0 := hXu.c0
  have ceu1 := hXu.c1
  have cex0 := hXx.c0
  have cex1 := hXx.c1
  have cea0 := hXa.c0
  have cea1 := hXa.c1
  have ceb0 := hXb.c0
  have ceb1 := hXb.c1
  have cey0 := hXy.c0
  have cey1 := hXy.c1
  have cez0 := hXz.c0
  have cez1 := hXz.c1
  go_wp2_with fail
  refine (KX.out _ _ _ _ _ _ _ hb hVx).mono ?_
  rintro e w9 ⟨rfl, hq⟩
  clear cev0 cev1 ceu0 ceu1 cex0 cex1 cea0 cea1 ceb0 ceb1 cey0 cey1 cez0 cez1
  replace hXv := hXv.below hq hXv.lt
  replace hVv := hVv.below hq
  replace hXu := hXu.below hq hXu.lt
  replace hVu := hVu.below hq
  replace hXx := hXx.below hq hXx.lt
  replace hVx := hVx.below hq
  replace hXa := hXa.below hq hXa.lt
  replace hVa := hVa.below hq
  replace hXb := hXb.below hq hXb.lt
  replace hVb := hVb.below hq
  replace hXy := hXy.below hq hXy.lt
  replace hVy := hVy.below hq
  replace hXz := hXz.below hq hXz.lt
  replace hVz := hVz.below hq
  replace hb := hb.trans (hq.mono hb.size)
  clear hq
  have cev0 := hXv.c0
  have cev1 := hXv.c1
  have ceu0 := hXu.c0
  have ceu1 := hXu.c1
  have cex0 := hXx.c0
  have cex1 := hXx.c1
  have cea0 := hXa.c0
  have cea1 := hXa.c1
  have ceb0 := hXb.c0
  have ceb1 := hXb.c1
  have cey0 := hXy.c0
  have cey1 := hXy.c1
  have cez0 := hXz.c0
  have cez1 := hXz.c1
  go_wp2_with fail
  refine (VSame_y _ hVy hVz hst3).mono ?_
  rintro e w10 ⟨rfl, hq⟩
  clear cev0 cev1 ceu0 ceu1 cex0 cex1 cea0 cea1 ceb0 ceb1 cey0 cey1 cez0 cez1
  replace hXv := hXv.below hq hXv.lt
  replace hVv := hVv.below hq
  replace hXu := hXu.below hq hXu.lt
  replace hVu := hVu.below hq
  replace hXx := hXx.below hq hXx.lt
  replace hVx := hVx.below hq
  replace hXa := hXa.below hq hXa.lt
  replace hVa := hVa.below hq
  replace hXb := hXb.below hq hXb.lt
  replace hVb := hVb.below hq
  replace hXy := hXy.below hq hXy.lt
  replace hVy := hVy.below hq
  replace hXz := hXz.below hq hXz.lt
  replace hVz := hVz.below hq
  replace hb := hb.trans (hq.mono hb.size)
  clear hq
  go_wp2_with fail
  go_ret
  exact ⟨rfl, hb⟩
theorem sitems_any {op : ByteArray} {x : Int} {a1 b1 a2 b2 : Option Addr} {n1 c1 m1 d1 n2 c2 m2 d2 : Nat} {l m : List Int} {es fs : List ByteArray} (W : World) (hW : SC W) (ho : op.size ≤ maxLen) (hV : Vl W a1 n1 b1 m1 l es) (hz1 : ∀ j, j < m1 → (es.getD j ByteArray.empty).size ≤ maxLen) (hU : Vl W a2 n2 b2 m2 m fs) (hz2 : ∀ j, j < m2 → (fs.getD j ByteArray.empty).size ≤ maxLen) (hp1 : Cp n1 c1 m1 d1) (hp2 : Cp n2 c2 m2 d2) (hx0 : 0 ≤ x) (hx1 : x ≤ 255) :
    Calls Tryz.prog 4 #[.string op, .agg #[.slice a1 n1 c1, .slice b1 m1 d1], .agg #[.slice a2 n2 c2, .slice b2 m2 d2], .int .u8 x] W (TrueEnd W) := by
  rcases Bool.eq_false_or_eq_true (fewB l es) with h1 | h1
  · rcases Bool.eq_false_or_eq_true (fewB m fs) with h2 | h2
    · obtain ⟨o, A1⟩ := ais_ex l es
      obtain ⟨p, A2⟩ := ais_ex m fs
      have AD := dyA_is (k := kdL op.data.toList) A1 A2
      rcases dyA_end (kdL op.data.toList) o p with ⟨g1, g2⟩ | ⟨g1, g2⟩
      · obtain ⟨res, hres⟩ := Option.isSome_iff_exists.1 g2
        obtain ⟨s, zs⟩ := res
        have hd : dyA (kdL op.data.toList) o p = (some (s, zs), 0) := by rw [← hres, ← g1]
        rw [hd] at AD
        simp only [TS] at AD
        have hmay := szE_may.1 AD.len.2.2.1
        by_cases hs : s = []
        · subst hs
          exact sitems_rank W hW ho hV hz1 hU hz2 h1 h2 A1 A2 hd
        have hit : itV s = s.getD 0 0 := if_neg (fun h => hs (List.length_eq_zero_iff.1 h))
        have hpos : 0 < s.length := by
          rcases Nat.eq_zero_or_pos s.length with h | h
          · exact absurd (List.length_eq_zero_iff.1 h) hs
          · exact h
        have hg0 := hmay.nn 0 hpos
        by_cases hz : s.getD 0 0 = 0
        · exact sitems_zero W hW ho hV hz1 hU hz2 h1 h2 A1 A2 hd (by rw [hit, hz])
        have hk : x.tmod (itV s) = (((x % s.getD 0 0).toNat : Nat) : Int) := by
          rw [hit, Int.tmod_eq_emod_of_nonneg hx0]
          have := Int.emod_nonneg x hz
          omega
        have hlt : (((x % s.getD 0 0).toNat : Nat) : Int) < s.getD 0 0 := by
          have := Int.emod_nonneg x hz
          have := Int.emod_lt_of_pos x (show 0 < s.getD 0 0 by omega)
          omega
        have hkk : kdL op.data.toList < 11 := by
          by_cases hkk : kdL op.data.toList < 11
          · exact hkk
          · rw [dyA_none hkk] at hd; cases hd
        cases o with
        | none => cases hd
        | some a =>
        cases p with
        | none => cases hd
        | some b =>
        obtain ⟨l', xs⟩ := a
        obtain ⟨m', ys⟩ := b
        obtain ⟨k1, _⟩ := A1.len
        obtain ⟨k2, _⟩ := A2.len
        simp only at k1 k2
        subst k1 k2
        have hm : meE l' m' = 0 := by
          rcases meE_cases l' m' with hm | hm
          · exact hm
          · rw [dyA_shape hkk (by rw [hm]; decide)] at hd; cases hd
        have hsv : meV l' m' = s := by
          rw [dyA_two hkk hm] at hd
          generalize spL (kdL op.data.toList) (prs (nx l') (nx m') xs ys (prD (meV l' m')).toNat) = r at hd
          obtain ⟨u, ee⟩ := r
          cases u with
          | none => cases hd
          | some z => simp only [Prod.mk.injEq, Option.some.injEq, and_true] at hd; exact hd.1
        obtain ⟨w1, w2, _, _⟩ := meV_tail hm (by rw [hsv]; exact hs)
        rw [hsv] at w1 w2
        have hl := hV.s.1
        have hmm := hU.s.1
        rcases w1 with rfl | w1
        · obtain rfl : 0 = n1 := hl
          rcases w2 with rfl | w2
          · exact absurd (hsv.symm.trans (by decide)) hs
          · exact sitems_sv W hW ho hV hz1 hU hz2 hp1 hp2 h1 h2 A1 A2 hd hs _ hlt hk hx0 hx1 rfl w2 (by rw [w2] at hmm; omega)
        · rcases w2 with rfl | w2
          · obtain rfl : 0 = n2 := hmm
            exact sitems_vs W hW ho hV hz1 hU hz2 hp1 hp2 h1 h2 A1 A2 hd hs _ hlt hk hx0 hx1 w1 (by rw [w1] at hl; omega) rfl
          · exact sitems_vv W hW ho hV hz1 hU hz2 hp1 hp2 h1 h2 A1 A2 hd hs _ hlt hk hx0 hx1 w1 (by rw [w1] at hl; omega) w2 (by rw [w2] at hmm; omega)
      · have g3 : ¬ (dyA (kdL op.data.toList) o p).2 = 0 := by omega
        exact sitems_err W hW ho hV hz1 hU hz2 h1 h2 A1 A2 _ g3 (by rw [← g1])
    · exact sitems_few2 W hW hV hz1 hU hz2 h1 h2
  · exact sitems_few1 W hW hV hz1 hU hz2 h1
end Go.Proofs.YtlhbejeninjmoaaGreatDoor

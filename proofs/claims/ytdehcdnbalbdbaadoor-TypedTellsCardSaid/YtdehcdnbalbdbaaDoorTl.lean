/-
  TypedElements at every array.
-/
import Derived.Test.YtdehcdnbalbdbaaDoorTj
import Derived.Deep.RegionHeld3
import Derived.Deep.DeepCutAuto
namespace Go.Proofs.YtdehcdnbalbdbaaDoor
open Go.RowKit

/-- A callee's end, told of an elder world. -/
theorem calls_base {f : FuncId} {args : Array Value} {wb w : World} {v : Ending} (hb : Below wb.heap.size wb w) (h : Calls Tryd.prog f args w fun e W' => e = v ∧ Below w.heap.size w W') : Calls Tryd.prog f args w fun e W' => e = v ∧ Below wb.heap.size wb W' :=
  h.mono fun _ _ ⟨h1, h2⟩ => ⟨h1, hb.trans (h2.mono hb.size)⟩
theorem mayV_nil {s : ByteArray} {x : Int} (h : Is s (some x)) : mayV [] [s] = true := mayV_yes.2 ⟨by decide, rfl, fun j hj => by
  have hj : j < 1 := hj
  obtain rfl : j = 0 := by omega
  exact h.may⟩
set_option maxRecDepth 10000 in
set_option maxHeartbeats 6400000 in
theorem elements_in {a b : Option Addr} {n c m d bb : Nat} {i : Nat} {l : List Int} {es : List ByteArray} (W : World) (h : Vl W a n b m l es) (hz : ∀ j, j < m → (es.getD j ByteArray.empty).size ≤ maxLen) (ht : WT W) (hfew : fewB l es = true) (hmay : mayV l es = true)
    (x : Nat → Int) (hx : ∀ j, j < m → Is (es.getD j ByteArray.empty) (some (x j))) (hb : Bw (wid x m) bb) (hf : ∀ j, j < m → I64 (x j) ∧ Fit (x j) (wid x m)) (hi : i < m) :
    Calls Tryd.prog 8 #[.agg #[.slice a n c, .slice b m d], .int .i64 i] W (TrueEnd W) := by
  have hl := h.t.1
  have hn20 : n ≤ 20 := by have := (fewB_yes hfew).1; rw [h.s.1] at this; exact this
  have hm4 : m ≤ 4096 := by have := (fewB_yes hfew).2.1; rw [hl] at this; omega
  have hM := packed_may hmay hl hb x
  have hsm : (Eb bb x m).size ≤ maxLen := Eb_small hb.le.2.1 hm4
  have K1 := fun w (hb : Below W.heap.size W w) => Few_is (c := c) (d := d) w (h.below hb) hz
  rw [hfew] at K1
  have K2 := fun w (hb : Below W.heap.size W w) => VMay_is (c := c) (d := d) w (h.below hb) hz
  rw [hmay] at K2
  have KP := fun w (hbl : Below W.heap.size W w) => Pack_yes (c := c) (d := d) (w := wid x m) w (h.below hbl) hn20 hz (ht.below hbl) hmay x _ (fun j hj => ⟨(hx j hj).1, (hf j hj).1⟩) (wid_is hx) rfl hb
  have hel : el (Eb bb x m) bb i = x i := el_encs hb hi (hf i hi).2
  have KA := fun w (hbl : Below W.heap.size W w) a' n' c' (hs : Sl w a' n' l) => TAt_yes (c := c') w hs (ht.below hbl).wid hsm hM hi
  rw [hel] at KA
  have KM := fun w (hbl : Below W.heap.size W w) a' n' c' (hs : Sl w a' n' l) => TMany_is (w := wid x m) (s := Eb bb x m) (c := c') w hs (ht.below hbl).wid hsm
  rw [hM.tm] at KM
  have hxi := hx i hi
  have hx0 : ∀ j, j < 1 → Is ([es.getD i ByteArray.empty].getD j ByteArray.empty) (some ((fun _ => x i) j)) := fun j hj => by
    obtain rfl : j = 0 := by omega
    exact hxi
  have hmay0 := mayV_nil hxi
  obtain ⟨b0, hb0w, hf0⟩ : ∃ b0, Bw (wid (fun _ => x i) 1) b0 ∧ ∀ j, j < 1 → I64 ((fun _ => x i) j) ∧ Fit ((fun _ => x i) j) (wid (fun _ => x i) 1) := by
    rcases wid_cases (fun _ => x i) 1 with e | e
    · exfalso
      have e : max 8 (leastO (some (x i))) = 128 := e
      rw [leastO_in (hf i hi).1] at e
      have := leastW_64 (hf i hi).1
      omega
    · exact e
  have hM0 : MayT (wid (fun _ => x i) 1) [] (Eb b0 (fun _ => x i) 1) b0 1 := packed_may hmay0 rfl hb0w _
  have hsm0 : (Eb b0 (fun _ => x i) 1).size ≤ maxLen := Eb_small hb0w.le.2.1 (by omega)
  have hel0 : el (Eb b0 (fun _ => x i) 1) b0 0 = x i := el_encs hb0w (by omega) (hf0 0 (by omega)).2
  have hz0 : ∀ j, j < 1 → ([es.getD i ByteArray.empty].getD j ByteArray.empty).size ≤ maxLen := fun j hj => (hx0 j hj).size
  have KP0 := fun w (hbl : Below W.heap.size W w) g (hv : w.cell? ⟨g, 0, none⟩ = some (.string (es.getD i ByteArray.empty))) => Pack_yes (c := 0) (d := 1) (w := wid (fun _ => x i) 1) w (Vl.one hv) (by omega) hz0 (ht.below hbl) hmay0 (fun _ => x i) _ (fun j hj => ⟨(hx0 j hj).1, (hf0 j hj).1⟩) (wid_is hx0) rfl hb0w
  have KA0 := fun w (hbl : Below W.heap.size W w) a' n' c' (hs : Sl w a' n' []) => TAt_yes (c := c') (i := 0) w hs (ht.below hbl).wid hsm0 hM0 (by omega)
  rw [hel0] at KA0
  generalize Eb b0 (fun _ => x i) 1 = s0 at KP0 KA0
  generalize wid (fun _ => x i) 1 = w0 at KP0 KA0
  generalize Eb bb x m = s at KP KA KM
  generalize wid x m = ww at KP KA KM
  obtain ⟨off, g, eb, hck⟩ : ∃ off g, b = some ⟨g, off, none⟩ ∧ W.cell? ⟨g, off + i, none⟩ = some (.string (es.getD i ByteArray.empty)) := by
    obtain ⟨g, off, e, hc⟩ := h.t.2 (by omega)
    exact ⟨off, g, e, hc i hi⟩
  subst eb
  generalize es.getD i ByteArray.empty = si at hck KP0
  generalize x i = xi at KA KA0
  replace K1 := Lib.hid K1
  replace K2 := Lib.hid K2
  replace KP := Lib.hid KP
  replace KA := Lib.hid KA
  replace KM := Lib.hid KM
  replace KP0 := Lib.hid KP0
  replace KA0 := Lib.hid KA0
  have HC := Lib.hid hck
  have HW := Lib.hid ht
  have hA := Bx.new W a n c (some ⟨g, off, none⟩) m d
  have hb0 := box_below W (.cells #[.slice a n c, .slice (some ⟨g, off, none⟩) m d] 25)
  have e2 : (i : Int) < (m : Int) := by omega
  have e3 : ¬ (m : Int) ≤ (i : Int) := by omega
  have e4 : ¬ (i : Int) < 0 := by omega
  clear h hz ht hfew hmay hx hf hl hM hsm hel hxi hx0 hmay0 hf0 hM0 hsm0 hel0 hz0 hb hck hb0w
  go_enter Tryd.func8, Tryd.ntmps8
  go_wp2_with fail
  refine (shown_is _ (HW.out.below hb0)).mono ?_
  rintro e w1 ⟨rfl, hb⟩
  have hA1 := hA.below hb hA.lt
  have hb1 := hb0.trans (hb.mono hb0.size)
  clear hA hb0 hb
  have x0 := hA1.c0
  have x1 := hA1.c1
  go_wp2_with fail
  refine (K1.out _ hb1).mono ?_
  rintro e w2 ⟨rfl, hb⟩
  have hA2 := hA1.below hb hA1.lt
  have hb2 := hb1.trans (hb.mono hb1.size)
  clear hA1 hb1 hb x0 x1
  have x0 := hA2.c0
  have x1 := hA2.c1
  go_wp2_with fail
  refine (K2.out _ hb2).mono ?_
  rintro e w3 ⟨rfl, hb⟩
  have hA3 := hA2.below hb hA2.lt
  have hb3 := hb2.trans (hb.mono hb2.size)
  clear hA2 hb2 hb x0 x1
  have x0 := hA3.c0
  have x1 := hA3.c1
  go_wp2_with fail
  refine (KP.out _ hb3).mono ?_
  rintro e w4 ⟨a', n', c', rfl, hS, hn', hb⟩
  have hbl := box_below w4 (.cells #[.int .i64 ww, .slice a' n' c', .string s] 29)
  have hT5 := Tx.new 29 w4 ww a' n' c' s
  have hA5 := (hA3.below hb hA3.lt).below hbl (Nat.lt_of_lt_of_le hA3.lt hb.size)
  have hS5 := hS.below hbl
  have hb5 := (hb3.trans (hb.mono hb3.size)).alloc (Nat.le_trans hb3.size hb.size) (.cells #[.int .i64 ww, .slice a' n' c', .string s] 29)
  clear hA3 hb3 hb hS hbl x0 x1
  go_wp2_with fail
  refine (KA.out _ hb5 _ _ _ hS5).mono ?_
  rintro e w6 ⟨rfl, hb⟩
  have hT6 := hT5.on hb
  have hA6 := hA5.below hb hA5.lt
  have hS6 := hS5.below hb
  have hb6 := hb5.trans (hb.mono hb5.size)
  clear hT5 hA5 hS5 hb5 hb
  have x0 := hA6.c0
  have x1 := hA6.c1
  have hck := (hb6.cell (p := ⟨g, off + i, none⟩) (World.block_lt_of_cell? W _ HC.out)).trans HC.out
  go_wp2_with fail
  refine (Scalar_is si w6).mono ?_
  rintro e w7 ⟨g0, rfl, hg0, hb⟩
  have hT7 := hT6.on hb
  have hA7 := hA6.below hb hA6.lt
  have hS7 := hS6.below hb
  have hb7 := hb6.trans (hb.mono hb6.size)
  clear hT6 hA6 hS6 hb6 hb x0 x1 hck
  go_wp2_with fail
  refine (KP0.out _ hb7 _ hg0).mono ?_
  rintro e w8 ⟨a0, n0, c0, rfl, hS0, hn0, hb⟩
  have hbl := box_below w8 (.cells #[.int .i64 w0, .slice a0 n0 c0, .string s0] 29)
  have hT8 := (hT7.on hb).on hbl
  have hA8 := (hA7.below hb hA7.lt).below hbl (Nat.lt_of_lt_of_le hA7.lt hb.size)
  have hS8 := (hS7.below hb).below hbl
  have hS9 := hS0.below hbl
  have hb8 := (hb7.trans (hb.mono hb7.size)).alloc (Nat.le_trans hb7.size hb.size) (.cells #[.int .i64 w0, .slice a0 n0 c0, .string s0] 29)
  clear hT7 hA7 hS7 hb7 hb hbl hg0 hS0
  go_wp2_with fail
  refine (KA0.out _ hb8 _ _ _ hS9).mono ?_
  rintro e w9 ⟨rfl, hb⟩
  have hT9 := hT8.on hb
  have hA9 := hA8.below hb hA8.lt
  have hS9 := hS8.below hb
  have hb9 := hb8.trans (hb.mono hb8.size)
  clear hT8 hA8 hS8 hb8 hb
  have x0 := hT9.c0
  have x1 := hT9.c1
  have x2 := hT9.c2
  have y1 := hA9.c1
  have l4 : w4.heap.size < w9.heap.size := hT9.lt
  have l0 : W.heap.size < w9.heap.size := hA9.lt
  have KQ := Lib.hid (fun w' (hb : Below w9.heap.size w9 w') => calls_base (v := .returned (.int .i64 m)) hb (KM.out w' (hb9.trans (hb.mono hb9.size)) a' n' c' (hS9.below hb)))
  have hq : Below w9.heap.size w9 w9 := Below.refl _ _
  clear K1 K2 KM KP KA KP0 KA0 HC HW hT9 hA9 hS9 e2 e3 e4 hi hn' hn0 hn20 hm4
  go_upto_region 12 with fail
  go_region_held3 (fun w' => w'.cell? ⟨w4.heap.size, 0, none⟩ = some (.int .i64 ww) ∧ w'.cell? ⟨w4.heap.size, 1, none⟩ = some (.slice a' n' c') ∧ w'.cell? ⟨w4.heap.size, 2, none⟩ = some (.string s) ∧ w'.cell? ⟨W.heap.size, 1, none⟩ = some (.slice (some ⟨g, off, none⟩) m d))
    (first | exact ⟨(Below.cell (p := ⟨w4.heap.size, 0, none⟩) (by repeat' (first | exact hq | refine Below.drew ?_ | refine below_drewN ?_ _)) l4).trans x0, (Below.cell (p := ⟨w4.heap.size, 1, none⟩) (by repeat' (first | exact hq | refine Below.drew ?_ | refine below_drewN ?_ _)) l4).trans x1, (Below.cell (p := ⟨w4.heap.size, 2, none⟩) (by repeat' (first | exact hq | refine Below.drew ?_ | refine below_drewN ?_ _)) l4).trans x2, (Below.cell (p := ⟨W.heap.size, 1, none⟩) (by repeat' (first | exact hq | refine Below.drew ?_ | refine below_drewN ?_ _)) l0).trans y1⟩ | fail)
    (first
      | (go_at_call 24; (with_reducible refine (KQ.out _ (by repeat' (first | exact hq | refine Below.drew ?_ | refine below_drewN ?_ _))).mono ?_); rintro e wa ⟨rfl, hq⟩))
  go_wp2_with fail
  go_ret
  exact ⟨rfl, hb9.trans (hq.mono hb9.size)⟩
set_option maxRecDepth 10000 in
set_option maxHeartbeats 6400000 in
theorem elements_out {a b : Option Addr} {n c m d bb : Nat} {i : Int} {l : List Int} {es : List ByteArray} (W : World) (h : Vl W a n b m l es) (hz : ∀ j, j < m → (es.getD j ByteArray.empty).size ≤ maxLen) (ht : WT W) (hfew : fewB l es = true) (hmay : mayV l es = true)
    (x : Nat → Int) (hx : ∀ j, j < m → Is (es.getD j ByteArray.empty) (some (x j))) (hb : Bw (wid x m) bb) (hf : ∀ j, j < m → I64 (x j) ∧ Fit (x j) (wid x m)) (hi : i < 0 ∨ (m : Int) ≤ i) :
    Calls Tryd.prog 8 #[.agg #[.slice a n c, .slice b m d], .int .i64 i] W (TrueEnd W) := by
  have hl := h.t.1
  have hn20 : n ≤ 20 := by have := (fewB_yes hfew).1; rw [h.s.1] at this; exact this
  have hm4 : m ≤ 4096 := by have := (fewB_yes hfew).2.1; rw [hl] at this; omega
  have hM := packed_may hmay hl hb x
  have hsm : (Eb bb x m).size ≤ maxLen := Eb_small hb.le.2.1 hm4
  have K1 := fun w (hb : Below W.heap.size W w) => Few_is (c := c) (d := d) w (h.below hb) hz
  rw [hfew] at K1
  have K2 := fun w (hb : Below W.heap.size W w) => VMay_is (c := c) (d := d) w (h.below hb) hz
  rw [hmay] at K2
  have KP := fun w (hbl : Below W.heap.size W w) => Pack_yes (c := c) (d := d) (w := wid x m) w (h.below hbl) hn20 hz (ht.below hbl) hmay x _ (fun j hj => ⟨(hx j hj).1, (hf j hj).1⟩) (wid_is hx) rfl hb
  have hno : i < 0 ∨ tm (wid x m) l (Eb bb x m) ≤ i := by rw [hM.tm]; exact hi
  have KA := fun w (hbl : Below W.heap.size W w) a' n' c' (hs : Sl w a' n' l) => TAt_no (w := wid x m) (c := c') (s := Eb bb x m) w hs (ht.below hbl).wid hsm hno
  generalize Eb bb x m = s at KP KA
  generalize wid x m = ww at KP KA
  replace K1 := Lib.hid K1
  replace K2 := Lib.hid K2
  replace KP := Lib.hid KP
  replace KA := Lib.hid KA
  have HW := Lib.hid ht
  have hA := Bx.new W a n c b m d
  have hb0 := box_below W (.cells #[.slice a n c, .slice b m d] 25)
  clear h hz ht hfew hmay hx hf hl hM hsm hno hb
  by_cases hi0 : i < 0
  · clear hi
    go_enter Tryd.func8, Tryd.ntmps8
    go_wp2_with fail
    refine (shown_is _ (HW.out.below hb0)).mono ?_
    rintro e w1 ⟨rfl, hb⟩
    have hA1 := hA.below hb hA.lt
    have hb1 := hb0.trans (hb.mono hb0.size)
    clear hA hb0 hb
    have x0 := hA1.c0
    have x1 := hA1.c1
    go_wp2_with fail
    refine (K1.out _ hb1).mono ?_
    rintro e w2 ⟨rfl, hb⟩
    have hA2 := hA1.below hb hA1.lt
    have hb2 := hb1.trans (hb.mono hb1.size)
    clear hA1 hb1 hb x0 x1
    have x0 := hA2.c0
    have x1 := hA2.c1
    go_wp2_with fail
    refine (K2.out _ hb2).mono ?_
    rintro e w3 ⟨rfl, hb⟩
    have hA3 := hA2.below hb hA2.lt
    have hb3 := hb2.trans (hb.mono hb2.size)
    clear hA2 hb2 hb x0 x1
    have x0 := hA3.c0
    have x1 := hA3.c1
    go_wp2_with fail
    refine (KP.out _ hb3).mono ?_
    rintro e w4 ⟨a', n', c', rfl, hS, hn', hb⟩
    have hbl := box_below w4 (.cells #[.int .i64 ww, .slice a' n' c', .string s] 29)
    have hT5 := Tx.new 29 w4 ww a' n' c' s
    have hA5 := (hA3.below hb hA3.lt).below hbl (Nat.lt_of_lt_of_le hA3.lt hb.size)
    have hS5 := hS.below hbl
    have hb5 := (hb3.trans (hb.mono hb3.size)).alloc (Nat.le_trans hb3.size hb.size) (.cells #[.int .i64 ww, .slice a' n' c', .string s] 29)
    clear hA3 hb3 hb hS hbl x0 x1
    go_wp2_with fail
    refine (KA.out _ hb5 _ _ _ hS5).mono ?_
    rintro e w6 ⟨rfl, hb⟩
    have hT6 := hT5.on hb
    have hA6 := hA5.below hb hA5.lt
    have hS6 := hS5.below hb
    have hb6 := hb5.trans (hb.mono hb5.size)
    clear hT5 hA5 hS5 hb5 hb
    have x1 := hA6.c1
    go_wp2_with fail
    go_ret
    exact ⟨rfl, hb6⟩
  · have hi1 : (m : Int) ≤ i := by omega
    clear hi
    go_enter Tryd.func8, Tryd.ntmps8
    go_wp2_with fail
    refine (shown_is _ (HW.out.below hb0)).mono ?_
    rintro e w1 ⟨rfl, hb⟩
    have hA1 := hA.below hb hA.lt
    have hb1 := hb0.trans (hb.mono hb0.size)
    clear hA hb0 hb
    have x0 := hA1.c0
    have x1 := hA1.c1
    go_wp2_with fail
    refine (K1.out _ hb1).mono ?_
    rintro e w2 ⟨rfl, hb⟩
    have hA2 := hA1.below hb hA1.lt
    have hb2 := hb1.trans (hb.mono hb1.size)
    clear hA1 hb1 hb x0 x1
    have x0 := hA2.c0
    have x1 := hA2.c1
    go_wp2_with fail
    refine (K2.out _ hb2).mono ?_
    rintro e w3 ⟨rfl, hb⟩
    have hA3 := hA2.below hb hA2.lt
    have hb3 := hb2.trans (hb.mono hb2.size)
    clear hA2 hb2 hb x0 x1
    have x0 := hA3.c0
    have x1 := hA3.c1
    go_wp2_with fail
    refine (KP.out _ hb3).mono ?_
    rintro e w4 ⟨a', n', c', rfl, hS, hn', hb⟩
    have hbl := box_below w4 (.cells #[.int .i64 ww, .slice a' n' c', .string s] 29)
    have hT5 := Tx.new 29 w4 ww a' n' c' s
    have hA5 := (hA3.below hb hA3.lt).below hbl (Nat.lt_of_lt_of_le hA3.lt hb.size)
    have hS5 := hS.below hbl
    have hb5 := (hb3.trans (hb.mono hb3.size)).alloc (Nat.le_trans hb3.size hb.size) (.cells #[.int .i64 ww, .slice a' n' c', .string s] 29)
    clear hA3 hb3 hb hS hbl x0 x1
    go_wp2_with fail
    refine (KA.out _ hb5 _ _ _ hS5).mono ?_
    rintro e w6 ⟨rfl, hb⟩
    have hT6 := hT5.on hb
    have hA6 := hA5.below hb hA5.lt
    have hS6 := hS5.below hb
    have hb6 := hb5.trans (hb.mono hb5.size)
    clear hT5 hA5 hS5 hb5 hb
    have x1 := hA6.c1
    go_wp2_with fail
    go_ret
    exact ⟨rfl, hb6⟩
set_option maxRecDepth 10000 in
set_option maxHeartbeats 1600000 in
theorem elements_any {a b : Option Addr} {n c m d : Nat} {l : List Int} {es : List ByteArray} {i : Int} (W : World) (h : Vl W a n b m l es) (hz : ∀ j, j < m → (es.getD j ByteArray.empty).size ≤ maxLen) (ht : WT W) :
    Calls Tryd.prog 8 #[.agg #[.slice a n c, .slice b m d], .int .i64 i] W (TrueEnd W) := by
  have hl := h.t.1
  have HW := Lib.hid ht
  have hA := Bx.new W a n c b m d
  have hb0 := box_below W (.cells #[.slice a n c, .slice b m d] 25)
  have K1 := fun w (hb : Below W.heap.size W w) => Few_is (c := c) (d := d) w (h.below hb) hz
  rcases Bool.eq_false_or_eq_true (fewB l es) with hfew | hfew
  · rw [hfew] at K1
    replace K1 := Lib.hid K1
    have K2 := fun w (hb : Below W.heap.size W w) => VMay_is (c := c) (d := d) w (h.below hb) hz
    rcases Bool.eq_false_or_eq_true (mayV l es) with hmay | hmay
    · obtain ⟨x, hx⟩ := may_numbers hmay
      rw [hl] at hx
      rcases wid_cases x m with h128 | ⟨bb, hb, hf⟩
      · rw [hmay] at K2
        replace K2 := Lib.hid K2
        have KP := Lib.hid (fun w (hbl : Below W.heap.size W w) => Pack_big (c := c) (d := d) w (h.below hbl) hz (ht.below hbl) hmay _ (wid_is hx) h128)
        clear h hz ht hfew hmay hx hl h128
        go_enter Tryd.func8, Tryd.ntmps8
        go_wp2_with fail
        refine (shown_is _ (HW.out.below hb0)).mono ?_
        rintro e w1 ⟨rfl, hb⟩
        have hA1 := hA.below hb hA.lt
        have hb1 := hb0.trans (hb.mono hb0.size)
        clear hA hb0 hb
        have x0 := hA1.c0
        have x1 := hA1.c1
        go_wp2_with fail
        refine (K1.out _ hb1).mono ?_
        rintro e w2 ⟨rfl, hb⟩
        have hA2 := hA1.below hb hA1.lt
        have hb2 := hb1.trans (hb.mono hb1.size)
        clear hA1 hb1 hb x0 x1
        have x0 := hA2.c0
        have x1 := hA2.c1
        go_wp2_with fail
        refine (K2.out _ hb2).mono ?_
        rintro e w3 ⟨rfl, hb⟩
        have hA3 := hA2.below hb hA2.lt
        have hb3 := hb2.trans (hb.mono hb2.size)
        clear hA2 hb2 hb x0 x1
        have x0 := hA3.c0
        have x1 := hA3.c1
        go_wp2_with fail
        refine (KP.out _ hb3).mono ?_
        rintro e w4 ⟨rfl, hb⟩
        have hb4 := (hb3.trans (hb.mono hb3.size)).alloc (Nat.le_trans hb3.size hb.size) (.cells #[.int .i64 0, .slice none 0 0, .string ⟨#[]⟩] 29)
        go_wp2_with fail
        go_ret
        exact ⟨rfl, hb4⟩
      · by_cases h0 : i < 0 ∨ (m : Int) ≤ i
        · exact elements_out W h hz ht hfew hmay x hx hb hf h0
        · obtain ⟨j, rfl⟩ := Int.eq_ofNat_of_zero_le (show 0 ≤ i by omega)
          exact elements_in W h hz ht hfew hmay x hx hb hf (by omega)
    · rw [hmay] at K2
      replace K2 := Lib.hid K2
      clear h hz ht hfew hmay hl
      go_enter Tryd.func8, Tryd.ntmps8
      go_wp2_with fail
      refine (shown_is _ (HW.out.below hb0)).mono ?_
      rintro e w1 ⟨rfl, hb⟩
      have hA1 := hA.below hb hA.lt
      have hb1 := hb0.trans (hb.mono hb0.size)
      clear hA hb0 hb
      have x0 := hA1.c0
      have x1 := hA1.c1
      go_wp2_with fail
      refine (K1.out _ hb1).mono ?_
      rintro e w2 ⟨rfl, hb⟩
      have hA2 := hA1.below hb hA1.lt
      have hb2 := hb1.trans (hb.mono hb1.size)
      clear hA1 hb1 hb x0 x1
      have x0 := hA2.c0
      have x1 := hA2.c1
      go_wp2_with fail
      refine (K2.out _ hb2).mono ?_
      rintro e w3 ⟨rfl, hb⟩
      go_wp2_with fail
      go_ret
      exact ⟨rfl, hb2.trans (hb.mono hb2.size)⟩
  · rw [hfew] at K1
    replace K1 := Lib.hid K1
    clear h hz ht hfew hl
    go_enter Tryd.func8, Tryd.ntmps8
    go_wp2_with fail
    refine (shown_is _ (HW.out.below hb0)).mono ?_
    rintro e w1 ⟨rfl, hb⟩
    have hA1 := hA.below hb hA.lt
    have hb1 := hb0.trans (hb.mono hb0.size)
    clear hA hb0 hb
    have x0 := hA1.c0
    have x1 := hA1.c1
    go_wp2_with fail
    refine (K1.out _ hb1).mono ?_
    rintro e w2 ⟨rfl, hb⟩
    go_wp2_with fail
    go_ret
    exact ⟨rfl, hb1.trans (hb.mono hb1.size)⟩
end Go.Proofs.YtdehcdnbalbdbaaDoor

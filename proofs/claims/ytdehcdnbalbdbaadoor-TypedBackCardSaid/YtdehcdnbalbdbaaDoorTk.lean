/-
  TypedBack at every array.
-/
import Derived.Test.YtdehcdnbalbdbaaDoorTj
namespace Go.Proofs.YtdehcdnbalbdbaaDoor
open Go.RowKit

theorem zero_may : mayT 0 [] ⟨#[]⟩ = false := by decide
theorem empty_small : (⟨#[]⟩ : ByteArray).size ≤ maxLen := by unfold maxLen; decide
set_option maxRecDepth 10000 in
set_option maxHeartbeats 6400000 in
theorem back_yes {a b : Option Addr} {n c m d bb : Nat} {l : List Int} {es : List ByteArray} {k : Int} (W : World) (h : Vl W a n b m l es) (hz : ∀ j, j < m → (es.getD j ByteArray.empty).size ≤ maxLen) (ht : WT W) (hfew : fewB l es = true) (hmay : mayV l es = true)
    (x : Nat → Int) (hx : ∀ j, j < m → Is (es.getD j ByteArray.empty) (some (x j))) (hb : Bw (wid x m) bb) (hf : ∀ j, j < m → I64 (x j) ∧ Fit (x j) (wid x m)) (r : Nat) (hr : r < 4) (hk1 : k % 4 = (r : Int)) (hk2 : k.tmod 4 = (r : Int)) (hk0 : 0 ≤ k) (hk3 : k ≤ 255) (hfit : wid x m ≤ wds.getD r 0) :
    Calls Tryd.prog 5 #[.agg #[.slice a n c, .slice b m d], .int .u8 k] W (TrueEnd W) := by
  have hl := h.t.1
  have hn20 : n ≤ 20 := by have := (fewB_yes hfew).1; rw [h.s.1] at this; exact this
  have hm4 : m ≤ 4096 := by have := (fewB_yes hfew).2.1; rw [hl] at this; omega
  have hM := packed_may hmay hl hb x
  have hsm : (Eb bb x m).size ≤ maxLen := Eb_small hb.le.2.1 hm4
  have htx := txs_es (x := x) hl hb (fun j hj => ⟨(hx j hj).1, (hf j hj).2⟩)
  have hel : ∀ i, i < m → el (Eb bb x m) bb i = x i := fun i hi => el_encs hb hi (hf i hi).2
  have K1 := fun w (hb : Below W.heap.size W w) => Few_is (c := c) (d := d) w (h.below hb) hz
  rw [hfew] at K1
  have K2 := fun w (hb : Below W.heap.size W w) => VMay_is (c := c) (d := d) w (h.below hb) hz
  rw [hmay] at K2
  have KP := fun w (hbl : Below W.heap.size W w) => Pack_yes (c := c) (d := d) (w := wid x m) w (h.below hbl) hn20 hz (ht.below hbl) hmay x _ (fun j hj => ⟨(hx j hj).1, (hf j hj).1⟩) (wid_is hx) rfl hb
  have KV := fun w (hbl : Below W.heap.size W w) a' n' c' (hs : Sl w a' n' l) (hn : n' ≤ 20) => TVal_yes (c := c') w hs hn (ht.below hbl) hsm hM
  rw [htx] at KV
  have KY := fun w (hbl : Below W.heap.size W w) a' n' c' (hs : Sl w a' n' l) => TMay_is (w := wid x m) (s := Eb bb x m) (c := c') w hs (ht.below hbl).wid hsm
  rw [hM.yes] at KY
  have KSm := fun w (hbl : Below W.heap.size W w) a1 n1 c1 b1 m1 d1 (hv : Vl w a1 n1 b1 m1 l es) (q : n1 ≤ 1000000) => VSame_is (c1 := c1) (d1 := d1) (c2 := c) (d2 := d) w hv (h.below hbl) q (by omega)
  rw [show ((l == l) && decide (es = es)) = true by simp] at KSm
  have hW : wid x m = 8 ∨ wid x m = 16 ∨ wid x m = 32 ∨ wid x m = 64 := by unfold Bw at hb; omega
  replace K1 := Lib.hid K1
  replace K2 := Lib.hid K2
  replace KV := Lib.hid KV
  replace KY := Lib.hid KY
  replace KSm := Lib.hid KSm
  have HW := Lib.hid ht
  have hA := Bx.new W a n c b m d
  have hb0 := box_below W (.cells #[.slice a n c, .slice b m d] 25)
  obtain ⟨b2, hb2, h8⟩ := wds_is hr
  have hfa : ∀ i, i < m → Fit (el (Eb bb x m) bb i) (wds.getD r 0) := fun i hi => by rw [hel i hi]; exact fit_mono (hf i hi).2 hb hb2 hfit
  have hM2 : MayT (wds.getD r 0) l (Eb b2 (el (Eb bb x m) bb) m) b2 m := packed_may hmay hl hb2 _
  have hsm2 : (Eb b2 (el (Eb bb x m) bb) m).size ≤ maxLen := Eb_small hb2.le.2.1 hm4
  have htx2 : txs (el (Eb b2 (el (Eb bb x m) bb) m) b2) m = es := txs_es hl hb2 (fun j hj => ⟨by rw [hel j hj]; exact (hx j hj).1, hfa j hj⟩)
  have KT := fun w (hbl : Below W.heap.size W w) a' n' c' (hs : Sl w a' n' l) (hn : n' ≤ 20) => TTo_yes (c := c') w hs hn (ht.below hbl).wid hsm hM hb2 hfa
  have KV2 := fun w (hbl : Below W.heap.size W w) a' n' c' (hs : Sl w a' n' l) (hn : n' ≤ 20) => TVal_yes (c := c') w hs hn (ht.below hbl) hsm2 hM2
  rw [htx2] at KV2
  generalize Eb b2 (el (Eb bb x m) bb) m = s2 at KT KV2
  generalize Eb bb x m = s at KP KV KY KT
  generalize wid x m = ww at *
  replace KP := Lib.hid KP
  replace KT := Lib.hid KT
  replace KV2 := Lib.hid KV2
  clear h hz ht hfew hmay hx hf hl hM hsm htx hel hM2 hsm2 htx2 hfa hb hb2 h8 hm4 hn20
  obtain rfl | rfl | rfl | rfl : r = 0 ∨ r = 1 ∨ r = 2 ∨ r = 3 := by omega
  · clear hr
    simp only [wds, List.getD_cons_zero, List.getD_cons_succ, Int.natCast_zero, Int.natCast_one, Int.cast_ofNat_Int] at *
    go_enter Tryd.func5, Tryd.ntmps5
    go_wp2_with fail
    refine (shown_is _ (HW.out.below hb0)).mono ?_
    rintro e w1 ⟨rfl, hb⟩
    have hA1 := hA.below hb hA.lt
    have hb1 := hb0.trans (hb.mono hb0.size)
    clear hA hb0 hb
    have x0 := hA1.c0
    have x1 := hA1.c1
    go_wp2_with fail
    refine (K1.out _ hb1).mono ?_
    rintro e w2 ⟨rfl, hb⟩
    have hA2 := hA1.below hb hA1.lt
    have hb2 := hb1.trans (hb.mono hb1.size)
    clear hA1 hb1 hb x0 x1
    have x0 := hA2.c0
    have x1 := hA2.c1
    go_wp2_with fail
    refine (K2.out _ hb2).mono ?_
    rintro e w3 ⟨rfl, hb⟩
    have hA3 := hA2.below hb hA2.lt
    have hb3 := hb2.trans (hb.mono hb2.size)
    clear hA2 hb2 hb x0 x1
    have x0 := hA3.c0
    have x1 := hA3.c1
    go_wp2_with fail
    refine (KP.out _ hb3).mono ?_
    rintro e w4 ⟨a', n', c', rfl, hS, hn', hb⟩
    have hA4 := hA3.below hb hA3.lt
    have hb4 := hb3.trans (hb.mono hb3.size)
    clear hA3 hb3 hb x0 x1
    go_wp2_with fail
    have hT5 := (Tx.new 29 w4 ww a' n' c' s).alloc (.cells #[.int .i64 8, .int .i64 16, .int .i64 32, .int .i64 64] 3)
    have hbl5 := (box_below w4 (.cells #[.int .i64 ww, .slice a' n' c', .string s] 29)).alloc (by simp) (.cells #[.int .i64 8, .int .i64 16, .int .i64 32, .int .i64 64] 3)
    have hA5 := hA4.below hbl5 hA4.lt
    have hS5 := hS.below hbl5
    have hb5 := hb4.trans (hbl5.mono hb4.size)
    clear hA4 hS hb4 hbl5
    refine (KV.out _ hb5 _ _ _ hS5 hn').mono ?_
    rintro e w6 ⟨ax, nx, cx, bx, mx, dx, rfl, hX, hnx, hb⟩
    have hbl6 := box_below w6 (.cells #[.slice ax nx cx, .slice bx mx dx] 25)
    have hT6 := (hT5.on hb).on hbl6
    have hA6 := (hA5.below hb hA5.lt).below hbl6 (Nat.lt_of_lt_of_le hA5.lt hb.size)
    have hX6 := Bx.new w6 ax nx cx bx mx dx
    have hV6 := hX.below hbl6
    have hS6 := (hS5.below hb).below hbl6
    have hb6 := (hb5.trans (hb.mono hb5.size)).alloc (Nat.le_trans hb5.size hb.size) (.cells #[.slice ax nx cx, .slice bx mx dx] 25)
    have x0 := hT6.c0
    have x1 := hT6.c1
    have x2 := hT6.c2
    clear hT5 hA5 hS5 hb5 hb hbl6 hX
    go_wp2_with fail
    refine (KT.out _ hb6 _ _ _ hS6 hn').mono ?_
    rintro e w8 ⟨aw, nw, cw, rfl, hSw, hnw, hb⟩
    have hbl8 := box_below w8 (.cells #[.int .i64 8, .slice aw nw cw, .string s2] 29)
    have hT8 := (hT6.on hb).on hbl8
    have hA8 := (hA6.below hb hA6.lt).below hbl8 (Nat.lt_of_lt_of_le hA6.lt hb.size)
    have hX8 := (hX6.below hb hX6.lt).below hbl8 (Nat.lt_of_lt_of_le hX6.lt hb.size)
    have hV8 := (hV6.below hb).below hbl8
    have hS8 := (hS6.below hb).below hbl8
    have hD8 := Tx.new 29 w8 8 aw nw cw s2
    have hSw8 := hSw.below hbl8
    have hb8 := (hb6.trans (hb.mono hb6.size)).alloc (Nat.le_trans hb6.size hb.size) (.cells #[.int .i64 8, .slice aw nw cw, .string s2] 29)
    clear hT6 hA6 hX6 hV6 hS6 hb6 hb hbl8 hSw x0 x1 x2
    go_wp2_with fail
    refine (KV2.out _ hb8 _ _ _ hSw8 hnw).mono ?_
    rintro e w9 ⟨ay, ny, cy, by', my, dy, rfl, hY, hny, hb⟩
    have hbl9 := box_below w9 (.cells #[.slice ay ny cy, .slice by' my dy] 25)
    have hT9 := (hT8.on hb).on hbl9
    have hA9 := (hA8.below hb hA8.lt).below hbl9 (Nat.lt_of_lt_of_le hA8.lt hb.size)
    have hX9 := (hX8.below hb hX8.lt).below hbl9 (Nat.lt_of_lt_of_le hX8.lt hb.size)
    have hV9 := (hV8.below hb).below hbl9
    have hS9 := (hS8.below hb).below hbl9
    have hD9 := (hD8.on hb).on hbl9
    have hY9 := Bx.new w9 ay ny cy by' my dy
    have hVY9 := hY.below hbl9
    have hb9 := (hb8.trans (hb.mono hb8.size)).alloc (Nat.le_trans hb8.size hb.size) (.cells #[.slice ay ny cy, .slice by' my dy] 25)
    have x0 := hT9.c0
    have x1 := hT9.c1
    have x2 := hT9.c2
    clear hT8 hA8 hX8 hV8 hS8 hD8 hb8 hb hbl9 hY hSw8
    go_wp2_with fail
    refine (KY.out _ hb9 _ _ _ hS9).mono ?_
    rintro e wa ⟨rfl, hb⟩
    have hTa := hT9.on hb
    have hAa := hA9.below hb hA9.lt
    have hXa := hX9.below hb hX9.lt
    have hVa := hV9.below hb
    have hDa := hD9.on hb
    have hYa := hY9.below hb hY9.lt
    have hVYa := hVY9.below hb
    have hba := hb9.trans (hb.mono hb9.size)
    clear hT9 hA9 hX9 hV9 hS9 hD9 hY9 hVY9 hb9 hb x0 x1 x2
    have x0 := hXa.c0
    have x1 := hXa.c1
    have y0 := hAa.c0
    have y1 := hAa.c1
    go_wp2_with fail
    refine (KSm.out _ hba _ _ _ _ _ _ hVa (by omega)).mono ?_
    rintro e wb ⟨rfl, hb⟩
    have hTb := hTa.on hb
    have hAb := hAa.below hb hAa.lt
    have hDb := hDa.on hb
    have hYb := hYa.below hb hYa.lt
    have hVYb := hVYa.below hb
    have hbb := hba.trans (hb.mono hba.size)
    clear hTa hAa hXa hVa hDa hYa hVYa hba hb x0 x1 y0 y1
    have x0 := hTb.c0
    have y0 := hAb.c0
    have y1 := hAb.c1
    have z0 := hYb.c0
    have z1 := hYb.c1
    go_wp2_with fail
    refine (KSm.out _ hbb _ _ _ _ _ _ hVYb (by omega)).mono ?_
    rintro e wc ⟨rfl, hb⟩
    have hDc := hDb.on hb
    have hbc := hbb.trans (hb.mono hbb.size)
    clear hTb hAb hDb hYb hVYb hbb hb x0 y0 y1 z0 z1
    have x0 := hDc.c0
    go_wp2_with fail
    go_ret
    exact ⟨rfl, hbc⟩
  · clear hr
    simp only [wds, List.getD_cons_zero, List.getD_cons_succ, Int.natCast_zero, Int.natCast_one, Int.cast_ofNat_Int] at *
    go_enter Tryd.func5, Tryd.ntmps5
    go_wp2_with fail
    refine (shown_is _ (HW.out.below hb0)).mono ?_
    rintro e w1 ⟨rfl, hb⟩
    have hA1 := hA.below hb hA.lt
    have hb1 := hb0.trans (hb.mono hb0.size)
    clear hA hb0 hb
    have x0 := hA1.c0
    have x1 := hA1.c1
    go_wp2_with fail
    refine (K1.out _ hb1).mono ?_
    rintro e w2 ⟨rfl, hb⟩
    have hA2 := hA1.below hb hA1.lt
    have hb2 := hb1.trans (hb.mono hb1.size)
    clear hA1 hb1 hb x0 x1
    have x0 := hA2.c0
    have x1 := hA2.c1
    go_wp2_with fail
    refine (K2.out _ hb2).mono ?_
    rintro e w3 ⟨rfl, hb⟩
    have hA3 := hA2.below hb hA2.lt
    have hb3 := hb2.trans (hb.mono hb2.size)
    clear hA2 hb2 hb x0 x1
    have x0 := hA3.c0
    have x1 := hA3.c1
    go_wp2_with fail
    refine (KP.out _ hb3).mono ?_
    rintro e w4 ⟨a', n', c', rfl, hS, hn', hb⟩
    have hA4 := hA3.below hb hA3.lt
    have hb4 := hb3.trans (hb.mono hb3.size)
    clear hA3 hb3 hb x0 x1
    go_wp2_with fail
    have hT5 := (Tx.new 29 w4 ww a' n' c' s).alloc (.cells #[.int .i64 8, .int .i64 16, .int .i64 32, .int .i64 64] 3)
    have hbl5 := (box_below w4 (.cells #[.int .i64 ww, .slice a' n' c', .string s] 29)).alloc (by simp) (.cells #[.int .i64 8, .int .i64 16, .int .i64 32, .int .i64 64] 3)
    have hA5 := hA4.below hbl5 hA4.lt
    have hS5 := hS.below hbl5
    have hb5 := hb4.trans (hbl5.mono hb4.size)
    clear hA4 hS hb4 hbl5
    refine (KV.out _ hb5 _ _ _ hS5 hn').mono ?_
    rintro e w6 ⟨ax, nx, cx, bx, mx, dx, rfl, hX, hnx, hb⟩
    have hbl6 := box_below w6 (.cells #[.slice ax nx cx, .slice bx mx dx] 25)
    have hT6 := (hT5.on hb).on hbl6
    have hA6 := (hA5.below hb hA5.lt).below hbl6 (Nat.lt_of_lt_of_le hA5.lt hb.size)
    have hX6 := Bx.new w6 ax nx cx bx mx dx
    have hV6 := hX.below hbl6
    have hS6 := (hS5.below hb).below hbl6
    have hb6 := (hb5.trans (hb.mono hb5.size)).alloc (Nat.le_trans hb5.size hb.size) (.cells #[.slice ax nx cx, .slice bx mx dx] 25)
    have x0 := hT6.c0
    have x1 := hT6.c1
    have x2 := hT6.c2
    clear hT5 hA5 hS5 hb5 hb hbl6 hX
    go_wp2_with fail
    refine (KT.out _ hb6 _ _ _ hS6 hn').mono ?_
    rintro e w8 ⟨aw, nw, cw, rfl, hSw, hnw, hb⟩
    have hbl8 := box_below w8 (.cells #[.int .i64 16, .slice aw nw cw, .string s2] 29)
    have hT8 := (hT6.on hb).on hbl8
    have hA8 := (hA6.below hb hA6.lt).below hbl8 (Nat.lt_of_lt_of_le hA6.lt hb.size)
    have hX8 := (hX6.below hb hX6.lt).below hbl8 (Nat.lt_of_lt_of_le hX6.lt hb.size)
    have hV8 := (hV6.below hb).below hbl8
    have hS8 := (hS6.below hb).below hbl8
    have hD8 := Tx.new 29 w8 16 aw nw cw s2
    have hSw8 := hSw.below hbl8
    have hb8 := (hb6.trans (hb.mono hb6.size)).alloc (Nat.le_trans hb6.size hb.size) (.cells #[.int .i64 16, .slice aw nw cw, .string s2] 29)
    clear hT6 hA6 hX6 hV6 hS6 hb6 hb hbl8 hSw x0 x1 x2
    go_wp2_with fail
    refine (KV2.out _ hb8 _ _ _ hSw8 hnw).mono ?_
    rintro e w9 ⟨ay, ny, cy, by', my, dy, rfl, hY, hny, hb⟩
    have hbl9 := box_below w9 (.cells #[.slice ay ny cy, .slice by' my dy] 25)
    have hT9 := (hT8.on hb).on hbl9
    have hA9 := (hA8.below hb hA8.lt).below hbl9 (Nat.lt_of_lt_of_le hA8.lt hb.size)
    have hX9 := (hX8.below hb hX8.lt).below hbl9 (Nat.lt_of_lt_of_le hX8.lt hb.size)
    have hV9 := (hV8.below hb).below hbl9
    have hS9 := (hS8.below hb).below hbl9
    have hD9 := (hD8.on hb).on hbl9
    have hY9 := Bx.new w9 ay ny cy by' my dy
    have hVY9 := hY.below hbl9
    have hb9 := (hb8.trans (hb.mono hb8.size)).alloc (Nat.le_trans hb8.size hb.size) (.cells #[.slice ay ny cy, .slice by' my dy] 25)
    have x0 := hT9.c0
    have x1 := hT9.c1
    have x2 := hT9.c2
    clear hT8 hA8 hX8 hV8 hS8 hD8 hb8 hb hbl9 hY hSw8
    go_wp2_with fail
    refine (KY.out _ hb9 _ _ _ hS9).mono ?_
    rintro e wa ⟨rfl, hb⟩
    have hTa := hT9.on hb
    have hAa := hA9.below hb hA9.lt
    have hXa := hX9.below hb hX9.lt
    have hVa := hV9.below hb
    have hDa := hD9.on hb
    have hYa := hY9.below hb hY9.lt
    have hVYa := hVY9.below hb
    have hba := hb9.trans (hb.mono hb9.size)
    clear hT9 hA9 hX9 hV9 hS9 hD9 hY9 hVY9 hb9 hb x0 x1 x2
    have x0 := hXa.c0
    have x1 := hXa.c1
    have y0 := hAa.c0
    have y1 := hAa.c1
    go_wp2_with fail
    refine (KSm.out _ hba _ _ _ _ _ _ hVa (by omega)).mono ?_
    rintro e wb ⟨rfl, hb⟩
    have hTb := hTa.on hb
    have hAb := hAa.below hb hAa.lt
    have hDb := hDa.on hb
    have hYb := hYa.below hb hYa.lt
    have hVYb := hVYa.below hb
    have hbb := hba.trans (hb.mono hba.size)
    clear hTa hAa hXa hVa hDa hYa hVYa hba hb x0 x1 y0 y1
    have x0 := hTb.c0
    have y0 := hAb.c0
    have y1 := hAb.c1
    have z0 := hYb.c0
    have z1 := hYb.c1
    go_wp2_with fail
    refine (KSm.out _ hbb _ _ _ _ _ _ hVYb (by omega)).mono ?_
    rintro e wc ⟨rfl, hb⟩
    have hDc := hDb.on hb
    have hbc := hbb.trans (hb.mono hbb.size)
    clear hTb hAb hDb hYb hVYb hbb hb x0 y0 y1 z0 z1
    have x0 := hDc.c0
    go_wp2_with fail
    go_ret
    exact ⟨rfl, hbc⟩
  · clear hr
    simp only [wds, List.getD_cons_zero, List.getD_cons_succ, Int.natCast_zero, Int.natCast_one, Int.cast_ofNat_Int] at *
    go_enter Tryd.func5, Tryd.ntmps5
    go_wp2_with fail
    refine (shown_is _ (HW.out.below hb0)).mono ?_
    rintro e w1 ⟨rfl, hb⟩
    have hA1 := hA.below hb hA.lt
    have hb1 := hb0.trans (hb.mono hb0.size)
    clear hA hb0 hb
    have x0 := hA1.c0
    have x1 := hA1.c1
    go_wp2_with fail
    refine (K1.out _ hb1).mono ?_
    rintro e w2 ⟨rfl, hb⟩
    have hA2 := hA1.below hb hA1.lt
    have hb2 := hb1.trans (hb.mono hb1.size)
    clear hA1 hb1 hb x0 x1
    have x0 := hA2.c0
    have x1 := hA2.c1
    go_wp2_with fail
    refine (K2.out _ hb2).mono ?_
    rintro e w3 ⟨rfl, hb⟩
    have hA3 := hA2.below hb hA2.lt
    have hb3 := hb2.trans (hb.mono hb2.size)
    clear hA2 hb2 hb x0 x1
    have x0 := hA3.c0
    have x1 := hA3.c1
    go_wp2_with fail
    refine (KP.out _ hb3).mono ?_
    rintro e w4 ⟨a', n', c', rfl, hS, hn', hb⟩
    have hA4 := hA3.below hb hA3.lt
    have hb4 := hb3.trans (hb.mono hb3.size)
    clear hA3 hb3 hb x0 x1
    go_wp2_with fail
    have hT5 := (Tx.new 29 w4 ww a' n' c' s).alloc (.cells #[.int .i64 8, .int .i64 16, .int .i64 32, .int .i64 64] 3)
    have hbl5 := (box_below w4 (.cells #[.int .i64 ww, .slice a' n' c', .string s] 29)).alloc (by simp) (.cells #[.int .i64 8, .int .i64 16, .int .i64 32, .int .i64 64] 3)
    have hA5 := hA4.below hbl5 hA4.lt
    have hS5 := hS.below hbl5
    have hb5 := hb4.trans (hbl5.mono hb4.size)
    clear hA4 hS hb4 hbl5
    refine (KV.out _ hb5 _ _ _ hS5 hn').mono ?_
    rintro e w6 ⟨ax, nx, cx, bx, mx, dx, rfl, hX, hnx, hb⟩
    have hbl6 := box_below w6 (.cells #[.slice ax nx cx, .slice bx mx dx] 25)
    have hT6 := (hT5.on hb).on hbl6
    have hA6 := (hA5.below hb hA5.lt).below hbl6 (Nat.lt_of_lt_of_le hA5.lt hb.size)
    have hX6 := Bx.new w6 ax nx cx bx mx dx
    have hV6 := hX.below hbl6
    have hS6 := (hS5.below hb).below hbl6
    have hb6 := (hb5.trans (hb.mono hb5.size)).alloc (Nat.le_trans hb5.size hb.size) (.cells #[.slice ax nx cx, .slice bx mx dx] 25)
    have x0 := hT6.c0
    have x1 := hT6.c1
    have x2 := hT6.c2
    clear hT5 hA5 hS5 hb5 hb hbl6 hX
    go_wp2_with fail
    refine (KT.out _ hb6 _ _ _ hS6 hn').mono ?_
    rintro e w8 ⟨aw, nw, cw, rfl, hSw, hnw, hb⟩
    have hbl8 := box_below w8 (.cells #[.int .i64 32, .slice aw nw cw, .string s2] 29)
    have hT8 := (hT6.on hb).on hbl8
    have hA8 := (hA6.below hb hA6.lt).below hbl8 (Nat.lt_of_lt_of_le hA6.lt hb.size)
    have hX8 := (hX6.below hb hX6.lt).below hbl8 (Nat.lt_of_lt_of_le hX6.lt hb.size)
    have hV8 := (hV6.below hb).below hbl8
    have hS8 := (hS6.below hb).below hbl8
    have hD8 := Tx.new 29 w8 32 aw nw cw s2
    have hSw8 := hSw.below hbl8
    have hb8 := (hb6.trans (hb.mono hb6.size)).alloc (Nat.le_trans hb6.size hb.size) (.cells #[.int .i64 32, .slice aw nw cw, .string s2] 29)
    clear hT6 hA6 hX6 hV6 hS6 hb6 hb hbl8 hSw x0 x1 x2
    go_wp2_with fail
    refine (KV2.out _ hb8 _ _ _ hSw8 hnw).mono ?_
    rintro e w9 ⟨ay, ny, cy, by', my, dy, rfl, hY, hny, hb⟩
    have hbl9 := box_below w9 (.cells #[.slice ay ny cy, .slice by' my dy] 25)
    have hT9 := (hT8.on hb).on hbl9
    have hA9 := (hA8.below hb hA8.lt).below hbl9 (Nat.lt_of_lt_of_le hA8.lt hb.size)
    have hX9 := (hX8.below hb hX8.lt).below hbl9 (Nat.lt_of_lt_of_le hX8.lt hb.size)
    have hV9 := (hV8.below hb).below hbl9
    have hS9 := (hS8.below hb).below hbl9
    have hD9 := (hD8.on hb).on hbl9
    have hY9 := Bx.new w9 ay ny cy by' my dy
    have hVY9 := hY.below hbl9
    have hb9 := (hb8.trans (hb.mono hb8.size)).alloc (Nat.le_trans hb8.size hb.size) (.cells #[.slice ay ny cy, .slice by' my dy] 25)
    have x0 := hT9.c0
    have x1 := hT9.c1
    have x2 := hT9.c2
    clear hT8 hA8 hX8 hV8 hS8 hD8 hb8 hb hbl9 hY hSw8
    go_wp2_with fail
    refine (KY.out _ hb9 _ _ _ hS9).mono ?_
    rintro e wa ⟨rfl, hb⟩
    have hTa := hT9.on hb
    have hAa := hA9.below hb hA9.lt
    have hXa := hX9.below hb hX9.lt
    have hVa := hV9.below hb
    have hDa := hD9.on hb
    have hYa := hY9.below hb hY9.lt
    have hVYa := hVY9.below hb
    have hba := hb9.trans (hb.mono hb9.size)
    clear hT9 hA9 hX9 hV9 hS9 hD9 hY9 hVY9 hb9 hb x0 x1 x2
    have x0 := hXa.c0
    have x1 := hXa.c1
    have y0 := hAa.c0
    have y1 := hAa.c1
    go_wp2_with fail
    refine (KSm.out _ hba _ _ _ _ _ _ hVa (by omega)).mono ?_
    rintro e wb ⟨rfl, hb⟩
    have hTb := hTa.on hb
    have hAb := hAa.below hb hAa.lt
    have hDb := hDa.on hb
    have hYb := hYa.below hb hYa.lt
    have hVYb := hVYa.below hb
    have hbb := hba.trans (hb.mono hba.size)
    clear hTa hAa hXa hVa hDa hYa hVYa hba hb x0 x1 y0 y1
    have x0 := hTb.c0
    have y0 := hAb.c0
    have y1 := hAb.c1
    have z0 := hYb.c0
    have z1 := hYb.c1
    go_wp2_with fail
    refine (KSm.out _ hbb _ _ _ _ _ _ hVYb (by omega)).mono ?_
    rintro e wc ⟨rfl, hb⟩
    have hDc := hDb.on hb
    have hbc := hbb.trans (hb.mono hbb.size)
    clear hTb hAb hDb hYb hVYb hbb hb x0 y0 y1 z0 z1
    have x0 := hDc.c0
    go_wp2_with fail
    go_ret
    exact ⟨rfl, hbc⟩
  · clear hr
    simp only [wds, List.getD_cons_zero, List.getD_cons_succ, Int.natCast_zero, Int.natCast_one, Int.cast_ofNat_Int] at *
    go_enter Tryd.func5, Tryd.ntmps5
    go_wp2_with fail
    refine (shown_is _ (HW.out.below hb0)).mono ?_
    rintro e w1 ⟨rfl, hb⟩
    have hA1 := hA.below hb hA.lt
    have hb1 := hb0.trans (hb.mono hb0.size)
    clear hA hb0 hb
    have x0 := hA1.c0
    have x1 := hA1.c1
    go_wp2_with fail
    refine (K1.out _ hb1).mono ?_
    rintro e w2 ⟨rfl, hb⟩
    have hA2 := hA1.below hb hA1.lt
    have hb2 := hb1.trans (hb.mono hb1.size)
    clear hA1 hb1 hb x0 x1
    have x0 := hA2.c0
    have x1 := hA2.c1
    go_wp2_with fail
    refine (K2.out _ hb2).mono ?_
    rintro e w3 ⟨rfl, hb⟩
    have hA3 := hA2.below hb hA2.lt
    have hb3 := hb2.trans (hb.mono hb2.size)
    clear hA2 hb2 hb x0 x1
    have x0 := hA3.c0
    have x1 := hA3.c1
    go_wp2_with fail
    refine (KP.out _ hb3).mono ?_
    rintro e w4 ⟨a', n', c', rfl, hS, hn', hb⟩
    have hA4 := hA3.below hb hA3.lt
    have hb4 := hb3.trans (hb.mono hb3.size)
    clear hA3 hb3 hb x0 x1
    go_wp2_with fail
    have hT5 := (Tx.new 29 w4 ww a' n' c' s).alloc (.cells #[.int .i64 8, .int .i64 16, .int .i64 32, .int .i64 64] 3)
    have hbl5 := (box_below w4 (.cells #[.int .i64 ww, .slice a' n' c', .string s] 29)).alloc (by simp) (.cells #[.int .i64 8, .int .i64 16, .int .i64 32, .int .i64 64] 3)
    have hA5 := hA4.below hbl5 hA4.lt
    have hS5 := hS.below hbl5
    have hb5 := hb4.trans (hbl5.mono hb4.size)
    clear hA4 hS hb4 hbl5
    refine (KV.out _ hb5 _ _ _ hS5 hn').mono ?_
    rintro e w6 ⟨ax, nx, cx, bx, mx, dx, rfl, hX, hnx, hb⟩
    have hbl6 := box_below w6 (.cells #[.slice ax nx cx, .slice bx mx dx] 25)
    have hT6 := (hT5.on hb).on hbl6
    have hA6 := (hA5.below hb hA5.lt).below hbl6 (Nat.lt_of_lt_of_le hA5.lt hb.size)
    have hX6 := Bx.new w6 ax nx cx bx mx dx
    have hV6 := hX.below hbl6
    have hS6 := (hS5.below hb).below hbl6
    have hb6 := (hb5.trans (hb.mono hb5.size)).alloc (Nat.le_trans hb5.size hb.size) (.cells #[.slice ax nx cx, .slice bx mx dx] 25)
    have x0 := hT6.c0
    have x1 := hT6.c1
    have x2 := hT6.c2
    clear hT5 hA5 hS5 hb5 hb hbl6 hX
    go_wp2_with fail
    refine (KT.out _ hb6 _ _ _ hS6 hn').mono ?_
    rintro e w8 ⟨aw, nw, cw, rfl, hSw, hnw, hb⟩
    have hbl8 := box_below w8 (.cells #[.int .i64 64, .slice aw nw cw, .string s2] 29)
    have hT8 := (hT6.on hb).on hbl8
    have hA8 := (hA6.below hb hA6.lt).below hbl8 (Nat.lt_of_lt_of_le hA6.lt hb.size)
    have hX8 := (hX6.below hb hX6.lt).below hbl8 (Nat.lt_of_lt_of_le hX6.lt hb.size)
    have hV8 := (hV6.below hb).below hbl8
    have hS8 := (hS6.below hb).below hbl8
    have hD8 := Tx.new 29 w8 64 aw nw cw s2
    have hSw8 := hSw.below hbl8
    have hb8 := (hb6.trans (hb.mono hb6.size)).alloc (Nat.le_trans hb6.size hb.size) (.cells #[.int .i64 64, .slice aw nw cw, .string s2] 29)
    clear hT6 hA6 hX6 hV6 hS6 hb6 hb hbl8 hSw x0 x1 x2
    go_wp2_with fail
    refine (KV2.out _ hb8 _ _ _ hSw8 hnw).mono ?_
    rintro e w9 ⟨ay, ny, cy, by', my, dy, rfl, hY, hny, hb⟩
    have hbl9 := box_below w9 (.cells #[.slice ay ny cy, .slice by' my dy] 25)
    have hT9 := (hT8.on hb).on hbl9
    have hA9 := (hA8.below hb hA8.lt).below hbl9 (Nat.lt_of_lt_of_le hA8.lt hb.size)
    have hX9 := (hX8.below hb hX8.lt).below hbl9 (Nat.lt_of_lt_of_le hX8.lt hb.size)
    have hV9 := (hV8.below hb).below hbl9
    have hS9 := (hS8.below hb).below hbl9
    have hD9 := (hD8.on hb).on hbl9
    have hY9 := Bx.new w9 ay ny cy by' my dy
    have hVY9 := hY.below hbl9
    have hb9 := (hb8.trans (hb.mono hb8.size)).alloc (Nat.le_trans hb8.size hb.size) (.cells #[.slice ay ny cy, .slice by' my dy] 25)
    have x0 := hT9.c0
    have x1 := hT9.c1
    have x2 := hT9.c2
    clear hT8 hA8 hX8 hV8 hS8 hD8 hb8 hb hbl9 hY hSw8
    go_wp2_with fail
    refine (KY.out _ hb9 _ _ _ hS9).mono ?_
    rintro e wa ⟨rfl, hb⟩
    have hTa := hT9.on hb
    have hAa := hA9.below hb hA9.lt
    have hXa := hX9.below hb hX9.lt
    have hVa := hV9.below hb
    have hDa := hD9.on hb
    have hYa := hY9.below hb hY9.lt
    have hVYa := hVY9.below hb
    have hba := hb9.trans (hb.mono hb9.size)
    clear hT9 hA9 hX9 hV9 hS9 hD9 hY9 hVY9 hb9 hb x0 x1 x2
    have x0 := hXa.c0
    have x1 := hXa.c1
    have y0 := hAa.c0
    have y1 := hAa.c1
    go_wp2_with fail
    refine (KSm.out _ hba _ _ _ _ _ _ hVa (by omega)).mono ?_
    rintro e wb ⟨rfl, hb⟩
    have hTb := hTa.on hb
    have hAb := hAa.below hb hAa.lt
    have hDb := hDa.on hb
    have hYb := hYa.below hb hYa.lt
    have hVYb := hVYa.below hb
    have hbb := hba.trans (hb.mono hba.size)
    clear hTa hAa hXa hVa hDa hYa hVYa hba hb x0 x1 y0 y1
    have x0 := hTb.c0
    have y0 := hAb.c0
    have y1 := hAb.c1
    have z0 := hYb.c0
    have z1 := hYb.c1
    go_wp2_with fail
    refine (KSm.out _ hbb _ _ _ _ _ _ hVYb (by omega)).mono ?_
    rintro e wc ⟨rfl, hb⟩
    have hDc := hDb.on hb
    have hbc := hbb.trans (hb.mono hbb.size)
    clear hTb hAb hDb hYb hVYb hbb hb x0 y0 y1 z0 z1
    have x0 := hDc.c0
    go_wp2_with fail
    go_ret
    exact ⟨rfl, hbc⟩
set_option maxRecDepth 10000 in
set_option maxHeartbeats 6400000 in
theorem back_no {a b : Option Addr} {n c m d bb : Nat} {l : List Int} {es : List ByteArray} {k : Int} (W : World) (h : Vl W a n b m l es) (hz : ∀ j, j < m → (es.getD j ByteArray.empty).size ≤ maxLen) (ht : WT W) (hfew : fewB l es = true) (hmay : mayV l es = true)
    (x : Nat → Int) (hx : ∀ j, j < m → Is (es.getD j ByteArray.empty) (some (x j))) (hb : Bw (wid x m) bb) (hf : ∀ j, j < m → I64 (x j) ∧ Fit (x j) (wid x m)) (r : Nat) (hr : r < 4) (hk1 : k % 4 = (r : Int)) (hk2 : k.tmod 4 = (r : Int)) (hk0 : 0 ≤ k) (hk3 : k ≤ 255) (hfit : ¬ wid x m ≤ wds.getD r 0) :
    Calls Tryd.prog 5 #[.agg #[.slice a n c, .slice b m d], .int .u8 k] W (TrueEnd W) := by
  have hl := h.t.1
  have hn20 : n ≤ 20 := by have := (fewB_yes hfew).1; rw [h.s.1] at this; exact this
  have hm4 : m ≤ 4096 := by have := (fewB_yes hfew).2.1; rw [hl] at this; omega
  have hM := packed_may hmay hl hb x
  have hsm : (Eb bb x m).size ≤ maxLen := Eb_small hb.le.2.1 hm4
  have htx := txs_es (x := x) hl hb (fun j hj => ⟨(hx j hj).1, (hf j hj).2⟩)
  have hel : ∀ i, i < m → el (Eb bb x m) bb i = x i := fun i hi => el_encs hb hi (hf i hi).2
  have K1 := fun w (hb : Below W.heap.size W w) => Few_is (c := c) (d := d) w (h.below hb) hz
  rw [hfew] at K1
  have K2 := fun w (hb : Below W.heap.size W w) => VMay_is (c := c) (d := d) w (h.below hb) hz
  rw [hmay] at K2
  have KP := fun w (hbl : Below W.heap.size W w) => Pack_yes (c := c) (d := d) (w := wid x m) w (h.below hbl) hn20 hz (ht.below hbl) hmay x _ (fun j hj => ⟨(hx j hj).1, (hf j hj).1⟩) (wid_is hx) rfl hb
  have KV := fun w (hbl : Below W.heap.size W w) a' n' c' (hs : Sl w a' n' l) (hn : n' ≤ 20) => TVal_yes (c := c') w hs hn (ht.below hbl) hsm hM
  rw [htx] at KV
  have KY := fun w (hbl : Below W.heap.size W w) a' n' c' (hs : Sl w a' n' l) => TMay_is (w := wid x m) (s := Eb bb x m) (c := c') w hs (ht.below hbl).wid hsm
  rw [hM.yes] at KY
  have KSm := fun w (hbl : Below W.heap.size W w) a1 n1 c1 b1 m1 d1 (hv : Vl w a1 n1 b1 m1 l es) (q : n1 ≤ 1000000) => VSame_is (c1 := c1) (d1 := d1) (c2 := c) (d2 := d) w hv (h.below hbl) q (by omega)
  rw [show ((l == l) && decide (es = es)) = true by simp] at KSm
  have hW : wid x m = 8 ∨ wid x m = 16 ∨ wid x m = 32 ∨ wid x m = 64 := by unfold Bw at hb; omega
  replace K1 := Lib.hid K1
  replace K2 := Lib.hid K2
  replace KV := Lib.hid KV
  replace KY := Lib.hid KY
  replace KSm := Lib.hid KSm
  have HW := Lib.hid ht
  have hA := Bx.new W a n c b m d
  have hb0 := box_below W (.cells #[.slice a n c, .slice b m d] 25)
  obtain ⟨b2, hb2, h8⟩ := wds_is hr
  obtain ⟨j0, hj0, hfa, hnf⟩ : ∃ j, j < m ∧ (∀ i, i < j → Fit (el (Eb bb x m) bb i) (wds.getD r 0)) ∧ ¬ Fit (el (Eb bb x m) bb j) (wds.getD r 0) := by
    obtain ⟨j, hj, h1, h2⟩ := first_no (p := fun j => Fit (x j) (wds.getD r 0)) (wid_over h8 (by omega) (fun j hj => (hf j hj).1))
    exact ⟨j, hj, fun i hi => by rw [hel i (by omega)]; exact h1 i hi, by rw [hel j hj]; exact h2⟩
  have KT := fun w (hbl : Below W.heap.size W w) a' n' c' (hs : Sl w a' n' l) (hn : n' ≤ 20) => TTo_unfit (c := c') w hs hn (ht.below hbl).wid hsm hM hb2 hj0 hfa hnf
  have KV2 := fun w (hbl : Below W.heap.size W w) => TVal_no (c := 0) w (Sl.nil w none) (ht.below hbl).wid empty_small zero_may
  generalize Eb bb x m = s at *
  generalize wid x m = ww at *
  replace KP := Lib.hid KP
  replace KT := Lib.hid KT
  replace KV2 := Lib.hid KV2
  clear h hz ht hfew hmay hx hf hl hM hsm htx hel hfa hnf hj0 hb hb2 h8 hm4 hn20
  obtain rfl | rfl | rfl | rfl : r = 0 ∨ r = 1 ∨ r = 2 ∨ r = 3 := by omega
  · clear hr
    simp only [wds, List.getD_cons_zero, List.getD_cons_succ, Int.natCast_zero, Int.natCast_one, Int.cast_ofNat_Int] at *
    go_enter Tryd.func5, Tryd.ntmps5
    go_wp2_with fail
    refine (shown_is _ (HW.out.below hb0)).mono ?_
    rintro e w1 ⟨rfl, hb⟩
    have hA1 := hA.below hb hA.lt
    have hb1 := hb0.trans (hb.mono hb0.size)
    clear hA hb0 hb
    have x0 := hA1.c0
    have x1 := hA1.c1
    go_wp2_with fail
    refine (K1.out _ hb1).mono ?_
    rintro e w2 ⟨rfl, hb⟩
    have hA2 := hA1.below hb hA1.lt
    have hb2 := hb1.trans (hb.mono hb1.size)
    clear hA1 hb1 hb x0 x1
    have x0 := hA2.c0
    have x1 := hA2.c1
    go_wp2_with fail
    refine (K2.out _ hb2).mono ?_
    rintro e w3 ⟨rfl, hb⟩
    have hA3 := hA2.below hb hA2.lt
    have hb3 := hb2.trans (hb.mono hb2.size)
    clear hA2 hb2 hb x0 x1
    have x0 := hA3.c0
    have x1 := hA3.c1
    go_wp2_with fail
    refine (KP.out _ hb3).mono ?_
    rintro e w4 ⟨a', n', c', rfl, hS, hn', hb⟩
    have hA4 := hA3.below hb hA3.lt
    have hb4 := hb3.trans (hb.mono hb3.size)
    clear hA3 hb3 hb x0 x1
    go_wp2_with fail
    have hT5 := (Tx.new 29 w4 ww a' n' c' s).alloc (.cells #[.int .i64 8, .int .i64 16, .int .i64 32, .int .i64 64] 3)
    have hbl5 := (box_below w4 (.cells #[.int .i64 ww, .slice a' n' c', .string s] 29)).alloc (by simp) (.cells #[.int .i64 8, .int .i64 16, .int .i64 32, .int .i64 64] 3)
    have hA5 := hA4.below hbl5 hA4.lt
    have hS5 := hS.below hbl5
    have hb5 := hb4.trans (hbl5.mono hb4.size)
    clear hA4 hS hb4 hbl5
    refine (KV.out _ hb5 _ _ _ hS5 hn').mono ?_
    rintro e w6 ⟨ax, nx, cx, bx, mx, dx, rfl, hX, hnx, hb⟩
    have hbl6 := box_below w6 (.cells #[.slice ax nx cx, .slice bx mx dx] 25)
    have hT6 := (hT5.on hb).on hbl6
    have hA6 := (hA5.below hb hA5.lt).below hbl6 (Nat.lt_of_lt_of_le hA5.lt hb.size)
    have hX6 := Bx.new w6 ax nx cx bx mx dx
    have hV6 := hX.below hbl6
    have hS6 := (hS5.below hb).below hbl6
    have hb6 := (hb5.trans (hb.mono hb5.size)).alloc (Nat.le_trans hb5.size hb.size) (.cells #[.slice ax nx cx, .slice bx mx dx] 25)
    have x0 := hT6.c0
    have x1 := hT6.c1
    have x2 := hT6.c2
    clear hT5 hA5 hS5 hb5 hb hbl6 hX
    go_wp2_with fail
    refine (KT.out _ hb6 _ _ _ hS6 hn').mono ?_
    rintro e w8 ⟨rfl, hb⟩
    have hbl8 := box_below w8 (.cells #[.int .i64 0, .slice none 0 0, .string ⟨#[]⟩] 29)
    have hT8 := (hT6.on hb).on hbl8
    have hA8 := (hA6.below hb hA6.lt).below hbl8 (Nat.lt_of_lt_of_le hA6.lt hb.size)
    have hX8 := (hX6.below hb hX6.lt).below hbl8 (Nat.lt_of_lt_of_le hX6.lt hb.size)
    have hV8 := (hV6.below hb).below hbl8
    have hS8 := (hS6.below hb).below hbl8
    have hb8 := (hb6.trans (hb.mono hb6.size)).alloc (Nat.le_trans hb6.size hb.size) (.cells #[.int .i64 0, .slice none 0 0, .string ⟨#[]⟩] 29)
    clear hT6 hA6 hX6 hV6 hS6 hb6 hb hbl8 x0 x1 x2
    go_wp2_with fail
    refine (KV2.out _ hb8).mono ?_
    rintro e w9 ⟨rfl, hb⟩
    have hbl9 := box_below w9 (.cells #[.slice none 0 0, .slice none 0 0] 25)
    have hT9 := (hT8.on hb).on hbl9
    have hA9 := (hA8.below hb hA8.lt).below hbl9 (Nat.lt_of_lt_of_le hA8.lt hb.size)
    have hX9 := (hX8.below hb hX8.lt).below hbl9 (Nat.lt_of_lt_of_le hX8.lt hb.size)
    have hV9 := (hV8.below hb).below hbl9
    have hS9 := (hS8.below hb).below hbl9
    have hb9 := (hb8.trans (hb.mono hb8.size)).alloc (Nat.le_trans hb8.size hb.size) (.cells #[.slice none 0 0, .slice none 0 0] 25)
    have x0 := hT9.c0
    have x1 := hT9.c1
    have x2 := hT9.c2
    clear hT8 hA8 hX8 hV8 hS8 hb8 hb hbl9
    go_wp2_with fail
    refine (KY.out _ hb9 _ _ _ hS9).mono ?_
    rintro e wa ⟨rfl, hb⟩
    have hTa := hT9.on hb
    have hAa := hA9.below hb hA9.lt
    have hXa := hX9.below hb hX9.lt
    have hVa := hV9.below hb
    have hba := hb9.trans (hb.mono hb9.size)
    clear hT9 hA9 hX9 hV9 hS9 hb9 hb x0 x1 x2
    have x0 := hXa.c0
    have x1 := hXa.c1
    have y0 := hAa.c0
    have y1 := hAa.c1
    go_wp2_with fail
    refine (KSm.out _ hba _ _ _ _ _ _ hVa (by omega)).mono ?_
    rintro e wb ⟨rfl, hb⟩
    have hTb := hTa.on hb
    have hbb := hba.trans (hb.mono hba.size)
    clear hTa hAa hXa hVa hba hb x0 x1 y0 y1
    have x0 := hTb.c0
    go_wp2_with fail
    go_ret
    refine ⟨?_, hbb⟩
    show Ending.returned (.bool (!decide (ww ≤ 8))) = _
    rw [decide_eq_false (by omega)]; rfl
  · clear hr
    simp only [wds, List.getD_cons_zero, List.getD_cons_succ, Int.natCast_zero, Int.natCast_one, Int.cast_ofNat_Int] at *
    go_enter Tryd.func5, Tryd.ntmps5
    go_wp2_with fail
    refine (shown_is _ (HW.out.below hb0)).mono ?_
    rintro e w1 ⟨rfl, hb⟩
    have hA1 := hA.below hb hA.lt
    have hb1 := hb0.trans (hb.mono hb0.size)
    clear hA hb0 hb
    have x0 := hA1.c0
    have x1 := hA1.c1
    go_wp2_with fail
    refine (K1.out _ hb1).mono ?_
    rintro e w2 ⟨rfl, hb⟩
    have hA2 := hA1.below hb hA1.lt
    have hb2 := hb1.trans (hb.mono hb1.size)
    clear hA1 hb1 hb x0 x1
    have x0 := hA2.c0
    have x1 := hA2.c1
    go_wp2_with fail
    refine (K2.out _ hb2).mono ?_
    rintro e w3 ⟨rfl, hb⟩
    have hA3 := hA2.below hb hA2.lt
    have hb3 := hb2.trans (hb.mono hb2.size)
    clear hA2 hb2 hb x0 x1
    have x0 := hA3.c0
    have x1 := hA3.c1
    go_wp2_with fail
    refine (KP.out _ hb3).mono ?_
    rintro e w4 ⟨a', n', c', rfl, hS, hn', hb⟩
    have hA4 := hA3.below hb hA3.lt
    have hb4 := hb3.trans (hb.mono hb3.size)
    clear hA3 hb3 hb x0 x1
    go_wp2_with fail
    have hT5 := (Tx.new 29 w4 ww a' n' c' s).alloc (.cells #[.int .i64 8, .int .i64 16, .int .i64 32, .int .i64 64] 3)
    have hbl5 := (box_below w4 (.cells #[.int .i64 ww, .slice a' n' c', .string s] 29)).alloc (by simp) (.cells #[.int .i64 8, .int .i64 16, .int .i64 32, .int .i64 64] 3)
    have hA5 := hA4.below hbl5 hA4.lt
    have hS5 := hS.below hbl5
    have hb5 := hb4.trans (hbl5.mono hb4.size)
    clear hA4 hS hb4 hbl5
    refine (KV.out _ hb5 _ _ _ hS5 hn').mono ?_
    rintro e w6 ⟨ax, nx, cx, bx, mx, dx, rfl, hX, hnx, hb⟩
    have hbl6 := box_below w6 (.cells #[.slice ax nx cx, .slice bx mx dx] 25)
    have hT6 := (hT5.on hb).on hbl6
    have hA6 := (hA5.below hb hA5.lt).below hbl6 (Nat.lt_of_lt_of_le hA5.lt hb.size)
    have hX6 := Bx.new w6 ax nx cx bx mx dx
    have hV6 := hX.below hbl6
    have hS6 := (hS5.below hb).below hbl6
    have hb6 := (hb5.trans (hb.mono hb5.size)).alloc (Nat.le_trans hb5.size hb.size) (.cells #[.slice ax nx cx, .slice bx mx dx] 25)
    have x0 := hT6.c0
    have x1 := hT6.c1
    have x2 := hT6.c2
    clear hT5 hA5 hS5 hb5 hb hbl6 hX
    go_wp2_with fail
    refine (KT.out _ hb6 _ _ _ hS6 hn').mono ?_
    rintro e w8 ⟨rfl, hb⟩
    have hbl8 := box_below w8 (.cells #[.int .i64 0, .slice none 0 0, .string ⟨#[]⟩] 29)
    have hT8 := (hT6.on hb).on hbl8
    have hA8 := (hA6.below hb hA6.lt).below hbl8 (Nat.lt_of_lt_of_le hA6.lt hb.size)
    have hX8 := (hX6.below hb hX6.lt).below hbl8 (Nat.lt_of_lt_of_le hX6.lt hb.size)
    have hV8 := (hV6.below hb).below hbl8
    have hS8 := (hS6.below hb).below hbl8
    have hb8 := (hb6.trans (hb.mono hb6.size)).alloc (Nat.le_trans hb6.size hb.size) (.cells #[.int .i64 0, .slice none 0 0, .string ⟨#[]⟩] 29)
    clear hT6 hA6 hX6 hV6 hS6 hb6 hb hbl8 x0 x1 x2
    go_wp2_with fail
    refine (KV2.out _ hb8).mono ?_
    rintro e w9 ⟨rfl, hb⟩
    have hbl9 := box_below w9 (.cells #[.slice none 0 0, .slice none 0 0] 25)
    have hT9 := (hT8.on hb).on hbl9
    have hA9 := (hA8.below hb hA8.lt).below hbl9 (Nat.lt_of_lt_of_le hA8.lt hb.size)
    have hX9 := (hX8.below hb hX8.lt).below hbl9 (Nat.lt_of_lt_of_le hX8.lt hb.size)
    have hV9 := (hV8.below hb).below hbl9
    have hS9 := (hS8.below hb).below hbl9
    have hb9 := (hb8.trans (hb.mono hb8.size)).alloc (Nat.le_trans hb8.size hb.size) (.cells #[.slice none 0 0, .slice none 0 0] 25)
    have x0 := hT9.c0
    have x1 := hT9.c1
    have x2 := hT9.c2
    clear hT8 hA8 hX8 hV8 hS8 hb8 hb hbl9
    go_wp2_with fail
    refine (KY.out _ hb9 _ _ _ hS9).mono ?_
    rintro e wa ⟨rfl, hb⟩
    have hTa := hT9.on hb
    have hAa := hA9.below hb hA9.lt
    have hXa := hX9.below hb hX9.lt
    have hVa := hV9.below hb
    have hba := hb9.trans (hb.mono hb9.size)
    clear hT9 hA9 hX9 hV9 hS9 hb9 hb x0 x1 x2
    have x0 := hXa.c0
    have x1 := hXa.c1
    have y0 := hAa.c0
    have y1 := hAa.c1
    go_wp2_with fail
    refine (KSm.out _ hba _ _ _ _ _ _ hVa (by omega)).mono ?_
    rintro e wb ⟨rfl, hb⟩
    have hTb := hTa.on hb
    have hbb := hba.trans (hb.mono hba.size)
    clear hTa hAa hXa hVa hba hb x0 x1 y0 y1
    have x0 := hTb.c0
    go_wp2_with fail
    go_ret
    refine ⟨?_, hbb⟩
    show Ending.returned (.bool (!decide (ww ≤ 16))) = _
    rw [decide_eq_false (by omega)]; rfl
  · clear hr
    simp only [wds, List.getD_cons_zero, List.getD_cons_succ, Int.natCast_zero, Int.natCast_one, Int.cast_ofNat_Int] at *
    go_enter Tryd.func5, Tryd.ntmps5
    go_wp2_with fail
    refine (shown_is _ (HW.out.below hb0)).mono ?_
    rintro e w1 ⟨rfl, hb⟩
    have hA1 := hA.below hb hA.lt
    have hb1 := hb0.trans (hb.mono hb0.size)
    clear hA hb0 hb
    have x0 := hA1.c0
    have x1 := hA1.c1
    go_wp2_with fail
    refine (K1.out _ hb1).mono ?_
    rintro e w2 ⟨rfl, hb⟩
    have hA2 := hA1.below hb hA1.lt
    have hb2 := hb1.trans (hb.mono hb1.size)
    clear hA1 hb1 hb x0 x1
    have x0 := hA2.c0
    have x1 := hA2.c1
    go_wp2_with fail
    refine (K2.out _ hb2).mono ?_
    rintro e w3 ⟨rfl, hb⟩
    have hA3 := hA2.below hb hA2.lt
    have hb3 := hb2.trans (hb.mono hb2.size)
    clear hA2 hb2 hb x0 x1
    have x0 := hA3.c0
    have x1 := hA3.c1
    go_wp2_with fail
    refine (KP.out _ hb3).mono ?_
    rintro e w4 ⟨a', n', c', rfl, hS, hn', hb⟩
    have hA4 := hA3.below hb hA3.lt
    have hb4 := hb3.trans (hb.mono hb3.size)
    clear hA3 hb3 hb x0 x1
    go_wp2_with fail
    have hT5 := (Tx.new 29 w4 ww a' n' c' s).alloc (.cells #[.int .i64 8, .int .i64 16, .int .i64 32, .int .i64 64] 3)
    have hbl5 := (box_below w4 (.cells #[.int .i64 ww, .slice a' n' c', .string s] 29)).alloc (by simp) (.cells #[.int .i64 8, .int .i64 16, .int .i64 32, .int .i64 64] 3)
    have hA5 := hA4.below hbl5 hA4.lt
    have hS5 := hS.below hbl5
    have hb5 := hb4.trans (hbl5.mono hb4.size)
    clear hA4 hS hb4 hbl5
    refine (KV.out _ hb5 _ _ _ hS5 hn').mono ?_
    rintro e w6 ⟨ax, nx, cx, bx, mx, dx, rfl, hX, hnx, hb⟩
    have hbl6 := box_below w6 (.cells #[.slice ax nx cx, .slice bx mx dx] 25)
    have hT6 := (hT5.on hb).on hbl6
    have hA6 := (hA5.below hb hA5.lt).below hbl6 (Nat.lt_of_lt_of_le hA5.lt hb.size)
    have hX6 := Bx.new w6 ax nx cx bx mx dx
    have hV6 := hX.below hbl6
    have hS6 := (hS5.below hb).below hbl6
    have hb6 := (hb5.trans (hb.mono hb5.size)).alloc (Nat.le_trans hb5.size hb.size) (.cells #[.slice ax nx cx, .slice bx mx dx] 25)
    have x0 := hT6.c0
    have x1 := hT6.c1
    have x2 := hT6.c2
    clear hT5 hA5 hS5 hb5 hb hbl6 hX
    go_wp2_with fail
    refine (KT.out _ hb6 _ _ _ hS6 hn').mono ?_
    rintro e w8 ⟨rfl, hb⟩
    have hbl8 := box_below w8 (.cells #[.int .i64 0, .slice none 0 0, .string ⟨#[]⟩] 29)
    have hT8 := (hT6.on hb).on hbl8
    have hA8 := (hA6.below hb hA6.lt).below hbl8 (Nat.lt_of_lt_of_le hA6.lt hb.size)
    have hX8 := (hX6.below hb hX6.lt).below hbl8 (Nat.lt_of_lt_of_le hX6.lt hb.size)
    have hV8 := (hV6.below hb).below hbl8
    have hS8 := (hS6.below hb).below hbl8
    have hb8 := (hb6.trans (hb.mono hb6.size)).alloc (Nat.le_trans hb6.size hb.size) (.cells #[.int .i64 0, .slice none 0 0, .string ⟨#[]⟩] 29)
    clear hT6 hA6 hX6 hV6 hS6 hb6 hb hbl8 x0 x1 x2
    go_wp2_with fail
    refine (KV2.out _ hb8).mono ?_
    rintro e w9 ⟨rfl, hb⟩
    have hbl9 := box_below w9 (.cells #[.slice none 0 0, .slice none 0 0] 25)
    have hT9 := (hT8.on hb).on hbl9
    have hA9 := (hA8.below hb hA8.lt).below hbl9 (Nat.lt_of_lt_of_le hA8.lt hb.size)
    have hX9 := (hX8.below hb hX8.lt).below hbl9 (Nat.lt_of_lt_of_le hX8.lt hb.size)
    have hV9 := (hV8.below hb).below hbl9
    have hS9 := (hS8.below hb).below hbl9
    have hb9 := (hb8.trans (hb.mono hb8.size)).alloc (Nat.le_trans hb8.size hb.size) (.cells #[.slice none 0 0, .slice none 0 0] 25)
    have x0 := hT9.c0
    have x1 := hT9.c1
    have x2 := hT9.c2
    clear hT8 hA8 hX8 hV8 hS8 hb8 hb hbl9
    go_wp2_with fail
    refine (KY.out _ hb9 _ _ _ hS9).mono ?_
    rintro e wa ⟨rfl, hb⟩
    have hTa := hT9.on hb
    have hAa := hA9.below hb hA9.lt
    have hXa := hX9.below hb hX9.lt
    have hVa := hV9.below hb
    have hba := hb9.trans (hb.mono hb9.size)
    clear hT9 hA9 hX9 hV9 hS9 hb9 hb x0 x1 x2
    have x0 := hXa.c0
    have x1 := hXa.c1
    have y0 := hAa.c0
    have y1 := hAa.c1
    go_wp2_with fail
    refine (KSm.out _ hba _ _ _ _ _ _ hVa (by omega)).mono ?_
    rintro e wb ⟨rfl, hb⟩
    have hTb := hTa.on hb
    have hbb := hba.trans (hb.mono hba.size)
    clear hTa hAa hXa hVa hba hb x0 x1 y0 y1
    have x0 := hTb.c0
    go_wp2_with fail
    go_ret
    refine ⟨?_, hbb⟩
    show Ending.returned (.bool (!decide (ww ≤ 32))) = _
    rw [decide_eq_false (by omega)]; rfl
  · rw [show wds.getD 3 0 = 64 from rfl] at hfit
    omega
theorem u8_mod {k : Int} (h0 : 0 ≤ k) : ∃ r : Nat, r < 4 ∧ k % 4 = (r : Int) ∧ k.tmod 4 = (r : Int) := by
  have h : k.tmod 4 = k % 4 := Int.tmod_eq_emod_of_nonneg h0
  exact ⟨(k % 4).toNat, by omega, by omega, by omega⟩
set_option maxRecDepth 10000 in
set_option maxHeartbeats 1600000 in
theorem back_any {a b : Option Addr} {n c m d : Nat} {l : List Int} {es : List ByteArray} {k : Int} (W : World) (h : Vl W a n b m l es) (hz : ∀ j, j < m → (es.getD j ByteArray.empty).size ≤ maxLen) (ht : WT W) (hk0 : 0 ≤ k) (hk3 : k ≤ 255) :
    Calls Tryd.prog 5 #[.agg #[.slice a n c, .slice b m d], .int .u8 k] W (TrueEnd W) := by
  have hl := h.t.1
  have HW := Lib.hid ht
  have hA := Bx.new W a n c b m d
  have hb0 := box_below W (.cells #[.slice a n c, .slice b m d] 25)
  have K1 := fun w (hb : Below W.heap.size W w) => Few_is (c := c) (d := d) w (h.below hb) hz
  rcases Bool.eq_false_or_eq_true (fewB l es) with hfew | hfew
  · rw [hfew] at K1
    replace K1 := Lib.hid K1
    have K2 := fun w (hb : Below W.heap.size W w) => VMay_is (c := c) (d := d) w (h.below hb) hz
    rcases Bool.eq_false_or_eq_true (mayV l es) with hmay | hmay
    · obtain ⟨x, hx⟩ := may_numbers hmay
      rw [hl] at hx
      rcases wid_cases x m with h128 | ⟨bb, hb, hf⟩
      · rw [hmay] at K2
        replace K2 := Lib.hid K2
        have KP := Lib.hid (fun w (hbl : Below W.heap.size W w) => Pack_big (c := c) (d := d) w (h.below hbl) hz (ht.below hbl) hmay _ (wid_is hx) h128)
        have KW := fun w (hbl : Below W.heap.size W w) => Width_is (c := c) (d := d) w (h.below hbl) (ht.below hbl) _ (wid_is hx)
        rw [show wmax (fun j => leastO (some (x j))) m = 128 from h128] at KW
        replace KW := Lib.hid KW
        clear h hz ht hfew hmay hx hl h128 hk0 hk3
        go_enter Tryd.func5, Tryd.ntmps5
        go_wp2_with fail
        refine (shown_is _ (HW.out.below hb0)).mono ?_
        rintro e w1 ⟨rfl, hb⟩
        have hA1 := hA.below hb hA.lt
        have hb1 := hb0.trans (hb.mono hb0.size)
        clear hA hb0 hb
        have x0 := hA1.c0
        have x1 := hA1.c1
        go_wp2_with fail
        refine (K1.out _ hb1).mono ?_
        rintro e w2 ⟨rfl, hb⟩
        have hA2 := hA1.below hb hA1.lt
        have hb2 := hb1.trans (hb.mono hb1.size)
        clear hA1 hb1 hb x0 x1
        have x0 := hA2.c0
        have x1 := hA2.c1
        go_wp2_with fail
        refine (K2.out _ hb2).mono ?_
        rintro e w3 ⟨rfl, hb⟩
        have hA3 := hA2.below hb hA2.lt
        have hb3 := hb2.trans (hb.mono hb2.size)
        clear hA2 hb2 hb x0 x1
        have x0 := hA3.c0
        have x1 := hA3.c1
        go_wp2_with fail
        refine (KP.out _ hb3).mono ?_
        rintro e w4 ⟨rfl, hb⟩
        have hbl := box_below w4 (.cells #[.int .i64 0, .slice none 0 0, .string ⟨#[]⟩] 29)
        have hA4 := (hA3.below hb hA3.lt).below hbl (Nat.lt_of_lt_of_le hA3.lt hb.size)
        have hb4 := (hb3.trans (hb.mono hb3.size)).alloc (Nat.le_trans hb3.size hb.size) (.cells #[.int .i64 0, .slice none 0 0, .string ⟨#[]⟩] 29)
        clear hA3 hb3 hb hbl x0 x1
        have x0 := hA4.c0
        have x1 := hA4.c1
        go_wp2_with fail
        refine (KW.out _ hb4).mono ?_
        rintro e w5 ⟨rfl, hb⟩
        go_wp2_with fail
        go_ret
        exact ⟨rfl, hb4.trans (hb.mono hb4.size)⟩
      · obtain ⟨r, hr, hk1, hk2⟩ := u8_mod hk0
        by_cases hfit : wid x m ≤ wds.getD r 0
        · exact back_yes W h hz ht hfew hmay x hx hb hf r hr hk1 hk2 hk0 hk3 hfit
        · exact back_no W h hz ht hfew hmay x hx hb hf r hr hk1 hk2 hk0 hk3 hfit
    · rw [hmay] at K2
      replace K2 := Lib.hid K2
      clear h hz ht hfew hmay hl hk0 hk3
      go_enter Tryd.func5, Tryd.ntmps5
      go_wp2_with fail
      refine (shown_is _ (HW.out.below hb0)).mono ?_
      rintro e w1 ⟨rfl, hb⟩
      have hA1 := hA.below hb hA.lt
      have hb1 := hb0.trans (hb.mono hb0.size)
      clear hA hb0 hb
      have x0 := hA1.c0
      have x1 := hA1.c1
      go_wp2_with fail
      refine (K1.out _ hb1).mono ?_
      rintro e w2 ⟨rfl, hb⟩
      have hA2 := hA1.below hb hA1.lt
      have hb2 := hb1.trans (hb.mono hb1.size)
      clear hA1 hb1 hb x0 x1
      have x0 := hA2.c0
      have x1 := hA2.c1
      go_wp2_with fail
      refine (K2.out _ hb2).mono ?_
      rintro e w3 ⟨rfl, hb⟩
      go_wp2_with fail
      go_ret
      exact ⟨rfl, hb2.trans (hb.mono hb2.size)⟩
  · rw [hfew] at K1
    replace K1 := Lib.hid K1
    clear h hz ht hfew hl hk0 hk3
    go_enter Tryd.func5, Tryd.ntmps5
    go_wp2_with fail
    refine (shown_is _ (HW.out.below hb0)).mono ?_
    rintro e w1 ⟨rfl, hb⟩
    have hA1 := hA.below hb hA.lt
    have hb1 := hb0.trans (hb.mono hb0.size)
    clear hA hb0 hb
    have x0 := hA1.c0
    have x1 := hA1.c1
    go_wp2_with fail
    refine (K1.out _ hb1).mono ?_
    rintro e w2 ⟨rfl, hb⟩
    go_wp2_with fail
    go_ret
    exact ⟨rfl, hb1.trans (hb.mono hb1.size)⟩
end Go.Proofs.YtdehcdnbalbdbaaDoor

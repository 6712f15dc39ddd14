/-
  The reference's lay and Pack, by their contracts; TypedPacks at every array.
-/
import Derived.Test.YtdehcdnbalbdbaaDoorTr
import Derived.Deep.RegionWith
namespace Go.Proofs.YtdehcdnbalbdbaaDoor
open Go.RowKit

theorem Tx.set2 {t : TypeId} {W : World} {g : Nat} {w : Int} {a : Option Addr} {n c : Nat} {s : ByteArray} (h : Tx t W g w a n c s) (s' : ByteArray) : Tx t (W.setCell ⟨g, 2, none⟩ (.string s')) g w a n c s' := by
  unfold Tx at h ⊢
  simp [World.setCell, Array.getElem?_modify, h]
def AggEnd (v : Value) (W : World) (e : Ending) (W' : World) : Prop := e = .returned v ∧ Below W.heap.size W W'
theorem Eb_step {b : Nat} {f : Nat → Int} {k : Nat} {x : Int} (h : x = f k) : Eb b f k ++ B (enc b x) = Eb b f (k + 1) := by
  show B (encs b f k) ++ B (enc b x) = B (encs b f (k + 1))
  rw [B_append, h]; rfl
set_option maxRecDepth 10000 in
set_option maxHeartbeats 3200000 in
theorem rLay_is {w : Int} {a b : Option Addr} {n c m d bb : Nat} {l : List Int} {es : List ByteArray} {f : Nat → Int} (W : World) (h : Vl W a n b m l es) (hb : Bw w bb) (hm : m ≤ 4096) (hf : ∀ j, j < m → es.getD j ByteArray.empty = S (f j) ∧ I64 (f j)) :
    Calls Tryd.prog 36 #[.agg #[.slice a n c, .slice b m d], .int .i64 w] W (AggEnd (.agg #[.int .i64 w, .slice a n c, .string (Eb bb f m)]) W) := by
  obtain ⟨hb1, hb8, hw8, hwd⟩ := hb.le
  have hw0 : 0 ≤ w := by omega
  have hw9 : w ≤ 64 := by omega
  have hwt : w.tdiv 8 = bb := by rw [Int.tdiv_eq_ediv_of_nonneg hw0]; exact hwd
  have HQ := Lib.hid (show IntKind.i64.wrap (bb : Int) = bb from IntWalk.i64_in _ (by omega))
  have HT := Lib.hid h.t
  have HF := Lib.hid hf
  have hA := ((Bx.new W a n c b m d).alloc (.cells #[.int .i64 0, .slice none 0 0, .string ⟨#[]⟩] 33)).alloc (.cells #[.int .i64 w, .slice a n c, .string ⟨#[]⟩] 33)
  have s1 : (W.alloc (.cells #[.slice a n c, .slice b m d] 25)).heap.size = W.heap.size + 1 := by simp
  have s2 : ((W.alloc (.cells #[.slice a n c, .slice b m d] 25)).alloc (.cells #[.int .i64 0, .slice none 0 0, .string ⟨#[]⟩] 33)).heap.size = W.heap.size + 1 + 1 := by simp
  have hR := (Tx.new' 33 (W.alloc (.cells #[.slice a n c, .slice b m d] 25)) s1.symm 0 none 0 0 ⟨#[]⟩).alloc (.cells #[.int .i64 w, .slice a n c, .string ⟨#[]⟩] 33)
  have hT := Tx.new' 33 ((W.alloc (.cells #[.slice a n c, .slice b m d] 25)).alloc (.cells #[.int .i64 0, .slice none 0 0, .string ⟨#[]⟩] 33)) s2.symm w a n c ⟨#[]⟩
  have hbl := ((box_below W (.cells #[.slice a n c, .slice b m d] 25)).alloc (by omega) (.cells #[.int .i64 0, .slice none 0 0, .string ⟨#[]⟩] 33)).alloc (by omega) (.cells #[.int .i64 w, .slice a n c, .string ⟨#[]⟩] 33)
  clear h hb hf hw8 s1 s2
  go_enter Tryd.func36, Tryd.ntmps36
  go_wp2_with fail
  go_loopw [6] (fun iv wr => ∃ k : Nat, iv = .int .i64 k ∧ k ≤ m ∧ Bx wr W.heap.size a n c b m d ∧ Tx 33 wr (W.heap.size + 1) 0 none 0 0 ⟨#[]⟩ ∧ Tx 33 wr (W.heap.size + 1 + 1) w a n c (Eb bb f k) ∧ Below W.heap.size W wr) (fun iv _ => m - (intOf iv).toNat)
  case atStart => exact ⟨0, rfl, by omega, hA, hR, hT, hbl⟩
  case round =>
    obtain ⟨k, rfl, hk, hA1, hR1, hT1, hb1⟩ := hrel
    clear hA hR hT hbl
    have x1 := hA1.c1
    by_cases hlt : k < m
    · have e2 : (k : Int) < (m : Int) := by omega
      obtain ⟨gb, off, rfl, hc⟩ := HT.out.2 (by omega)
      have hck := (hb1.cell (p := ⟨gb, off + k, none⟩) (World.block_lt_of_cell? W _ (hc k hlt))).trans (hc k hlt)
      obtain ⟨hfs, hfi⟩ := HF.out k hlt
      rw [hfs] at hck
      have KI := rInt_opt (s := S (f k)) (o := some (f k)) ⟨rfl, lim_i64 hfi.1 hfi.2⟩
      rw [show intO (some (f k)) = (f k, true) from if_pos hfi] at KI
      have KPt := Lib.hid (fun w' => put_is (f k) bb hfi hb8 w')
      obtain ⟨nxt, hnxt⟩ : ∃ nxt, nxt = Eb bb f (k + 1) := ⟨_, rfl⟩
      have HE := Lib.hid (show Eb bb f k ++ B (enc bb (f k)) = nxt by rw [hnxt]; exact Eb_step rfl)
      have HN := Lib.hid hnxt
      have hes : (Eb bb f k).size ≤ 32768 := by rw [Eb_size]; have : k * bb ≤ 4096 * 8 := Nat.mul_le_mul (by omega) hb8; omega
      have hps : (B (enc bb (f k))).size ≤ 8 := by rw [B_size, enc_len]; exact hb8
      replace KI := Lib.hid KI
      clear hc hfs hfi hnxt
      generalize B (enc bb (f k)) = ps at *
      generalize f k = x at hck KI KPt
      generalize Eb bb f k = cur at *
      go_wp2_with fail
      refine (KI.out _).mono ?_
      rintro e w2 ⟨rfl, hb⟩
      have hA2 := hA1.below hb hA1.lt
      have hR2 := hR1.on hb
      have HT2 := Lib.hid (hT1.on hb)
      have hb2 := hb1.trans (hb.mono hb1.size)
      clear hA1 hR1 hT1 hb1 hb x1 hck
      have x2 := HT2.out.c2
      have d2 : w2.drew.cell? ⟨W.heap.size + 1 + 1, 2, none⟩ = _ := x2
      have hq := HQ.out
      go_upto_region 6 with fail
      go_region_with (go_at_call 59; refine (KPt.out _).mono ?_; rintro e w9 ⟨rfl, hb9⟩; have hr9 : Below w2.heap.size w2 w9 := (by first | exact hb9 | exact (Below.refl _ _).drew.trans hb9); have hB9 := HT2.out.on hr9; have y2 := hB9.c2; have f2 := hB9.f 2)
      all_goals
        have hT9 := hB9.set2 (cur ++ ps)
        rw [HE.out] at hT9
        have hA9 := (hA2.below hr9 hA2.lt).setOther (p := ⟨W.heap.size + 1 + 1, 2, none⟩) (show W.heap.size ≠ W.heap.size + 1 + 1 by omega) (.string nxt)
        have hR9 := (hR2.on hr9).setOther (p := ⟨W.heap.size + 1 + 1, 2, none⟩) (show W.heap.size + 1 ≠ W.heap.size + 1 + 1 by omega) (.string nxt)
        have hbz := (hb2.trans (hr9.mono hb2.size)).setCell (p := ⟨W.heap.size + 1 + 1, 2, none⟩) (show W.heap.size ≤ W.heap.size + 1 + 1 by omega) (.string nxt)
        rw [HE.out]
        clear hq hA2 hR2 hb2 x2 d2 hB9 y2 f2 hb9 hr9
        go_wp2_with fail
        go_roundw
        case rel => exact ⟨k + 1, by go_num, by omega, hA9, hR9, by rw [← HN.out]; exact hT9, hbz⟩
        case measure => simp [intOf]; omega
    · have e2 : ¬ (k : Int) < (m : Int) := by omega
      obtain rfl : k = m := by omega
      have y0 := hT1.c0
      have y1 := hT1.c1
      have y2 := hT1.c2
      have z0 := hR1.c0
      have z1 := hR1.c1
      have z2 := hR1.c2
      have f0 := hR1.f 0
      have f1 := hR1.f 1
      have f2 := hR1.f 2
      go_wp2_with fail
      have hB4 := hR1.set w a n c (Eb bb f k)
      have r0 := hB4.c0
      have r1 := hB4.c1
      have r2 := hB4.c2
      exact bodyPost_ret (v := .agg #[.int .i64 w, .slice a n c, .string (Eb bb f k)]) (by simp [results, Tryd.results36, go_sem, r0, r1, r2]) rfl ⟨rfl, below_made3 hb1 (by omega) _ _ _⟩

/-! ### Pack -/
set_option maxRecDepth 10000 in
set_option maxHeartbeats 1600000 in
theorem rPack_arg {a b : Option Addr} {n c m d : Nat} {l : List Int} {es : List ByteArray} (W : World) (h : Vl W a n b m l es) (hz : ∀ j, j < m → (es.getD j ByteArray.empty).size ≤ maxLen) (hmay : mayV l es = false) :
    Calls Tryd.prog 12 #[.agg #[.slice a n c, .slice b m d]] W (TzEnd (.int .i64 1) W) := by
  have K1 := fun w' (hb : Below W.heap.size W w') => rVMay_is (c := c) (d := d) w' (h.below hb) hz
  rw [hmay] at K1
  replace K1 := Lib.hid K1
  have s1 : (W.alloc (.cells #[.slice a n c, .slice b m d] 25)).heap.size = W.heap.size + 1 := by simp
  have hB := Tx.new' 33 (W.alloc (.cells #[.slice a n c, .slice b m d] 25)) s1.symm 0 none 0 0 ⟨#[]⟩
  have hb0 := (box_below W (.cells #[.slice a n c, .slice b m d] 25)).alloc (by omega) (.cells #[.int .i64 0, .slice none 0 0, .string ⟨#[]⟩] 33)
  clear h hz s1 hmay
  go_enter Tryd.func12, Tryd.ntmps12
  go_wp2_with fail
  refine (K1.out _ hb0).mono ?_
  rintro e w1 ⟨rfl, hb⟩
  have hB1 := hB.on hb
  have hb1 := hb0.trans (hb.mono hb0.size)
  have y0 := hB1.c0
  have y1 := hB1.c1
  have y2 := hB1.c2
  have f0 := hB1.f 0
  have f1 := hB1.f 1
  have f2 := hB1.f 2
  clear hB hb0 hb
  go_wp2_with fail
  have hB4 := hB1.set 0 none 0 0 ⟨#[]⟩
  have r0 := hB4.c0
  have r1 := hB4.c1
  have r2 := hB4.c2
  exact bodyPost_ret (v := .tuple #[.agg #[.int .i64 0, .slice none 0 0, .string ⟨#[]⟩], .int .i64 1]) (by simp [results, Tryd.results12, go_sem, r0, r1, r2]) rfl ⟨rfl, below_made3 hb1 (by omega) _ _ _⟩
set_option maxRecDepth 10000 in
set_option maxHeartbeats 1600000 in
theorem rPack_big {a b : Option Addr} {n c m d : Nat} {l : List Int} {es : List ByteArray} (W : World) (h : Vl W a n b m l es) (hz : ∀ j, j < m → (es.getD j ByteArray.empty).size ≤ maxLen) (hmay : mayV l es = true) (g : Nat → Int) (hg : RWidIs es m g) (hw : wmax g m = 128) :
    Calls Tryd.prog 12 #[.agg #[.slice a n c, .slice b m d]] W (TzEnd (.int .i64 8) W) := by
  have K1 := fun w' (hb : Below W.heap.size W w') => rVMay_is (c := c) (d := d) w' (h.below hb) hz
  rw [hmay] at K1
  have K2 := fun w' (hb : Below W.heap.size W w') => rWidth_is (c := c) (d := d) w' (h.below hb) g hg
  rw [hw] at K2
  replace K1 := Lib.hid K1
  replace K2 := Lib.hid K2
  have hA := (Bx.new W a n c b m d).alloc (.cells #[.int .i64 0, .slice none 0 0, .string ⟨#[]⟩] 33)
  have s1 : (W.alloc (.cells #[.slice a n c, .slice b m d] 25)).heap.size = W.heap.size + 1 := by simp
  have hB := Tx.new' 33 (W.alloc (.cells #[.slice a n c, .slice b m d] 25)) s1.symm 0 none 0 0 ⟨#[]⟩
  have hb0 := (box_below W (.cells #[.slice a n c, .slice b m d] 25)).alloc (by omega) (.cells #[.int .i64 0, .slice none 0 0, .string ⟨#[]⟩] 33)
  clear h hz s1 hg hmay hw
  go_enter Tryd.func12, Tryd.ntmps12
  go_wp2_with fail
  refine (K1.out _ hb0).mono ?_
  rintro e w1 ⟨rfl, hb⟩
  have hA1 := hA.below hb hA.lt
  have hB1 := hB.on hb
  have hb1 := hb0.trans (hb.mono hb0.size)
  have x0 := hA1.c0
  have x1 := hA1.c1
  clear hA hB hb0 hb
  go_wp2_with fail
  refine (K2.out _ hb1).mono ?_
  rintro e w2 ⟨rfl, hb⟩
  have hB2 := hB1.on hb
  have hb2 := hb1.trans (hb.mono hb1.size)
  clear hA1 hB1 hb1 hb x0 x1
  have y0 := hB2.c0
  have y1 := hB2.c1
  have y2 := hB2.c2
  have f0 := hB2.f 0
  have f1 := hB2.f 1
  have f2 := hB2.f 2
  go_wp2_with fail
  have hB4 := hB2.set 0 none 0 0 ⟨#[]⟩
  have r0 := hB4.c0
  have r1 := hB4.c1
  have r2 := hB4.c2
  exact bodyPost_ret (v := .tuple #[.agg #[.int .i64 0, .slice none 0 0, .string ⟨#[]⟩], .int .i64 8]) (by simp [results, Tryd.results12, go_sem, r0, r1, r2]) rfl ⟨rfl, below_made3 hb2 (by omega) _ _ _⟩
set_option maxRecDepth 10000 in
set_option maxHeartbeats 1600000 in
theorem rPack_yes {w : Int} {a b : Option Addr} {n c m d bb : Nat} {l : List Int} {es : List ByteArray} (W : World) (h : Vl W a n b m l es) (hm : m ≤ 4096) (hz : ∀ j, j < m → (es.getD j ByteArray.empty).size ≤ maxLen)
    (hmay : mayV l es = true) (f g : Nat → Int) (hf : ∀ j, j < m → es.getD j ByteArray.empty = S (f j) ∧ I64 (f j)) (hg : RWidIs es m g) (hw : wmax g m = w) (hb : Bw w bb) :
    Calls Tryd.prog 12 #[.agg #[.slice a n c, .slice b m d]] W (AggEnd (.tuple #[.agg #[.int .i64 w, .slice a n c, .string (Eb bb f m)], .int .i64 0]) W) := by
  have K1 := fun w' (hb : Below W.heap.size W w') => rVMay_is (c := c) (d := d) w' (h.below hb) hz
  rw [hmay] at K1
  have K2 := fun w' (hb : Below W.heap.size W w') => rWidth_is (c := c) (d := d) w' (h.below hb) g hg
  rw [hw] at K2
  have K3 := Lib.hid (fun w' (hbl : Below W.heap.size W w') => rLay_is (c := c) (d := d) w' (h.below hbl) hb hm hf)
  replace K1 := Lib.hid K1
  replace K2 := Lib.hid K2
  have hw64 : w ≤ 64 := by unfold Bw at hb; omega
  have hA := (Bx.new W a n c b m d).alloc (.cells #[.int .i64 0, .slice none 0 0, .string ⟨#[]⟩] 33)
  have s1 : (W.alloc (.cells #[.slice a n c, .slice b m d] 25)).heap.size = W.heap.size + 1 := by simp
  have hB := Tx.new' 33 (W.alloc (.cells #[.slice a n c, .slice b m d] 25)) s1.symm 0 none 0 0 ⟨#[]⟩
  have hb0 := (box_below W (.cells #[.slice a n c, .slice b m d] 25)).alloc (by omega) (.cells #[.int .i64 0, .slice none 0 0, .string ⟨#[]⟩] 33)
  clear h hz s1 hg hmay hw hf hb
  generalize Eb bb f m = s at *
  go_enter Tryd.func12, Tryd.ntmps12
  go_wp2_with fail
  refine (K1.out _ hb0).mono ?_
  rintro e w1 ⟨rfl, hb⟩
  have hA1 := hA.below hb hA.lt
  have hB1 := hB.on hb
  have hb1 := hb0.trans (hb.mono hb0.size)
  have x0 := hA1.c0
  have x1 := hA1.c1
  clear hA hB hb0 hb
  go_wp2_with fail
  refine (K2.out _ hb1).mono ?_
  rintro e w2 ⟨rfl, hb⟩
  have hA2 := hA1.below hb hA1.lt
  have hB2 := hB1.on hb
  have hb2 := hb1.trans (hb.mono hb1.size)
  clear hA1 hB1 hb1 hb x0 x1
  have x0 := hA2.c0
  have x1 := hA2.c1
  go_wp2_with fail
  refine (K3.out _ hb2).mono ?_
  rintro e w3 ⟨rfl, hb⟩
  have hB3 := hB2.on hb
  have hb3 := hb2.trans (hb.mono hb2.size)
  clear hA2 hB2 hb2 hb x0 x1
  have y0 := hB3.c0
  have y1 := hB3.c1
  have y2 := hB3.c2
  have f0 := hB3.f 0
  have f1 := hB3.f 1
  have f2 := hB3.f 2
  go_wp2_with fail
  have hB4 := hB3.set w a n c s
  have r0 := hB4.c0
  have r1 := hB4.c1
  have r2 := hB4.c2
  exact bodyPost_ret (v := .tuple #[.agg #[.int .i64 w, .slice a n c, .string s], .int .i64 0]) (by simp [results, Tryd.results12, go_sem, r0, r1, r2]) rfl ⟨rfl, below_made3 hb3 (by omega) _ _ _⟩
theorem rwid_is {es : List ByteArray} {m : Nat} {x : Nat → Int} (h : ∀ j, j < m → Is (es.getD j ByteArray.empty) (some (x j))) : RWidIs es m (fun j => leastO (some (x j))) := fun j hj w => rOf_opt2 (h j hj) w

/-! ### TypedPacks -/
/-- Both answers are one: then the law is true. -/
def PairIs (W : World) (n : Nat) (l : List Int) (a b : Option Addr) (c m d : Nat) : Prop :=
  ∃ (w : Int) (s : ByteArray) (z : Int) (k : List Int), (∀ w', Below W.heap.size W w' → Calls Tryd.prog 11 #[.agg #[.slice a n c, .slice b m d]] w' fun e W' => ∃ a1 n1 c1, e = .returned (.tuple #[.agg #[.int .i64 w, .slice a1 n1 c1, .string s], .int .i64 z]) ∧ Sl W' a1 n1 k ∧ n1 ≤ 20 ∧ Below w'.heap.size w' W') ∧
    (∀ w', Below W.heap.size W w' → Calls Tryd.prog 12 #[.agg #[.slice a n c, .slice b m d]] w' fun e W' => ∃ a1 n1 c1, e = .returned (.tuple #[.agg #[.int .i64 w, .slice a1 n1 c1, .string s], .int .i64 z]) ∧ Sl W' a1 n1 k ∧ n1 ≤ 20 ∧ Below w'.heap.size w' W')
theorem pair_is {a b : Option Addr} {n c m d : Nat} {l : List Int} {es : List ByteArray} (W : World) (h : Vl W a n b m l es) (hz : ∀ j, j < m → (es.getD j ByteArray.empty).size ≤ maxLen) (ht : WT W) (hfew : fewB l es = true) : PairIs W n l a b c m d := by
  have hl := h.t.1
  have hn20 : n ≤ 20 := by have := (fewB_yes hfew).1; rw [h.s.1] at this; exact this
  have hm4 : m ≤ 4096 := by have := (fewB_yes hfew).2.1; rw [hl] at this; omega
  rcases Bool.eq_false_or_eq_true (mayV l es) with hmay | hmay
  · obtain ⟨x, hx⟩ := may_numbers hmay
    rw [hl] at hx
    rcases wid_cases x m with h128 | ⟨bb, hb, hf⟩
    · refine ⟨0, ⟨#[]⟩, 8, [], fun w' hb => (Pack_big (c := c) (d := d) w' (h.below hb) hz (ht.below hb) hmay _ (wid_is hx) h128).mono ?_, fun w' hb => (rPack_big (c := c) (d := d) w' (h.below hb) hz hmay _ (rwid_is hx) h128).mono ?_⟩
      · rintro e W' ⟨rfl, hb⟩
        exact ⟨none, 0, 0, rfl, Sl.nil _ _, by omega, hb⟩
      · rintro e W' ⟨rfl, hb⟩
        exact ⟨none, 0, 0, rfl, Sl.nil _ _, by omega, hb⟩
    · refine ⟨wid x m, Eb bb x m, 0, l, fun w' hbl => (Pack_yes (c := c) (d := d) (w := wid x m) w' (h.below hbl) hn20 hz (ht.below hbl) hmay x _ (fun j hj => ⟨(hx j hj).1, (hf j hj).1⟩) (wid_is hx) rfl hb).mono fun e W' h => h, fun w' hbl => (rPack_yes (c := c) (d := d) (w := wid x m) w' (h.below hbl) hm4 hz hmay x _ (fun j hj => ⟨(hx j hj).1, (hf j hj).1⟩) (rwid_is hx) rfl hb).mono ?_⟩
      rintro e W' ⟨rfl, hb⟩
      exact ⟨a, n, c, rfl, (h.s.below hbl).below hb, hn20, hb⟩
  · refine ⟨0, ⟨#[]⟩, 1, [], fun w' hb => (Pack_arg (c := c) (d := d) w' (h.below hb) hz hmay).mono ?_, fun w' hb => (rPack_arg (c := c) (d := d) w' (h.below hb) hz hmay).mono ?_⟩
    · rintro e W' ⟨rfl, hb⟩
      exact ⟨none, 0, 0, rfl, Sl.nil _ _, by omega, hb⟩
    · rintro e W' ⟨rfl, hb⟩
      exact ⟨none, 0, 0, rfl, Sl.nil _ _, by omega, hb⟩
set_option maxRecDepth 10000 in
set_option maxHeartbeats 3200000 in
theorem packs_any {a b : Option Addr} {n c m d : Nat} {l : List Int} {es : List ByteArray} (W : World) (h : Vl W a n b m l es) (hz : ∀ j, j < m → (es.getD j ByteArray.empty).size ≤ maxLen) (ht : WT W) :
    Calls Tryd.prog 3 #[.agg #[.slice a n c, .slice b m d]] W (TrueEnd W) := by
  have HW := Lib.hid ht
  have hA := Bx.new W a n c b m d
  have hb0 := box_below W (.cells #[.slice a n c, .slice b m d] 25)
  have K1 := fun w (hb : Below W.heap.size W w) => Few_is (c := c) (d := d) w (h.below hb) hz
  rcases Bool.eq_false_or_eq_true (fewB l es) with hfew | hfew
  · rw [hfew] at K1
    replace K1 := Lib.hid K1
    obtain ⟨w, s, z, k, KP, KR⟩ := pair_is (c := c) (d := d) W h hz ht hfew
    replace KP := Lib.hid KP
    replace KR := Lib.hid KR
    clear h hz ht hfew
    go_enter Tryd.func3, Tryd.ntmps3
    go_wp2_with fail
    refine (shown_is _ (HW.out.below hb0)).mono ?_
    rintro e w1 ⟨rfl, hb⟩
    have hA1 := hA.below hb hA.lt
    have hb1 := hb0.trans (hb.mono hb0.size)
    clear hA hb0 hb
    have x0 := hA1.c0
    have x1 := hA1.c1
    go_wp2_with fail
    refine (K1.out _ hb1).mono ?_
    rintro e w2 ⟨rfl, hb⟩
    have hA2 := hA1.below hb hA1.lt
    have hb2 := hb1.trans (hb.mono hb1.size)
    clear hA1 hb1 hb x0 x1
    have x0 := hA2.c0
    have x1 := hA2.c1
    go_wp2_with fail
    refine (KP.out _ hb2).mono ?_
    rintro e w3 ⟨a1, n1, c1, rfl, hS, hn1, hb⟩
    have hbl := box_below w3 (.cells #[.int .i64 w, .slice a1 n1 c1, .string s] 29)
    have hA3 := (hA2.below hb hA2.lt).below hbl (Nat.lt_of_lt_of_le hA2.lt hb.size)
    have hT3 := Tx.new 29 w3 w a1 n1 c1 s
    have hS3 := hS.below hbl
    have hb3 := (hb2.trans (hb.mono hb2.size)).alloc (Nat.le_trans hb2.size hb.size) (.cells #[.int .i64 w, .slice a1 n1 c1, .string s] 29)
    clear hA2 hb2 hb x0 x1 hS hbl
    have x0 := hA3.c0
    have x1 := hA3.c1
    go_wp2_with fail
    refine (KR.out _ hb3).mono ?_
    rintro e w4 ⟨a2, n2, c2, rfl, hS4, hn2, hb⟩
    have hbl := box_below w4 (.cells #[.int .i64 w, .slice a2 n2 c2, .string s] 33)
    have hT5 := (hT3.on hb).on hbl
    have hS5 := (hS3.below hb).below hbl
    have hS6 := hS4.below hbl
    have hb5 := (hb3.trans (hb.mono hb3.size)).alloc (Nat.le_trans hb3.size hb.size) (.cells #[.int .i64 w, .slice a2 n2 c2, .string s] 33)
    clear hA3 hT3 hS3 hb3 hb hS4 hbl x0 x1
    have x0 := hT5.c0
    have x1 := hT5.c1
    have x2 := hT5.c2
    go_wp2_with fail
    refine (same_yes _ hS5 hS6 (by omega)).mono ?_
    rintro e w5 ⟨rfl, hb⟩
    go_wp2_with fail
    go_ret
    exact ⟨by simp, hb5.trans (hb.mono hb5.size)⟩
  · rw [hfew] at K1
    replace K1 := Lib.hid K1
    clear h hz ht hfew
    go_enter Tryd.func3, Tryd.ntmps3
    go_wp2_with fail
    refine (shown_is _ (HW.out.below hb0)).mono ?_
    rintro e w1 ⟨rfl, hb⟩
    have hA1 := hA.below hb hA.lt
    have hb1 := hb0.trans (hb.mono hb0.size)
    clear hA hb0 hb
    have x0 := hA1.c0
    have x1 := hA1.c1
    go_wp2_with fail
    refine (K1.out _ hb1).mono ?_
    rintro e w2 ⟨rfl, hb⟩
    go_wp2_with fail
    go_ret
    exact ⟨rfl, hb1.trans (hb.mono hb1.size)⟩
end Go.Proofs.YtdehcdnbalbdbaaDoor

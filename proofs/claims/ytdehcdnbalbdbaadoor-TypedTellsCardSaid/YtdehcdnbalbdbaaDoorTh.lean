/-
  typed's Pack, by its contract.
-/
import Derived.Test.YtdehcdnbalbdbaaDoorTg
namespace Go.Proofs.YtdehcdnbalbdbaaDoor
open Go.RowKit

/-- The widths of an array's elements, as the program tells them. -/
def WidIs (es : List ByteArray) (m : Nat) (f : Nat → Int) : Prop := ∀ j, j < m → ∀ w, WT w → Calls Tryd.prog 51 #[.string (es.getD j ByteArray.empty)] w fun e W' => e = .returned (.int .i64 (f j)) ∧ Below w.heap.size w W'
set_option maxRecDepth 10000 in
set_option maxHeartbeats 1600000 in
theorem Pack_yes {w : Int} {a b : Option Addr} {n c m d bb : Nat} {l : List Int} {es : List ByteArray} (W : World) (h : Vl W a n b m l es) (hn : n ≤ 20) (hz : ∀ j, j < m → (es.getD j ByteArray.empty).size ≤ maxLen) (ht : WT W)
    (hmay : mayV l es = true) (f g : Nat → Int) (hf : ∀ j, j < m → es.getD j ByteArray.empty = S (f j) ∧ I64 (f j)) (hg : WidIs es m g) (hw : wmax g m = w) (hb : Bw w bb) :
    Calls Tryd.prog 11 #[.agg #[.slice a n c, .slice b m d]] W (TyEnd w l (Eb bb f m) (.int .i64 0) W) := by
  have K0 := fun w' (hb : Below W.heap.size W w') => isWidth_is w w' (ht.below hb).wid
  rw [hb.isW] at K0
  have K1 := fun w' (hb : Below W.heap.size W w') => VMay_is (c := c) (d := d) w' (h.below hb) hz
  rw [hmay] at K1
  have K2 := fun w' (hb : Below W.heap.size W w') => Width_is (c := c) (d := d) w' (h.below hb) (ht.below hb) g hg
  rw [hw] at K2
  replace K0 := Lib.hid K0
  replace K1 := Lib.hid K1
  replace K2 := Lib.hid K2
  have HV := Lib.hid h
  have HF := Lib.hid hf
  have HW := Lib.hid ht
  have HB := Lib.hid hb
  have hm : m ≤ 4096 := by
    have h1 := (mayV_yes.1 hmay).len
    have h2 := may_pr (mayV_yes.1 hmay).e
    rw [h.t.1] at h1
    omega
  have hmk := run_mkj m (by omega)
  have hA := (Bx.new W a n c b m d).alloc (.cells #[.int .i64 0, .slice none 0 0, .string ⟨#[]⟩] 29)
  have s1 : (W.alloc (.cells #[.slice a n c, .slice b m d] 25)).heap.size = W.heap.size + 1 := by simp
  have hB := Tx.new' 29 (W.alloc (.cells #[.slice a n c, .slice b m d] 25)) s1.symm 0 none 0 0 ⟨#[]⟩
  have hb0 := (box_below W (.cells #[.slice a n c, .slice b m d] 25)).alloc (by omega) (.cells #[.int .i64 0, .slice none 0 0, .string ⟨#[]⟩] 29)
  clear h ht hz s1 hf hg hb hmay hw
  go_enter Tryd.func11, Tryd.ntmps11
  go_wp2_with fail
  refine (K1.out _ hb0).mono ?_
  rintro e w1 ⟨rfl, hb⟩
  have hA1 := hA.below hb hA.lt
  have hB1 := hB.on hb
  have hb1 := hb0.trans (hb.mono hb0.size)
  have x0 := hA1.c0
  have x1 := hA1.c1
  clear hA hB hb0 hb
  go_wp2_with fail
  refine (K2.out _ hb1).mono ?_
  rintro e w2 ⟨rfl, hb⟩
  have hA2 := hA1.below hb hA1.lt
  have hB2 := hB1.on hb
  have hb2 := hb1.trans (hb.mono hb1.size)
  clear hA1 hB1 hb1 hb x0 x1
  have x0 := hA2.c0
  have x1 := hA2.c1
  have z1 := (hA2.alloc (.cells (madeCells #[.int .i64 0] m) 2)).c1
  go_wp2_with fail
  refine (K0.out _ hb2).mono ?_
  rintro e w3 ⟨rfl, rfl⟩
  have hA3 := hA2.alloc (.cells (madeCells #[.int .i64 0] m) 2)
  have hB3 := hB2.alloc (.cells (madeCells #[.int .i64 0] m) 2)
  have hR := Jr.made w2 m
  have hg2 : W.heap.size + 1 < w2.heap.size := hB2.lt
  have hb3 := hb2.alloc hb2.size (.cells (madeCells #[.int .i64 0] m) 2)
  obtain ⟨g2, hg⟩ : ∃ g2, g2 = w2.heap.size := ⟨_, rfl⟩
  go_wp2_with fail
  clear hA2 hB2 hb2 x0 x1 z1
  rw [← hg] at hR hg2 ⊢
  go_loopw [25] (fun i wr => ∃ (k : Nat) (F : Nat → Int), i = .int .i64 k ∧ k ≤ m ∧ Jr wr g2 m F ∧ Hid (∀ j, j < k → F j = f j) ∧ Bx wr W.heap.size a n c b m d ∧ Tx 29 wr (W.heap.size + 1) 0 none 0 0 ⟨#[]⟩ ∧ Below W.heap.size W wr) (fun i _ => m - (intOf i).toNat)
  case atStart => exact ⟨0, _, rfl, by omega, hR, Lib.hid (fun j hj => by omega), hA3, hB3, hb3⟩
  case round =>
    obtain ⟨k, F, rfl, hk, hR1, HF1, hA4, hB4, hb4⟩ := hrel
    clear hA3 hB3 hb3 hR hg hmk
    by_cases hlt : k < m
    · have e2 : (k : Int) < (m : Int) := by omega
      obtain ⟨gb, off, rfl, hc⟩ := HV.out.t.2 (by omega)
      have hck := (hb4.cell (p := ⟨gb, off + k, none⟩) (World.block_lt_of_cell? W _ (hc k hlt))).trans (hc k hlt)
      have hfk := HF.out k hlt
      rw [hfk.1] at hck
      have KI := Lib.hid (Int_ok (f k) hfk.2.1 hfk.2.2)
      obtain ⟨x, hx⟩ : ∃ x, x = f k := ⟨_, rfl⟩
      rw [← hx] at KI hck
      have HX := Lib.hid hx
      clear hx hfk hc
      go_wp2_with fail
      refine (KI.out _).mono ?_
      rintro e w3 ⟨rfl, hb⟩
      have hA5 := hA4.below hb hA4.lt
      have hB5 := hB4.on hb
      have hR5 := hR1.below hb
      have hb6 := hb4.trans (hb.mono hb4.size)
      clear hA4 hB4 hR1 hb4 hb hck
      have y0 := hR5.cell (i := k) hlt
      have f0 := hR5.frozen k
      have hR6 := hR5.set k x
      have hA6 := hA5.setOther (p := ⟨g2, k, none⟩) (show W.heap.size ≠ g2 by omega) (.int .i64 x)
      have hB6 := hB5.setOther (p := ⟨g2, k, none⟩) (show W.heap.size + 1 ≠ g2 by omega) (.int .i64 x)
      have hb7 := hb6.setCell (p := ⟨g2, k, none⟩) (show W.heap.size ≤ g2 by omega) (.int .i64 x)
      have HF2 : Hid (∀ j, j < k + 1 → (fun j => if j = k then x else F j) j = f j) := Lib.hid fun j hj => by
        show (if j = k then x else F j) = _
        by_cases hjk : j = k
        · rw [if_pos hjk, hjk, HX.out]
        · rw [if_neg hjk]; exact HF1.out j (by omega)
      clear hA5 hB5 hR5 hb6
      go_wp2_with fail
      go_roundw
      case rel => exact ⟨k + 1, _, by go_num, by omega, hR6, HF2, hA6, hB6, hb7⟩
      case measure => simp [intOf]; omega
    · have e2 : ¬ (k : Int) < (m : Int) := by omega
      obtain rfl : k = m := by omega
      have KP := packed_is (c := c) (c2 := k) HB.out wr (HV.out.s.below hb4) hn (hR1.sf HF1.out) (by omega) (fun j hj => (HF.out j hj).2)
      have KP := Lib.hid KP
      have x0 := hA4.c0
      have x1 := hA4.c1
      go_wp2_with fail
      refine KP.out.mono ?_
      rintro e w3 ⟨a', n', c', rfl, hs3, hn3, hb⟩
      have hB5 := hB4.on hb
      have hlt2 := hB4.lt
      have hb5 := hb4.trans (hb.mono hb4.size)
      have y0 := hB5.c0
      have y1 := hB5.c1
      have y2 := hB5.c2
      have f0 := hB5.f 0
      have f1 := hB5.f 1
      have f2 := hB5.f 2
      clear hA4 hB4 hR1 hb4 hb x0 x1
      go_wp2_with fail
      have hB6 := hB5.set w a' n' c' (Eb bb f k)
      have r0 := hB6.c0
      have r1 := hB6.c1
      have r2 := hB6.c2
      exact bodyPost_ret (v := .tuple #[.agg #[.int .i64 w, .slice a' n' c', .string (Eb bb f k)], .int .i64 0]) (by simp [results, Tryd.results11, go_sem, r0, r1, r2]) rfl ⟨_, _, _, rfl, fs_box (W := W) hs3 hlt2 _ _ _, hn3, below_made3 hb5 (by omega) _ _ _⟩
set_option maxRecDepth 10000 in
set_option maxHeartbeats 1600000 in
theorem Pack_arg {a b : Option Addr} {n c m d : Nat} {l : List Int} {es : List ByteArray} (W : World) (h : Vl W a n b m l es) (hz : ∀ j, j < m → (es.getD j ByteArray.empty).size ≤ maxLen) (hmay : mayV l es = false) :
    Calls Tryd.prog 11 #[.agg #[.slice a n c, .slice b m d]] W (TzEnd (.int .i64 1) W) := by
  have K1 := fun w' (hb : Below W.heap.size W w') => VMay_is (c := c) (d := d) w' (h.below hb) hz
  rw [hmay] at K1
  replace K1 := Lib.hid K1
  have s1 : (W.alloc (.cells #[.slice a n c, .slice b m d] 25)).heap.size = W.heap.size + 1 := by simp
  have hB := Tx.new' 29 (W.alloc (.cells #[.slice a n c, .slice b m d] 25)) s1.symm 0 none 0 0 ⟨#[]⟩
  have hb0 := (box_below W (.cells #[.slice a n c, .slice b m d] 25)).alloc (by omega) (.cells #[.int .i64 0, .slice none 0 0, .string ⟨#[]⟩] 29)
  clear h hz s1 hmay
  go_enter Tryd.func11, Tryd.ntmps11
  go_wp2_with fail
  refine (K1.out _ hb0).mono ?_
  rintro e w1 ⟨rfl, hb⟩
  have hB1 := hB.on hb
  have hb1 := hb0.trans (hb.mono hb0.size)
  have y0 := hB1.c0
  have y1 := hB1.c1
  have y2 := hB1.c2
  have f0 := hB1.f 0
  have f1 := hB1.f 1
  have f2 := hB1.f 2
  clear hB hb0 hb
  go_wp2_with fail
  have hB4 := hB1.set 0 none 0 0 ⟨#[]⟩
  have r0 := hB4.c0
  have r1 := hB4.c1
  have r2 := hB4.c2
  exact bodyPost_ret (v := .tuple #[.agg #[.int .i64 0, .slice none 0 0, .string ⟨#[]⟩], .int .i64 1]) (by simp [results, Tryd.results11, go_sem, r0, r1, r2]) rfl ⟨rfl, below_made3 hb1 (by omega) _ _ _⟩
set_option maxRecDepth 10000 in
set_option maxHeartbeats 1600000 in
theorem Pack_big {a b : Option Addr} {n c m d : Nat} {l : List Int} {es : List ByteArray} (W : World) (h : Vl W a n b m l es) (hz : ∀ j, j < m → (es.getD j ByteArray.empty).size ≤ maxLen) (ht : WT W) (hmay : mayV l es = true) (g : Nat → Int) (hg : WidIs es m g) (hw : wmax g m = 128) :
    Calls Tryd.prog 11 #[.agg #[.slice a n c, .slice b m d]] W (TzEnd (.int .i64 8) W) := by
  have K0 := fun w' (hb : Below W.heap.size W w') => isWidth_is 128 w' (ht.below hb).wid
  rw [show isW 128 = false from rfl] at K0
  have K1 := fun w' (hb : Below W.heap.size W w') => VMay_is (c := c) (d := d) w' (h.below hb) hz
  rw [hmay] at K1
  have K2 := fun w' (hb : Below W.heap.size W w') => Width_is (c := c) (d := d) w' (h.below hb) (ht.below hb) g hg
  rw [hw] at K2
  replace K0 := Lib.hid K0
  replace K1 := Lib.hid K1
  replace K2 := Lib.hid K2
  have hA := (Bx.new W a n c b m d).alloc (.cells #[.int .i64 0, .slice none 0 0, .string ⟨#[]⟩] 29)
  have s1 : (W.alloc (.cells #[.slice a n c, .slice b m d] 25)).heap.size = W.heap.size + 1 := by simp
  have hB := Tx.new' 29 (W.alloc (.cells #[.slice a n c, .slice b m d] 25)) s1.symm 0 none 0 0 ⟨#[]⟩
  have hb0 := (box_below W (.cells #[.slice a n c, .slice b m d] 25)).alloc (by omega) (.cells #[.int .i64 0, .slice none 0 0, .string ⟨#[]⟩] 29)
  clear h ht hz s1 hg hmay hw
  go_enter Tryd.func11, Tryd.ntmps11
  go_wp2_with fail
  refine (K1.out _ hb0).mono ?_
  rintro e w1 ⟨rfl, hb⟩
  have hA1 := hA.below hb hA.lt
  have hB1 := hB.on hb
  have hb1 := hb0.trans (hb.mono hb0.size)
  have x0 := hA1.c0
  have x1 := hA1.c1
  clear hA hB hb0 hb
  go_wp2_with fail
  refine (K2.out _ hb1).mono ?_
  rintro e w2 ⟨rfl, hb⟩
  have hB2 := hB1.on hb
  have hb2 := hb1.trans (hb.mono hb1.size)
  clear hA1 hB1 hb1 hb x0 x1
  have y0 := hB2.c0
  have y1 := hB2.c1
  have y2 := hB2.c2
  have f0 := hB2.f 0
  have f1 := hB2.f 1
  have f2 := hB2.f 2
  go_wp2_with fail
  refine (K0.out _ hb2).mono ?_
  rintro e w3 ⟨rfl, rfl⟩
  go_wp2_with fail
  have hB4 := hB2.set 0 none 0 0 ⟨#[]⟩
  have r0 := hB4.c0
  have r1 := hB4.c1
  have r2 := hB4.c2
  exact bodyPost_ret (v := .tuple #[.agg #[.int .i64 0, .slice none 0 0, .string ⟨#[]⟩], .int .i64 8]) (by simp [results, Tryd.results11, go_sem, r0, r1, r2]) rfl ⟨rfl, below_made3 hb2 (by omega) _ _ _⟩
end Go.Proofs.YtdehcdnbalbdbaaDoor

/-
  typed's To and Pack, by their contracts.
-/
import Derived.Test.YtdehcdnbalbdbaaDoorTf
namespace Go.Proofs.YtdehcdnbalbdbaaDoor
open Go.RowKit

def TyEnd (w : Int) (l : List Int) (s : ByteArray) (x : Value) (W : World) (e : Ending) (W' : World) : Prop :=
  ∃ a n c, e = .returned (.tuple #[.agg #[.int .i64 w, .slice a n c, .string s], x]) ∧ Sl W' a n l ∧ n ≤ 20 ∧ Below W.heap.size W W'
def TyFs (w : Int) (l : List Int) (s : ByteArray) (x : Value) (W : World) (e : Ending) (W' : World) : Prop :=
  ∃ a n c, e = .returned (.tuple #[.agg #[.int .i64 w, .slice a n c, .string s], x]) ∧ Fs W' W.heap.size a n l ∧ n ≤ 20 ∧ Below W.heap.size W W'
theorem TyFs.plain {w : Int} {l : List Int} {s : ByteArray} {x : Value} {W W' : World} {e : Ending} (h : TyFs w l s x W e W') : TyEnd w l s x W e W' := by
  obtain ⟨a, n, c, h1, h2, h3, h4⟩ := h
  exact ⟨a, n, c, h1, h2.1, h3, h4⟩
theorem fs_boxF {W w : World} {a : Option Addr} {n g B : Nat} {l : List Int} (h : Fs w B a n l) (hg : g < B) (hB : W.heap.size ≤ B) (u v x : Value) : Fs (((w.setCell ⟨g, 0, none⟩ u).setCell ⟨g, 1, none⟩ v).setCell ⟨g, 2, none⟩ x) W.heap.size a n l :=
  (((h.set (p := ⟨g, 0, none⟩) hg u).set (p := ⟨g, 1, none⟩) hg v).set (p := ⟨g, 2, none⟩) hg x).base hB
def TzEnd (x : Value) (W : World) (e : Ending) (W' : World) : Prop := e = .returned (.tuple #[.agg #[.int .i64 0, .slice none 0 0, .string ⟨#[]⟩], x]) ∧ Below W.heap.size W W'
/-- A box filled with what packed hands back, and returned with something beside. -/
theorem fs_box {W w : World} {a : Option Addr} {n g B : Nat} {l : List Int} (h : Fs w B a n l) (hg : g < B) (u v x : Value) : Sl (((w.setCell ⟨g, 0, none⟩ u).setCell ⟨g, 1, none⟩ v).setCell ⟨g, 2, none⟩ x) a n l :=
  (((h.set (p := ⟨g, 0, none⟩) hg u).set (p := ⟨g, 1, none⟩) hg v).set (p := ⟨g, 2, none⟩) hg x).1

/-! ### To -/
set_option maxRecDepth 10000 in
set_option maxHeartbeats 1600000 in
theorem TTo_fs {w w2 : Int} {a : Option Addr} {n c b b2 m : Nat} {l : List Int} {s : ByteArray} (W : World) (hl : Sl W a n l) (hn : n ≤ 20) (ht : WTab W) (hs : s.size ≤ maxLen) (hM : MayT w l s b m) (hw2 : Bw w2 b2) (hf : ∀ i, i < m → Fit (el s b i) w2) :
    Calls Tryd.prog 20 #[.agg #[.int .i64 w, .slice a n c, .string s], .int .i64 w2] W (TyFs w2 l (Eb b2 (el s b) m) (.bool true) W) := by
  have K0 := fun w' (hb : Below W.heap.size W w') => isWidth_is w2 w' (ht.below hb)
  rw [hw2.isW] at K0
  have K1 := fun w' (hb : Below W.heap.size W w') => TMay_is (w := w) (c := c) (s := s) w' (hl.below hb) (ht.below hb) hs
  rw [hM.yes] at K1
  have K2 := fun w' (hb : Below W.heap.size W w') => TMany_is (w := w) (c := c) (s := s) w' (hl.below hb) (ht.below hb) hs
  rw [hM.tm] at K2
  have K0 := Lib.hid K0
  have K1 := Lib.hid K1
  have K2 := Lib.hid K2
  have HL := Lib.hid hl
  have HM := Lib.hid hM
  have HW := Lib.hid ht
  have HF := Lib.hid hf
  have HW2 := Lib.hid hw2
  have hm := hM.le
  have hmk := run_mkj m (by omega)
  have hA := (Tx.new 29 W w a n c s).alloc (.cells #[.int .i64 0, .slice none 0 0, .string ⟨#[]⟩] 29)
  have s1 : (W.alloc (.cells #[.int .i64 w, .slice a n c, .string s] 29)).heap.size = W.heap.size + 1 := by simp
  have hB := Tx.new' 29 (W.alloc (.cells #[.int .i64 w, .slice a n c, .string s] 29)) s1.symm 0 none 0 0 ⟨#[]⟩
  have hb0 := (box_below W (.cells #[.int .i64 w, .slice a n c, .string s] 29)).alloc (by omega) (.cells #[.int .i64 0, .slice none 0 0, .string ⟨#[]⟩] 29)
  clear hl ht hM s1 hf hw2
  go_enter Tryd.func20, Tryd.ntmps20
  go_wp2_with fail
  refine (K0.out _ hb0).mono ?_
  rintro e w1 ⟨rfl, rfl⟩
  go_wp2_with fail
  refine (K1.out _ hb0).mono ?_
  rintro e w1 ⟨rfl, hb⟩
  have hA1 := hA.on hb
  have hB1 := hB.on hb
  have hb1 := hb0.trans (hb.mono hb0.size)
  have x0 := hA1.c0
  have x1 := hA1.c1
  have x2 := hA1.c2
  clear hA hB hb0 hb
  go_wp2_with fail
  refine (K2.out _ hb1).mono ?_
  rintro e w2' ⟨rfl, hb⟩
  have hA2 := (hA1.on hb).alloc (.cells (madeCells #[.int .i64 0] m) 2)
  have hB2 := (hB1.on hb).alloc (.cells (madeCells #[.int .i64 0] m) 2)
  have hb2 := hb1.trans (hb.mono hb1.size)
  have hR := Jr.made w2' m
  have hg2 : W.heap.size + 1 < w2'.heap.size := Nat.lt_of_lt_of_le hB1.lt hb.size
  have hb3 := hb2.alloc hb2.size (.cells (madeCells #[.int .i64 0] m) 2)
  clear hA1 hB1 hb1 hb2 x0 x1 x2 hb
  obtain ⟨g2, hg⟩ : ∃ g2, g2 = w2'.heap.size := ⟨_, rfl⟩
  go_wp2_with fail
  rw [← hg] at hR hg2 ⊢
  go_loopw [22] (fun i wr => ∃ (k : Nat) (F : Nat → Int), i = .int .i64 k ∧ k ≤ m ∧ Jr wr g2 m F ∧ Hid (∀ j, j < k → F j = el s b j) ∧ Tx 29 wr W.heap.size w a n c s ∧ Tx 29 wr (W.heap.size + 1) 0 none 0 0 ⟨#[]⟩ ∧ Below W.heap.size W wr) (fun i _ => m - (intOf i).toNat)
  case atStart => exact ⟨0, _, rfl, by omega, hR, Lib.hid (fun j hj => by omega), hA2, hB2, hb3⟩
  case round =>
    obtain ⟨k, F, rfl, hk, hR1, HF1, hA3, hB3, hb4⟩ := hrel
    clear hA2 hB2 hb3 hR hg hmk
    have x0 := hA3.c0
    have x1 := hA3.c1
    have x2 := hA3.c2
    by_cases hlt : k < m
    · have e2 : (k : Int) < (m : Int) := by omega
      have KE := Lib.hid (element_is (a := a) (n := n) (c := c) HM.out.bw HM.out.sz HM.out.le hlt)
      have hfit := (el_fit HM.out.bw HM.out.sz hlt).i64 HM.out.bw
      have KFi := fits_any (el s b k) w2 hfit.1 hfit.2
      rw [decide_eq_true (HF.out k hlt)] at KFi
      obtain ⟨x, hx⟩ : ∃ x, x = el s b k := ⟨_, rfl⟩
      rw [← hx] at KE KFi
      have KFi := Lib.hid KFi
      have HX := Lib.hid hx
      clear hx hfit
      go_wp2_with fail
      refine (KE.out _).mono ?_
      rintro e w3 ⟨rfl, hb⟩
      have hA5 := hA3.on hb
      have hB5 := hB3.on hb
      have hR5 := hR1.below hb
      have hb6 := hb4.trans (hb.mono hb4.size)
      clear hA3 hB3 hR1 hb4 hb x0 x1 x2
      have y0 := hR5.cell (i := k) hlt
      have f0 := hR5.frozen k
      have hR6 := hR5.set k x
      have hA6 := hA5.setOther (p := ⟨g2, k, none⟩) (show W.heap.size ≠ g2 by omega) (.int .i64 x)
      have hB6 := hB5.setOther (p := ⟨g2, k, none⟩) (show W.heap.size + 1 ≠ g2 by omega) (.int .i64 x)
      have hb7 := hb6.setCell (p := ⟨g2, k, none⟩) (show W.heap.size ≤ g2 by omega) (.int .i64 x)
      have HF2 : Hid (∀ j, j < k + 1 → (fun j => if j = k then x else F j) j = el s b j) := Lib.hid fun j hj => by
        show (if j = k then x else F j) = _
        by_cases hjk : j = k
        · rw [if_pos hjk, hjk, HX.out]
        · rw [if_neg hjk]; exact HF1.out j (by omega)
      clear hA5 hB5 hR5 hb6
      go_wp2_with fail
      refine (KFi.out _ (HW.out.below hb7)).mono ?_
      rintro e w4 ⟨rfl, rfl⟩
      go_wp2_with fail
      go_roundw
      case rel => exact ⟨k + 1, _, by go_num, by omega, hR6, HF2, hA6, hB6, hb7⟩
      case measure => simp [intOf]; omega
    · have e2 : ¬ (k : Int) < (m : Int) := by omega
      obtain rfl : k = m := by omega
      have KP := Lib.hid (packed_is (c := c) (c2 := k) HW2.out wr (HL.out.below hb4) hn (hR1.sf HF1.out) (by omega) (fun j hj => (el_fit HM.out.bw HM.out.sz hj).i64 HM.out.bw))
      go_wp2_with fail
      refine KP.out.mono ?_
      rintro e w3 ⟨a', n', c', rfl, hs3, hn3, hb⟩
      have hB4 := hB3.on hb
      have hlt2 := hB3.lt
      have hb4' := hb4
      have hb5 := hb4.trans (hb.mono hb4.size)
      have y0 := hB4.c0
      have y1 := hB4.c1
      have y2 := hB4.c2
      have f0 := hB4.f 0
      have f1 := hB4.f 1
      have f2 := hB4.f 2
      clear hA3 hB3 hR1 hb4 hb x0 x1 x2
      go_wp2_with fail
      have hB5 := hB4.set w2 a' n' c' (Eb b2 (el s b) k)
      have r0 := hB5.c0
      have r1 := hB5.c1
      have r2 := hB5.c2
      exact bodyPost_ret (v := .tuple #[.agg #[.int .i64 w2, .slice a' n' c', .string (Eb b2 (el s b) k)], .bool true]) (by simp [results, Tryd.results20, go_sem, r0, r1, r2]) rfl ⟨_, _, _, rfl, fs_boxF (W := W) hs3 hlt2 hb4'.size _ _ _, hn3, below_made3 hb5 (by omega) _ _ _⟩
theorem TTo_yes {w w2 : Int} {a : Option Addr} {n c b b2 m : Nat} {l : List Int} {s : ByteArray} (W : World) (hl : Sl W a n l) (hn : n ≤ 20) (ht : WTab W) (hs : s.size ≤ maxLen) (hM : MayT w l s b m) (hw2 : Bw w2 b2) (hf : ∀ i, i < m → Fit (el s b i) w2) :
    Calls Tryd.prog 20 #[.agg #[.int .i64 w, .slice a n c, .string s], .int .i64 w2] W (TyEnd w2 l (Eb b2 (el s b) m) (.bool true) W) :=
  (TTo_fs W hl hn ht hs hM hw2 hf).mono fun _ _ h => h.plain
set_option maxRecDepth 10000 in
set_option maxHeartbeats 1600000 in
theorem TTo_unfit {w w2 : Int} {a : Option Addr} {n c b b2 m j0 : Nat} {l : List Int} {s : ByteArray} (W : World) (hl : Sl W a n l) (hn : n ≤ 20) (ht : WTab W) (hs : s.size ≤ maxLen) (hM : MayT w l s b m) (hw2 : Bw w2 b2) (hj0 : j0 < m) (hf : ∀ i, i < j0 → Fit (el s b i) w2) (hnf : ¬ Fit (el s b j0) w2) :
    Calls Tryd.prog 20 #[.agg #[.int .i64 w, .slice a n c, .string s], .int .i64 w2] W (TzEnd (.bool false) W) := by
  have K0 := fun w' (hb : Below W.heap.size W w') => isWidth_is w2 w' (ht.below hb)
  rw [hw2.isW] at K0
  have K1 := fun w' (hb : Below W.heap.size W w') => TMay_is (w := w) (c := c) (s := s) w' (hl.below hb) (ht.below hb) hs
  rw [hM.yes] at K1
  have K2 := fun w' (hb : Below W.heap.size W w') => TMany_is (w := w) (c := c) (s := s) w' (hl.below hb) (ht.below hb) hs
  rw [hM.tm] at K2
  have K0 := Lib.hid K0
  have K1 := Lib.hid K1
  have K2 := Lib.hid K2
  have HL := Lib.hid hl
  have HM := Lib.hid hM
  have HW := Lib.hid ht
  have HF := Lib.hid hf
  have HN := Lib.hid hnf
  have HW2 := Lib.hid hw2
  have hm := hM.le
  have hmk := run_mkj m (by omega)
  have hA := (Tx.new 29 W w a n c s).alloc (.cells #[.int .i64 0, .slice none 0 0, .string ⟨#[]⟩] 29)
  have s1 : (W.alloc (.cells #[.int .i64 w, .slice a n c, .string s] 29)).heap.size = W.heap.size + 1 := by simp
  have hB := Tx.new' 29 (W.alloc (.cells #[.int .i64 w, .slice a n c, .string s] 29)) s1.symm 0 none 0 0 ⟨#[]⟩
  have hb0 := (box_below W (.cells #[.int .i64 w, .slice a n c, .string s] 29)).alloc (by omega) (.cells #[.int .i64 0, .slice none 0 0, .string ⟨#[]⟩] 29)
  clear hl hn ht hM s1 hf hnf hw2
  go_enter Tryd.func20, Tryd.ntmps20
  go_wp2_with fail
  refine (K0.out _ hb0).mono ?_
  rintro e w1 ⟨rfl, rfl⟩
  go_wp2_with fail
  refine (K1.out _ hb0).mono ?_
  rintro e w1 ⟨rfl, hb⟩
  have hA1 := hA.on hb
  have hB1 := hB.on hb
  have hb1 := hb0.trans (hb.mono hb0.size)
  have x0 := hA1.c0
  have x1 := hA1.c1
  have x2 := hA1.c2
  clear hA hB hb0 hb
  go_wp2_with fail
  refine (K2.out _ hb1).mono ?_
  rintro e w2' ⟨rfl, hb⟩
  have hA2 := (hA1.on hb).alloc (.cells (madeCells #[.int .i64 0] m) 2)
  have hB2 := (hB1.on hb).alloc (.cells (madeCells #[.int .i64 0] m) 2)
  have hb2 := hb1.trans (hb.mono hb1.size)
  have hR := Jr.made w2' m
  have hg2 : W.heap.size + 1 < w2'.heap.size := Nat.lt_of_lt_of_le hB1.lt hb.size
  have hb3 := hb2.alloc hb2.size (.cells (madeCells #[.int .i64 0] m) 2)
  clear hA1 hB1 hb1 hb2 x0 x1 x2 hb
  obtain ⟨g2, hg⟩ : ∃ g2, g2 = w2'.heap.size := ⟨_, rfl⟩
  go_wp2_with fail
  rw [← hg] at hR hg2 ⊢
  go_loopw [22] (fun i wr => ∃ (k : Nat) (F : Nat → Int), i = .int .i64 k ∧ k ≤ j0 ∧ Jr wr g2 m F ∧ Hid (∀ j, j < k → F j = el s b j) ∧ Tx 29 wr W.heap.size w a n c s ∧ Tx 29 wr (W.heap.size + 1) 0 none 0 0 ⟨#[]⟩ ∧ Below W.heap.size W wr) (fun i _ => m - (intOf i).toNat)
  case atStart => exact ⟨0, _, rfl, by omega, hR, Lib.hid (fun j hj => by omega), hA2, hB2, hb3⟩
  case round =>
    obtain ⟨k, F, rfl, hk, hR1, HF1, hA3, hB3, hb4⟩ := hrel
    clear hA2 hB2 hb3 hR hg hmk
    have x0 := hA3.c0
    have x1 := hA3.c1
    have x2 := hA3.c2
    have hltm : k < m := by omega
    have e2 : (k : Int) < (m : Int) := by omega
    by_cases hlt : k < j0
    · have KE := Lib.hid (element_is (a := a) (n := n) (c := c) HM.out.bw HM.out.sz HM.out.le hltm)
      have hfit := (el_fit HM.out.bw HM.out.sz hltm).i64 HM.out.bw
      have KFi := fits_any (el s b k) w2 hfit.1 hfit.2
      rw [decide_eq_true (HF.out k hlt)] at KFi
      obtain ⟨x, hx⟩ : ∃ x, x = el s b k := ⟨_, rfl⟩
      rw [← hx] at KE KFi
      have KFi := Lib.hid KFi
      have HX := Lib.hid hx
      clear hx hfit
      go_wp2_with fail
      refine (KE.out _).mono ?_
      rintro e w3 ⟨rfl, hb⟩
      have hA5 := hA3.on hb
      have hB5 := hB3.on hb
      have hR5 := hR1.below hb
      have hb6 := hb4.trans (hb.mono hb4.size)
      clear hA3 hB3 hR1 hb4 hb x0 x1 x2
      have y0 := hR5.cell (i := k) hltm
      have f0 := hR5.frozen k
      have hR6 := hR5.set k x
      have hA6 := hA5.setOther (p := ⟨g2, k, none⟩) (show W.heap.size ≠ g2 by omega) (.int .i64 x)
      have hB6 := hB5.setOther (p := ⟨g2, k, none⟩) (show W.heap.size + 1 ≠ g2 by omega) (.int .i64 x)
      have hb7 := hb6.setCell (p := ⟨g2, k, none⟩) (show W.heap.size ≤ g2 by omega) (.int .i64 x)
      have HF2 : Hid (∀ j, j < k + 1 → (fun j => if j = k then x else F j) j = el s b j) := Lib.hid fun j hj => by
        show (if j = k then x else F j) = _
        by_cases hjk : j = k
        · rw [if_pos hjk, hjk, HX.out]
        · rw [if_neg hjk]; exact HF1.out j (by omega)
      clear hA5 hB5 hR5 hb6
      go_wp2_with fail
      refine (KFi.out _ (HW.out.below hb7)).mono ?_
      rintro e w4 ⟨rfl, rfl⟩
      go_wp2_with fail
      go_roundw
      case rel => exact ⟨k + 1, _, by go_num, by omega, hR6, HF2, hA6, hB6, hb7⟩
      case measure => simp [intOf]; omega
    · obtain rfl : k = j0 := by omega
      have KE := Lib.hid (element_is (a := a) (n := n) (c := c) HM.out.bw HM.out.sz HM.out.le hltm)
      have hfit := (el_fit HM.out.bw HM.out.sz hltm).i64 HM.out.bw
      have KFi := fits_any (el s b k) w2 hfit.1 hfit.2
      rw [decide_eq_false HN.out] at KFi
      obtain ⟨x, hx⟩ : ∃ x, x = el s b k := ⟨_, rfl⟩
      rw [← hx] at KE KFi
      have KFi := Lib.hid KFi
      clear hx hfit
      go_wp2_with fail
      refine (KE.out _).mono ?_
      rintro e w3 ⟨rfl, hb⟩
      have hB5 := hB3.on hb
      have hR5 := hR1.below hb
      have hb6 := hb4.trans (hb.mono hb4.size)
      clear hA3 hB3 hR1 hb4 hb x0 x1 x2
      have y0 := hR5.cell (i := k) hltm
      have f0 := hR5.frozen k
      have hR6 := hR5.set k x
      have hB6 := hB5.setOther (p := ⟨g2, k, none⟩) (show W.heap.size + 1 ≠ g2 by omega) (.int .i64 x)
      have hb7 := hb6.setCell (p := ⟨g2, k, none⟩) (show W.heap.size ≤ g2 by omega) (.int .i64 x)
      clear hB5 hR5 hb6
      go_wp2_with fail
      refine (KFi.out _ (HW.out.below hb7)).mono ?_
      rintro e w4 ⟨rfl, rfl⟩
      have z0 := hB6.c0
      have z1 := hB6.c1
      have z2 := hB6.c2
      have f0 := hB6.f 0
      have f1 := hB6.f 1
      have f2 := hB6.f 2
      go_wp2_with fail
      have hB7 := hB6.set 0 none 0 0 ⟨#[]⟩
      have r0 := hB7.c0
      have r1 := hB7.c1
      have r2 := hB7.c2
      exact bodyPost_ret (v := .tuple #[.agg #[.int .i64 0, .slice none 0 0, .string ⟨#[]⟩], .bool false]) (by simp [results, Tryd.results20, go_sem, r0, r1, r2]) rfl ⟨rfl, below_made3 hb7 (by omega) _ _ _⟩
set_option maxRecDepth 10000 in
set_option maxHeartbeats 800000 in
theorem TTo_no {w w2 : Int} {a : Option Addr} {n c : Nat} {l : List Int} {s : ByteArray} (W : World) (hl : Sl W a n l) (ht : WTab W) (hs : s.size ≤ maxLen) (hno : isW w2 = false ∨ mayT w l s = false) :
    Calls Tryd.prog 20 #[.agg #[.int .i64 w, .slice a n c, .string s], .int .i64 w2] W (TzEnd (.bool false) W) := by
  have K0 := Lib.hid (fun w' (hb : Below W.heap.size W w') => isWidth_is w2 w' (ht.below hb))
  have K1 := Lib.hid (fun w' (hb : Below W.heap.size W w') => TMay_is (w := w) (c := c) (s := s) w' (hl.below hb) (ht.below hb) hs)
  have s1 : (W.alloc (.cells #[.int .i64 w, .slice a n c, .string s] 29)).heap.size = W.heap.size + 1 := by simp
  have hB := Tx.new' 29 (W.alloc (.cells #[.int .i64 w, .slice a n c, .string s] 29)) s1.symm 0 none 0 0 ⟨#[]⟩
  have hb0 := (box_below W (.cells #[.int .i64 w, .slice a n c, .string s] 29)).alloc (by omega) (.cells #[.int .i64 0, .slice none 0 0, .string ⟨#[]⟩] 29)
  clear hl ht s1
  generalize isW w2 = p at *
  generalize mayT w l s = q at *
  rcases p with _ | _
  · clear hno
    have y0 := hB.c0
    have y1 := hB.c1
    have y2 := hB.c2
    have f0 := hB.f 0
    have f1 := hB.f 1
    have f2 := hB.f 2
    go_enter Tryd.func20, Tryd.ntmps20
    go_wp2_with fail
    refine (K0.out _ hb0).mono ?_
    rintro e w1 ⟨rfl, rfl⟩
    go_wp2_with fail
    exact bodyPost_ret (v := .tuple #[.agg #[.int .i64 0, .slice none 0 0, .string ⟨#[]⟩], .bool false]) (by simp [results, Tryd.results20, go_sem, y0, y1, y2]) rfl ⟨rfl, hb0⟩
  · have hq : q = false := by rcases hno with h | h; cases h; exact h
    subst hq
    clear hno
    go_enter Tryd.func20, Tryd.ntmps20
    go_wp2_with fail
    refine (K0.out _ hb0).mono ?_
    rintro e w1 ⟨rfl, rfl⟩
    go_wp2_with fail
    refine (K1.out _ hb0).mono ?_
    rintro e w1 ⟨rfl, hb⟩
    have hB1 := hB.on hb
    have hb1 := hb0.trans (hb.mono hb0.size)
    have y0 := hB1.c0
    have y1 := hB1.c1
    have y2 := hB1.c2
    have f0 := hB1.f 0
    have f1 := hB1.f 1
    have f2 := hB1.f 2
    clear hB hb0 hb
    go_wp2_with fail
    have hB4 := hB1.set 0 none 0 0 ⟨#[]⟩
    have r0 := hB4.c0
    have r1 := hB4.c1
    have r2 := hB4.c2
    exact bodyPost_ret (v := .tuple #[.agg #[.int .i64 0, .slice none 0 0, .string ⟨#[]⟩], .bool false]) (by simp [results, Tryd.results20, go_sem, r0, r1, r2]) rfl ⟨rfl, below_made3 hb1 (by omega) _ _ _⟩
end Go.Proofs.YtdehcdnbalbdbaaDoor

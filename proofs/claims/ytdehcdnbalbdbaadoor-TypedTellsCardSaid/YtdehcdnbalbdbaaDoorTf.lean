/-
  typed's Val and To, by their contracts.
-/
import Derived.Test.YtdehcdnbalbdbaaDoorTe
namespace Go.Proofs.YtdehcdnbalbdbaaDoor
open Go.RowKit

theorem Sr.frozen {w : World} {g n : Nat} {F : Nat → ByteArray} (h : Sr w g n F) (i : Nat) : w.frozen? ⟨g, i, none⟩ = false := World.rowIs.frozen h i
theorem Sr.set {w : World} {g n : Nat} {F : Nat → ByteArray} (h : Sr w g n F) (i : Nat) (v : ByteArray) : Sr (w.setCell ⟨g, i, none⟩ (.string v)) g n (fun j => if j = i then v else F j) := by
  refine (World.rowIs.set h i _).congr fun j _ => ?_
  show (if j = i then _ else _) = Value.string (if j = i then v else F j)
  split <;> rfl
/-- A whole row of int64s of the call's own. -/
def Jr (w : World) (g n : Nat) (F : Nat → Int) : Prop := w.rowIs g 2 n (fun j => Value.int .i64 (F j))
theorem infoInt64 : (Tryd.prog.info? 2).map (fun i => (i.zero, i.size, i.bytes)) = some (some (.int .i64 0), 1, 8) := by kernel_rfl
theorem run_mkj (n : Nat) (hn : n ≤ 1000000) (w : World) :
    (Instr.makeSlice 60 (.int .i64 (n : Int)) (.int .i64 (n : Int))).run Tryd.prog w = .ok (.slice (some ⟨w.heap.size, 0, none⟩) n n) (w.alloc (.cells (madeCells #[.int .i64 0] n) 2)) :=
  run_make_row' 60 2 _ 8 Tryd.underlying60 infoInt64 rfl _ _ n (by omega) (by omega) w
theorem Jr.made (w : World) (n : Nat) : Jr (w.alloc (.cells (madeCells #[.int .i64 0] n) 2)) w.heap.size n (fun _ => 0) := World.rowIs_made w _ n _
theorem Jr.cell {w : World} {g n : Nat} {F : Nat → Int} (h : Jr w g n F) {i : Nat} (hi : i < n) : w.cell? ⟨g, i, none⟩ = some (.int .i64 (F i)) := World.rowIs.cell h hi
theorem Jr.frozen {w : World} {g n : Nat} {F : Nat → Int} (h : Jr w g n F) (i : Nat) : w.frozen? ⟨g, i, none⟩ = false := World.rowIs.frozen h i
theorem Jr.below {w w' : World} {g n : Nat} {F : Nat → Int} (h : Jr w g n F) (hb : Below w.heap.size w w') : Jr w' g n F := World.rowIs.of_block h (hb.block g (World.rowIs.lt h))
theorem Jr.set {w : World} {g n : Nat} {F : Nat → Int} (h : Jr w g n F) (i : Nat) (v : Int) : Jr (w.setCell ⟨g, i, none⟩ (.int .i64 v)) g n (fun j => if j = i then v else F j) := by
  refine (World.rowIs.set h i _).congr fun j _ => ?_
  show (if j = i then _ else _) = Value.int .i64 (if j = i then v else F j)
  split <;> rfl
theorem Jr.sf {w : World} {g n : Nat} {F f : Nat → Int} (h : Jr w g n F) (e : ∀ j, j < n → F j = f j) : Sf w (some ⟨g, 0, none⟩) n f :=
  fun _ => ⟨g, 0, rfl, fun j hj => by rw [Nat.zero_add, h.cell hj, e j hj]⟩
/-- Numbers' texts. -/
def txs (f : Nat → Int) (m : Nat) : List ByteArray := (List.range m).map fun i => S (f i)
theorem txs_len (f : Nat → Int) (m : Nat) : (txs f m).length = m := by simp [txs]
theorem txs_get {f : Nat → Int} {m j : Nat} (h : j < m) : (txs f m).getD j ByteArray.empty = S (f j) := by
  simp [txs, List.getD_eq_getElem?_getD, List.getElem?_map, List.getElem?_range, h]

/-! ### Val -/
set_option maxRecDepth 10000 in
set_option maxHeartbeats 1600000 in
theorem TVal_yes {w : Int} {a : Option Addr} {n c b m : Nat} {l : List Int} {s : ByteArray} (W : World) (hl : Sl W a n l) (hn : n ≤ 20) (ht : WT W) (hs : s.size ≤ maxLen) (hM : MayT w l s b m) :
    Calls Tryd.prog 18 #[.agg #[.int .i64 w, .slice a n c, .string s]] W (VEnd l (txs (el s b) m) W) := by
  have K1 := fun w' (hb : Below W.heap.size W w') => TMay_is (w := w) (c := c) (s := s) w' (hl.below hb) (ht.below hb).wid hs
  rw [hM.yes] at K1
  have K2 := fun w' (hb : Below W.heap.size W w') => TMany_is (w := w) (c := c) (s := s) w' (hl.below hb) (ht.below hb).wid hs
  rw [hM.tm] at K2
  have KC := Lib.hid (fun w' (hb : Below W.heap.size W w') => Clone_fs a n c l w' (hl.below hb) hn)
  have K1 := Lib.hid K1
  have K2 := Lib.hid K2
  have HM := Lib.hid hM
  have HW := Lib.hid ht
  have hm := hM.le
  have hmk := run_mks m (by omega)
  have hA := (Tx.new 29 W w a n c s).alloc (.cells #[.slice none 0 0, .slice none 0 0] 25)
  have hB := Bx.new (W.alloc (.cells #[.int .i64 w, .slice a n c, .string s] 29)) none 0 0 none 0 0
  have s1 : (W.alloc (.cells #[.int .i64 w, .slice a n c, .string s] 29)).heap.size = W.heap.size + 1 := by simp
  rw [s1] at hB
  have hb0 := (box_below W (.cells #[.int .i64 w, .slice a n c, .string s] 29)).alloc (by omega) (.cells #[.slice none 0 0, .slice none 0 0] 25)
  clear hl ht hM s1
  go_enter Tryd.func18, Tryd.ntmps18
  go_wp2_with fail
  refine (K1.out _ hb0).mono ?_
  rintro e w1 ⟨rfl, hb⟩
  have hA1 := hA.on hb
  have hB1 := hB.below hb hB.lt
  have hb1 := hb0.trans (hb.mono hb0.size)
  have x0 := hA1.c0
  have x1 := hA1.c1
  have x2 := hA1.c2
  clear hA hB hb0 hb
  go_wp2_with fail
  refine (K2.out _ hb1).mono ?_
  rintro e w2 ⟨rfl, hb⟩
  have hA2 := (hA1.on hb).alloc (.cells (madeCells #[.string ⟨#[]⟩] m) 9)
  have hB2 := (hB1.below hb hB1.lt).alloc (.cells (madeCells #[.string ⟨#[]⟩] m) 9)
  have hb2 := hb1.trans (hb.mono hb1.size)
  have hR := Sr.made w2 m
  have hg2 : W.heap.size + 1 < w2.heap.size := Nat.lt_of_lt_of_le hB1.lt hb.size
  have hb3 := hb2.alloc hb2.size (.cells (madeCells #[.string ⟨#[]⟩] m) 9)
  clear hA1 hB1 hb1 hb2 x0 x1 x2 hb
  obtain ⟨g2, hg⟩ : ∃ g2, g2 = w2.heap.size := ⟨_, rfl⟩
  go_wp2_with fail
  rw [← hg] at hR hg2 ⊢
  go_loopw [15] (fun i wr => ∃ (k : Nat) (F : Nat → ByteArray), i = .int .i64 k ∧ k ≤ m ∧ Sr wr g2 m F ∧ Hid (∀ j, j < k → F j = S (el s b j)) ∧ Tx 29 wr W.heap.size w a n c s ∧ Bx wr (W.heap.size + 1) none 0 0 none 0 0 ∧ Below W.heap.size W wr) (fun i _ => m - (intOf i).toNat)
  case atStart => exact ⟨0, _, rfl, by omega, hR, Lib.hid (fun j hj => by omega), hA2, hB2, hb3⟩
  case round =>
    obtain ⟨k, F, rfl, hk, hR1, HF, hA3, hB3, hb4⟩ := hrel
    clear hA2 hB2 hb3 hR hg hmk
    have x0 := hA3.c0
    have x1 := hA3.c1
    have x2 := hA3.c2
    by_cases hlt : k < m
    · have e2 : (k : Int) < (m : Int) := by omega
      have KE := Lib.hid (element_is (a := a) (n := n) (c := c) HM.out.bw HM.out.sz HM.out.le hlt)
      have hfit := (el_fit HM.out.bw HM.out.sz hlt).i64 HM.out.bw
      have KO := Lib.hid (fun w' (hb : Below W.heap.size W w') => Of_any (el s b k) hfit.1 hfit.2 w' (HW.out.below hb).tab)
      obtain ⟨x, hx⟩ : ∃ x, x = el s b k := ⟨_, rfl⟩
      rw [← hx] at KE KO
      have HX := Lib.hid hx
      clear hx hfit
      go_wp2_with fail
      refine (KE.out _).mono ?_
      rintro e w3 ⟨rfl, hb⟩
      have hA4 := hA3.on hb
      have hB4 := hB3.below hb hB3.lt
      have hR4 := hR1.below hb
      have hb5 := hb4.trans (hb.mono hb4.size)
      clear hA3 hB3 hR1 hb4 hb x0 x1 x2
      go_wp2_with fail
      refine (KO.out _ hb5).mono ?_
      rintro e w4 ⟨rfl, hb⟩
      have hA5 := hA4.on hb
      have hB5 := hB4.below hb hB4.lt
      have hR5 := hR4.below hb
      have hb6 := hb5.trans (hb.mono hb5.size)
      clear hA4 hB4 hR4 hb5 hb
      have y0 := hR5.cell (i := k) hlt
      have f0 := hR5.frozen k
      have hR6 := hR5.set k (S x)
      have hA6 := hA5.setOther (p := ⟨g2, k, none⟩) (show W.heap.size ≠ g2 by omega) (.string (S x))
      have hB6 := hB5.setOther (p := ⟨g2, k, none⟩) (show W.heap.size + 1 ≠ g2 by omega) (.string (S x))
      have hb7 := hb6.setCell (p := ⟨g2, k, none⟩) (show W.heap.size ≤ g2 by omega) (.string (S x))
      have HF2 : Hid (∀ j, j < k + 1 → (fun j => if j = k then S x else F j) j = S (el s b j)) := Lib.hid fun j hj => by
        show (if j = k then S x else F j) = _
        by_cases hjk : j = k
        · rw [if_pos hjk, hjk, HX.out]
        · rw [if_neg hjk]; exact HF.out j (by omega)
      clear hA5 hB5 hR5 hb6
      go_wp2_with fail
      go_roundw
      case rel => exact ⟨k + 1, _, by go_num, by omega, hR6, HF2, hA6, hB6, hb7⟩
      case measure => simp [intOf]; omega
    · have e2 : ¬ (k : Int) < (m : Int) := by omega
      obtain rfl : k = m := by omega
      go_wp2_with fail
      refine (KC.out _ hb4).mono ?_
      rintro e w3 ⟨a', n', c', rfl, hs3, hn3, hb⟩
      have hB4 := hB3.below hb hB3.lt
      have hT : St w3 (some ⟨g2, 0, none⟩) k (txs (el s b) k) := ((hR1.below hb).st (txs_len _ _) (fun j hj => by rw [HF.out j hj, txs_get hj]))
      have hb5 := hb4.trans (hb.mono hb4.size)
      have y0 := hB4.c0
      have y1 := hB4.c1
      have f0 := hB4.f 0
      have f1 := hB4.f 1
      clear hA3 hB3 hR1 hb4 hb x0 x1 x2
      go_wp2_with fail
      have hB5 := hB4.set a' n' c' (some ⟨g2, 0, none⟩) k k
      have r0 := hB5.c0
      have r1 := hB5.c1
      exact bodyPost_ret (v := .tuple #[.agg #[.slice a' n' c', .slice (some ⟨g2, 0, none⟩) k k], .bool true]) (by simp [results, Tryd.results18, go_sem, r0, r1]) rfl ⟨_, _, _, _, _, _, rfl, ⟨hB4.sl hs3.1 _ _, hB4.st hT _ _, by omega⟩, hn3, below_made hb5 (by omega) _ _⟩
set_option maxRecDepth 10000 in
set_option maxHeartbeats 800000 in
theorem TVal_no {w : Int} {a : Option Addr} {n c : Nat} {l : List Int} {s : ByteArray} (W : World) (hl : Sl W a n l) (ht : WTab W) (hs : s.size ≤ maxLen) (hM : mayT w l s = false) :
    Calls Tryd.prog 18 #[.agg #[.int .i64 w, .slice a n c, .string s]] W (NoEnd W) := by
  have K1 := fun w' (hb : Below W.heap.size W w') => TMay_is (w := w) (c := c) (s := s) w' (hl.below hb) (ht.below hb) hs
  rw [hM] at K1
  have K1 := Lib.hid K1
  have hB := Bx.new (W.alloc (.cells #[.int .i64 w, .slice a n c, .string s] 29)) none 0 0 none 0 0
  have s1 : (W.alloc (.cells #[.int .i64 w, .slice a n c, .string s] 29)).heap.size = W.heap.size + 1 := by simp
  rw [s1] at hB
  have hb0 := (box_below W (.cells #[.int .i64 w, .slice a n c, .string s] 29)).alloc (by omega) (.cells #[.slice none 0 0, .slice none 0 0] 25)
  clear hl ht hM s1
  go_enter Tryd.func18, Tryd.ntmps18
  go_wp2_with fail
  refine (K1.out _ hb0).mono ?_
  rintro e w1 ⟨rfl, hb⟩
  have hB1 := hB.below hb hB.lt
  have hb1 := hb0.trans (hb.mono hb0.size)
  have y0 := hB1.c0
  have y1 := hB1.c1
  have f0 := hB1.f 0
  have f1 := hB1.f 1
  clear hB hb0 hb
  go_wp2_with fail
  have hB4 := hB1.set none 0 0 none 0 0
  have r0 := hB4.c0
  have r1 := hB4.c1
  exact bodyPost_ret (v := .tuple #[.agg #[.slice none 0 0, .slice none 0 0], .bool false]) (by simp [results, Tryd.results18, go_sem, r0, r1]) rfl ⟨rfl, below_made hb1 (by omega) _ _⟩
end Go.Proofs.YtdehcdnbalbdbaaDoor

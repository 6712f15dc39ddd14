import Derived.Test.YtjpjccilnmlmnaaGreatDoorMak
/-
  val.Ints and All of numbers that are told as texts; ValInts at every list.
-/
namespace Go.Proofs.YtjpjccilnmlmnaaGreatDoor
set_option linter.unusedVariables false
set_option linter.unusedSimpArgs false
open Go.RowKit

theorem run_mki (n : Nat) (hn : n ≤ 1000000) (w : World) :
    (Instr.makeSlice 22 (.int .i64 (n : Int)) (.int .i64 (n : Int))).run Tryz.prog w = .ok (.slice (some ⟨w.heap.size, 0, none⟩) n n) (w.alloc (.cells (madeCells #[.int .i64 0] n) 3)) :=
  run_make_row' 22 3 _ 8 Tryz.underlying22 infoInt1 rfl _ _ n (by omega) (by omega) w
/-- A whole row of ints of the call's own. -/
def Ir (w : World) (g n : Nat) (F : Nat → Int) : Prop := w.rowIs g 3 n (fun j => Value.int .i64 (F j))
theorem Ir.made (w : World) (n : Nat) : Ir (w.alloc (.cells (madeCells #[.int .i64 0] n) 3)) w.heap.size n (fun _ => 0) := World.rowIs_made w _ n _
theorem Ir.cell {w : World} {g n : Nat} {F : Nat → Int} (h : Ir w g n F) {i : Nat} (hi : i < n) : w.cell? ⟨g, i, none⟩ = some (.int .i64 (F i)) := World.rowIs.cell h hi
theorem Ir.frozen {w : World} {g n : Nat} {F : Nat → Int} (h : Ir w g n F) (i : Nat) : w.frozen? ⟨g, i, none⟩ = false := World.rowIs.frozen h i
theorem Ir.below {w w' : World} {g n : Nat} {F : Nat → Int} (h : Ir w g n F) (hb : Below w.heap.size w w') : Ir w' g n F := World.rowIs.of_block h (hb.block g (World.rowIs.lt h))
theorem Ir.set {w : World} {g n : Nat} {F : Nat → Int} (h : Ir w g n F) (i : Nat) (v : Int) : Ir (w.setCell ⟨g, i, none⟩ (.int .i64 v)) g n (fun j => if j = i then v else F j) := by
  refine (World.rowIs.set h i _).congr fun j _ => ?_
  show (if j = i then _ else _) = Value.int .i64 (if j = i then v else F j)
  split <;> rfl
theorem Ir.sl {w : World} {g n : Nat} {F : Nat → Int} (h : Ir w g n F) {l : List Int} (hl : l.length = n) (e : ∀ j, j < n → F j = l.getD j 0) : Sl w (some ⟨g, 0, none⟩) n l :=
  ⟨hl, fun _ => ⟨g, 0, rfl, fun j hj => by rw [Nat.zero_add, h.cell hj, e j hj]⟩⟩
theorem Sr.frozen {w : World} {g n : Nat} {F : Nat → ByteArray} (h : Sr w g n F) (i : Nat) : w.frozen? ⟨g, i, none⟩ = false := World.rowIs.frozen h i
theorem Sr.set {w : World} {g n : Nat} {F : Nat → ByteArray} (h : Sr w g n F) (i : Nat) (v : ByteArray) : Sr (w.setCell ⟨g, i, none⟩ (.string v)) g n (fun j => if j = i then v else F j) := by
  refine (World.rowIs.set h i _).congr fun j _ => ?_
  show (if j = i then _ else _) = Value.string (if j = i then v else F j)
  split <;> rfl
theorem map_getD (l : List Int) {j : Nat} (hj : j < l.length) : (l.map S).getD j ByteArray.empty = S (l.getD j 0) := by
  simp [List.getD_eq_getElem?_getD, List.getElem?_eq_getElem hj]

/-! ### Ints -/
def InEnd (n : Nat) (l : List Int) (W : World) (e : Ending) (W' : World) : Prop :=
  ∃ g1 g2, e = .returned (.agg #[.slice (some ⟨g1, 0, none⟩) 1 1, .slice (some ⟨g2, 0, none⟩) n n]) ∧ Vl W' (some ⟨g1, 0, none⟩) 1 (some ⟨g2, 0, none⟩) n [(n : Int)] (l.map S) ∧ Below W.heap.size W W'
set_option maxRecDepth 10000 in
set_option maxHeartbeats 800000 in
theorem Ints_is (a : Option Addr) (n c : Nat) (l : List Int) (W : World) (h : Sl W a n l) (hi : ∀ j, j < n → I64 (l.getD j 0)) (hn : n ≤ 1000000) (ht : WT W) :
    Calls Tryz.prog 29 #[.slice a n c] W (InEnd n l W) := by
  have HS := Lib.hid h
  have HI := Lib.hid hi
  have HW := Lib.hid ht
  have hmk := run_mks n hn
  clear h hi ht
  go_enter Tryz.func29, Tryz.ntmps29
  go_wp2_with fail
  have hA := (Bx.new W none 0 0 none 0 0).alloc (.cells (madeCells #[.string ⟨#[]⟩] n) 9)
  have hR := Sr.made (W.alloc (.cells #[.slice none 0 0, .slice none 0 0] 25)) n
  rw [show (W.alloc (.cells #[.slice none 0 0, .slice none 0 0] 25)).heap.size = W.heap.size + 1 by simp] at hR
  have hb0 : Below W.heap.size W ((W.alloc (.cells #[.slice none 0 0, .slice none 0 0] 25)).alloc (.cells (madeCells #[.string ⟨#[]⟩] n) 9)) := ((Below.refl _ _).alloc (Nat.le_refl _) _).alloc (by simp) _
  clear hmk
  go_loopw [11] (fun i wr => ∃ (k : Nat) (F : Nat → ByteArray), i = .int .i64 k ∧ k ≤ n ∧ Sr wr (W.heap.size + 1) n F ∧ Hid (∀ j, j < k → F j = S (l.getD j 0)) ∧ Bx wr W.heap.size none 0 0 none 0 0 ∧ Below W.heap.size W wr) (fun i _ => n - (intOf i).toNat)
  case atStart => exact ⟨0, _, rfl, by omega, hR, Lib.hid (fun j hj => by omega), hA, hb0⟩
  case round =>
    obtain ⟨k, F, rfl, hk, hR1, HF, hA1, hb1⟩ := hrel
    clear hA hR hb0
    by_cases hlt : k < n
    · have e2 : (k : Int) < (n : Int) := by omega
      obtain ⟨bb, off, rfl, hc⟩ := HS.out.2 (by omega)
      have hck := (hb1.cell (p := ⟨bb, off + k, none⟩) (World.block_lt_of_cell? W _ (hc k hlt))).trans (hc k hlt)
      have KO := Lib.hid (Of_any (l.getD k 0) (HI.out k hlt).1 (HI.out k hlt).2 wr (HW.out.below hb1).tab)
      obtain ⟨x, hx⟩ : ∃ x, x = l.getD k 0 := ⟨_, rfl⟩
      rw [← hx] at hck KO
      have HX := Lib.hid hx
      clear hc hx
      go_wp2_with fail
      refine KO.out.mono ?_
      rintro e w2 ⟨rfl, hb⟩
      have hA2 := hA1.below hb hA1.lt
      have hR2 := hR1.below hb
      have hb2 := hb1.trans (hb.mono hb1.size)
      have y0 := hR2.cell (i := k) hlt
      have f0 := hR2.frozen k
      clear hA1 hR1 hb1 hb hck
      have hR3 := hR2.set k (S x)
      have hA3 := hA2.setOther (p := ⟨W.heap.size + 1, k, none⟩) (show W.heap.size ≠ W.heap.size + 1 by omega) (.string (S x))
      have hb3 := hb2.setCell (p := ⟨W.heap.size + 1, k, none⟩) (show W.heap.size ≤ W.heap.size + 1 by omega) (.string (S x))
      have HF2 : Hid (∀ j, j < k + 1 → (fun j => if j = k then S x else F j) j = S (l.getD j 0)) := Lib.hid fun j hj => by
        show (if j = k then S x else F j) = _
        by_cases hjk : j = k
        · rw [if_pos hjk, hjk, HX.out]
        · rw [if_neg hjk]; exact HF.out j (by omega)
      go_wp2_with fail
      go_roundw
      case rel => exact ⟨k + 1, _, by go_num, by omega, hR3, HF2, hA3, hb3⟩
      case measure => simp [intOf]; omega
    · have e2 : ¬ (k : Int) < (n : Int) := by omega
      obtain rfl : k = n := by omega
      have hA2 := hA1.alloc (.cells #[.int .i64 k] 3)
      have y0 := hA2.c0
      have y1 := hA2.c1
      have f0 := hA2.f 0
      have f1 := hA2.f 1
      have hb2 := hb1.alloc hb1.size (.cells #[.int .i64 k] 3)
      have hS : Sl (wr.alloc (.cells #[.int .i64 k] 3)) (some ⟨wr.heap.size, 0, none⟩) 1 [(k : Int)] := Sl.row (l := [(k : Int)]) (heap_alloc_new wr _)
      have hT : St (wr.alloc (.cells #[.int .i64 k] 3)) (some ⟨W.heap.size + 1, 0, none⟩) k (l.map S) := (hR1.st (by rw [List.length_map, HS.out.1]) (fun j hj => by rw [HF.out j hj, map_getD l (by rw [HS.out.1]; exact hj)])).below ((Below.refl _ _).alloc (Nat.le_refl _) _)
      clear hA1 hR1 hb1
      go_wp2_with fail
      have hA3 := hA2.set (some ⟨wr.heap.size, 0, none⟩) 1 1 (some ⟨W.heap.size + 1, 0, none⟩) k k
      have r0 := hA3.c0
      have r1 := hA3.c1
      exact bodyPost_ret (v := .agg #[.slice (some ⟨wr.heap.size, 0, none⟩) 1 1, .slice (some ⟨W.heap.size + 1, 0, none⟩) k k]) (by simp [results, Tryz.results29, go_sem, r0, r1]) rfl ⟨_, _, rfl, ⟨hA2.sl hS _ _, hA2.st hT _ _, by omega⟩, below_made hb2 (Nat.le_refl _) _ _⟩

/-! ### All -/
def AlEnd (n : Nat) (l : List Int) (W : World) (e : Ending) (W' : World) : Prop :=
  ∃ a n' c' z, e = .returned (.tuple #[.slice a n' c', .int .i64 z]) ∧ ((l.all fine = true ∧ z = 0 ∧ n' = n ∧ Sl W' a n' l) ∨ (l.all fine = false ∧ z = 5)) ∧ Below W.heap.size W W'
theorem fine_all {l : List Int} : l.all fine = true ↔ ∀ j, j < l.length → fine (l.getD j 0) = true := by
  rw [List.all_eq_true]
  constructor
  · intro h j hj
    rw [List.getD_eq_getElem?_getD, List.getElem?_eq_getElem hj]
    exact h _ (List.getElem_mem hj)
  · intro h x hx
    obtain ⟨j, hj, rfl⟩ := List.getElem_of_mem hx
    have := h j hj
    rwa [List.getD_eq_getElem?_getD, List.getElem?_eq_getElem hj] at this
theorem fine_some {l : List Int} {j : Nat} (hj : j < l.length) (h : fine (l.getD j 0) = false) : l.all fine = false := by
  rw [← Bool.not_eq_true]
  intro hh
  rw [fine_all.1 hh j hj] at h
  cases h
set_option maxRecDepth 10000 in
set_option maxHeartbeats 800000 in
theorem All_is {a b : Option Addr} {k c n d : Nat} {s l : List Int} (W : World) (h : Vl W a k b n s (l.map S)) (hi : ∀ j, j < n → I64 (l.getD j 0)) (hn : n ≤ 1000000) :
    Calls Tryz.prog 51 #[.agg #[.slice a k c, .slice b n d]] W (AlEnd n l W) := by
  have hll : l.length = n := by have := h.t.1; rwa [List.length_map] at this
  have HL := Lib.hid hll
  have HT := Lib.hid h.t
  have HI := Lib.hid hi
  have hmk := run_mki n hn
  clear h hi hll
  go_enter Tryz.func51, Tryz.ntmps51
  have hA := (Bx.new W a k c b n d).alloc (.cells (madeCells #[.int .i64 0] n) 3)
  have x1 := hA.c1
  go_wp2_with fail
  have hR := Ir.made (W.alloc (.cells #[.slice a k c, .slice b n d] 25)) n
  rw [show (W.alloc (.cells #[.slice a k c, .slice b n d] 25)).heap.size = W.heap.size + 1 by simp] at hR
  have hb0 : Below W.heap.size W ((W.alloc (.cells #[.slice a k c, .slice b n d] 25)).alloc (.cells (madeCells #[.int .i64 0] n) 3)) := ((Below.refl _ _).alloc (Nat.le_refl _) _).alloc (by simp) _
  clear hmk x1
  go_loopw [16] (fun i wr => ∃ (q : Nat) (F : Nat → Int), i = .int .i64 q ∧ q ≤ n ∧ Ir wr (W.heap.size + 1) n F ∧ Hid (∀ j, j < q → F j = l.getD j 0 ∧ fine (l.getD j 0) = true) ∧ Below W.heap.size W wr) (fun i _ => n - (intOf i).toNat)
  case atStart => exact ⟨0, _, rfl, by omega, hR, Lib.hid (fun j hj => by omega), hb0⟩
  case round =>
    obtain ⟨q, F, rfl, hq, hR1, HF, hb1⟩ := hrel
    clear hA hR hb0
    by_cases hlt : q < n
    · have e2 : (q : Int) < (n : Int) := by omega
      obtain ⟨bb, off, rfl, hc⟩ := HT.out.2 (by omega)
      have hck := (hb1.cell (p := ⟨bb, off + q, none⟩) (World.block_lt_of_cell? W _ (hc q hlt))).trans (hc q hlt)
      rw [map_getD l (by rw [HL.out]; exact hlt)] at hck
      have hx64 := HI.out q hlt
      obtain ⟨x, hx⟩ : ∃ x, x = l.getD q 0 := ⟨_, rfl⟩
      rw [← hx] at hck hx64
      have KO := Lib.hid (Int_ok x hx64.1 hx64.2 wr)
      have HX := Lib.hid hx
      clear hc hx hx64
      generalize hs : S x = t at hck KO
      clear hs
      rcases Bool.eq_false_or_eq_true (fine x) with hf | hf
      · have KN := Lib.hid (near_yes t x wr KO.out hf)
        have HFX := Lib.hid hf
        clear hf
        go_wp2_with fail
        refine KN.out.mono ?_
        rintro e w2 ⟨rfl, hb⟩
        have hR2 := hR1.below hb
        have hb2 := hb1.trans (hb.mono hb1.size)
        have y0 := hR2.cell (i := q) hlt
        have f0 := hR2.frozen q
        clear hR1 hb1 hb hck
        have hR3 := hR2.set q x
        have hb3 := hb2.setCell (p := ⟨W.heap.size + 1, q, none⟩) (show W.heap.size ≤ W.heap.size + 1 by omega) (.int .i64 x)
        have HF2 : Hid (∀ j, j < q + 1 → (fun j => if j = q then x else F j) j = l.getD j 0 ∧ fine (l.getD j 0) = true) := Lib.hid fun j hj => by
          show (if j = q then x else F j) = _ ∧ _
          by_cases hjk : j = q
          · rw [if_pos hjk, hjk, ← HX.out]; exact ⟨rfl, HFX.out⟩
          · rw [if_neg hjk]; exact HF.out j (by omega)
        go_wp2_with fail
        go_roundw
        case rel => exact ⟨q + 1, _, by go_num, by omega, hR3, HF2, hb3⟩
        case measure => simp [intOf]; omega
      · have KN := Lib.hid (near_no t x true wr KO.out (.inr hf))
        have HN := Lib.hid (fine_some (l := l) (j := q) (by rw [HL.out]; exact hlt) (by rw [← HX.out]; exact hf))
        clear hf
        go_wp2_with fail
        refine KN.out.mono ?_
        rintro e w2 ⟨rfl, hb⟩
        have hb2 := hb1.trans (hb.mono hb1.size)
        go_wp2_with fail
        go_ret2
        exact ⟨none, 0, 0, 5, rfl, .inr ⟨HN.out, rfl⟩, hb2⟩
    · have e2 : ¬ (q : Int) < (n : Int) := by omega
      obtain rfl : q = n := by omega
      have hS : Sl wr (some ⟨W.heap.size + 1, 0, none⟩) q l := hR1.sl HL.out (fun j hj => (HF.out j hj).1)
      have HSS := Lib.hid hS
      have HAll := Lib.hid (fine_all.2 fun j hj => (HF.out j (by rw [HL.out] at hj; exact hj)).2)
      clear hS hR1
      go_wp2_with fail
      go_ret2
      exact ⟨_, _, _, 0, rfl, .inl ⟨HAll.out, rfl, rfl, HSS.out⟩, hb1⟩
end Go.Proofs.YtjpjccilnmlmnaaGreatDoor

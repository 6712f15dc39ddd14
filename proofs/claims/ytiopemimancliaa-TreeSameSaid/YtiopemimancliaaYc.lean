/-
  How many trees are below a node: of the program, and of the reference.
-/
import Derived.Test.YtiopemimancliaaYb
namespace Go.Proofs.Ytiopemimancliaa
open Go.RowKit

/-- A box with a node in it. -/
def Bd (W : World) (i : Nat) (k : Int) (v a x : ByteArray) (g : Option Addr) (m c : Nat) : Prop := W.heap[i]? = some (.cells #[.int .i64 k, .string v, .string a, .string x, .slice g m c] 25 (0, 0))
section
variable {W W' : World} {i m c : Nat} {k : Int} {v a x : ByteArray} {g : Option Addr}
theorem Bd.lt (h : Bd W i k v a x g m c) : i < W.heap.size := (Array.getElem?_eq_some_iff.1 h).1
theorem Bd.c0 (h : Bd W i k v a x g m c) : W.cell? ⟨i, 0, none⟩ = some (.int .i64 k) := by rw [cell_of_row _ _ 0 _ _ _ h]; rfl
theorem Bd.c1 (h : Bd W i k v a x g m c) : W.cell? ⟨i, 1, none⟩ = some (.string v) := by rw [cell_of_row _ _ 1 _ _ _ h]; rfl
theorem Bd.c2 (h : Bd W i k v a x g m c) : W.cell? ⟨i, 2, none⟩ = some (.string a) := by rw [cell_of_row _ _ 2 _ _ _ h]; rfl
theorem Bd.c3 (h : Bd W i k v a x g m c) : W.cell? ⟨i, 3, none⟩ = some (.string x) := by rw [cell_of_row _ _ 3 _ _ _ h]; rfl
theorem Bd.c4 (h : Bd W i k v a x g m c) : W.cell? ⟨i, 4, none⟩ = some (.slice g m c) := by rw [cell_of_row _ _ 4 _ _ _ h]; rfl
theorem Bd.f (h : Bd W i k v a x g m c) (j : Nat) : W.frozen? ⟨i, j, none⟩ = false := frozen_of_row _ _ j _ _ h
theorem Bd.below (h : Bd W i k v a x g m c) {B : Nat} (hb : Below B W W') (hg : i < B) : Bd W' i k v a x g m c := (hb.block i hg).trans h
theorem Bd.on (h : Bd W i k v a x g m c) (hb : Below W.heap.size W W') : Bd W' i k v a x g m c := (hb.block i h.lt).trans h
theorem Bd.alloc (h : Bd W i k v a x g m c) (o : Obj) : Bd (W.alloc o) i k v a x g m c := (Below.heap_alloc W o i h.lt).trans h
theorem Bd.new (W : World) (k : Int) (v a x : ByteArray) (g : Option Addr) (m c : Nat) : Bd (W.alloc (.cells #[.int .i64 k, .string v, .string a, .string x, .slice g m c] 25)) W.heap.size k v a x g m c := heap_alloc_new W _
theorem box_below (W : World) (o : Obj) : Below W.heap.size W (W.alloc o) := (Below.refl _ W).alloc (Nat.le_refl _) o
end
set_option maxHeartbeats 1600000 in
theorem Kids_is (k : Int) (v a x : ByteArray) (g : Option Addr) (m c : Nat) (W : World) :
    Calls Try.prog 11 #[.agg #[.int .i64 k, .string v, .string a, .string x, .slice g m c]] W (ValEnd (.int .i64 (kd k v)) W) := by
  have hB := Bd.new W k v a x g m c
  have c0 := hB.c0
  have c1 := hB.c1
  have hb := Lib.hid (box_below W (.cells #[.int .i64 k, .string v, .string a, .string x, .slice g m c] 25))
  clear hB
  go_enter Try.func11, Try.ntmps11
  go_wp2_with fail
  all_goals
    go_ret
    exact ⟨by simp_all [kd], hb.out⟩
theorem kd_out {k : Int} (v : ByteArray) (h : k < 1 ∨ 8 < k) : kd k v = -1 := by
  unfold kd
  rw [if_neg (by omega), if_neg (by omega), if_neg (by omega), if_neg (by omega), if_neg (by omega)]
set_option maxHeartbeats 1600000 in
theorem rKids_is (k : Int) (v a x : ByteArray) (g : Option Addr) (m c : Nat) (W : World) :
    Calls Try.prog 12 #[.agg #[.int .i64 k, .string v, .string a, .string x, .slice g m c]] W (ValEnd (.int .i64 (kd k v)) W) := by
  have hB := Bd.new W k v a x g m c
  obtain ⟨W1, hW1⟩ : ∃ W1, W1 = W.alloc (.cells #[.int .i64 k, .string v, .string a, .string x, .slice g m c] 25) := ⟨_, rfl⟩
  have hB1 := (hW1 ▸ hB).alloc (.cells #[.int .i64 (-1), .int .i64 0, .int .i64 0, .int .i64 1, .int .i64 2, .int .i64 1, .int .i64 2, .int .i64 1, .int .i64 2] 3)
  rw [hW1] at hB1
  have c0 := hB1.c0
  have c1 := hB1.c1
  have hb := Lib.hid ((box_below W (.cells #[.int .i64 k, .string v, .string a, .string x, .slice g m c] 25)).alloc (by simp) (.cells #[.int .i64 (-1), .int .i64 0, .int .i64 0, .int .i64 1, .int .i64 2, .int .i64 1, .int .i64 2, .int .i64 1, .int .i64 2] 3))
  clear hB hW1 hB1 W1
  by_cases h1 : k < 1
  · go_enter Try.func12, Try.ntmps12
    go_wp2_with fail
    all_goals
      go_ret
      exact ⟨by rw [kd_out v (by omega)]; rfl, hb.out⟩
  by_cases h8 : 8 < k
  · go_enter Try.func12, Try.ntmps12
    go_wp2_with fail
    all_goals
      go_ret
      exact ⟨by rw [kd_out v (by omega)]; rfl, hb.out⟩
  have hk : k = 1 ∨ k = 2 ∨ k = 3 ∨ k = 4 ∨ k = 5 ∨ k = 6 ∨ k = 7 ∨ k = 8 := by omega
  clear h1 h8
  rcases hk with rfl | rfl | rfl | rfl | rfl | rfl | rfl | rfl
  all_goals
    go_enter Try.func12, Try.ntmps12
    go_wp2_with fail
    all_goals
      go_ret
      exact ⟨by simp_all [kd], hb.out⟩
end Go.Proofs.Ytiopemimancliaa

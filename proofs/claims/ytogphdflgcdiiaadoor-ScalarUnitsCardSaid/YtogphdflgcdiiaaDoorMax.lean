import Derived.Test.YtogphdflgcdiiaaDoorMaw
namespace Go.Proofs.YtogphdflgcdiiaaDoor
set_option linter.unusedVariables false
set_option linter.unusedSimpArgs false
open Go.RowKit

/-- Block g is one number's struct. -/
def Nb (W : World) (g : Nat) (s : Int) (P : Option Addr) (n c : Nat) : Prop := W.heap[g]? = some (.cells #[.int .i64 s, .slice P n c] 46 (0, 0))
section
variable {W W' : World} {g : Nat} {s : Int} {P : Option Addr} {n c : Nat}
theorem Nb.lt (h : Nb W g s P n c) : g < W.heap.size := (Array.getElem?_eq_some_iff.1 h).1
theorem Nb.c0 (h : Nb W g s P n c) : W.cell? ⟨g, 0, none⟩ = some (.int .i64 s) := by rw [cell_of_row _ _ 0 _ _ _ h]; rfl
theorem Nb.c1 (h : Nb W g s P n c) : W.cell? ⟨g, 1, none⟩ = some (.slice P n c) := by rw [cell_of_row _ _ 1 _ _ _ h]; rfl
theorem Nb.f (h : Nb W g s P n c) (i : Nat) : W.frozen? ⟨g, i, none⟩ = false := frozen_of_row _ _ i _ _ h
theorem Nb.far (h : Nb W g s P n c) (i : Nat) (k : Int) : W.cell? ⟨g, i, none⟩ ≠ some (.int .u32 k) := by
  rw [cell_of_row _ _ i _ _ _ h]
  rcases i with _ | _ | i <;> simp
theorem Nb.below (h : Nb W g s P n c) {B : Nat} (hb : Below B W W') (hg : g < B) : Nb W' g s P n c := (hb.block g hg).trans h
theorem Nb.only (h : Nb W g s P n c) {g' : Nat} (hb : Only g' W W') (hg : g ≠ g') : Nb W' g s P n c := (hb.block g h.lt (by intro e; injection e with e; exact hg e)).trans h
theorem Nb.alloc (h : Nb W g s P n c) (o : Obj) : Nb (W.alloc o) g s P n c := (Below.heap_alloc W o g h.lt).trans h
theorem Nb.new (W : World) (s : Int) (P : Option Addr) (n c : Nat) : Nb (W.alloc (.cells #[.int .i64 s, .slice P n c] 46)) W.heap.size s P n c := heap_alloc_new W _
theorem Nb.set (h : Nb W g s P n c) (s' : Int) (P' : Option Addr) (n' c' : Nat) : Nb ((W.setCell ⟨g, 0, none⟩ (.int .i64 s')).setCell ⟨g, 1, none⟩ (.slice P' n' c')) g s' P' n' c' := by
  unfold Nb at *
  simp [World.setCell, Array.getElem?_modify, h]
end
theorem Only.two (g : Nat) (W : World) (u v : Value) : Only g W ((W.setCell ⟨g, 0, none⟩ u).setCell ⟨g, 1, none⟩ v) := ((Only.refl g W).setCell 0 u).setCell 1 v

/-- Two structs that came by value, and places for two results. -/
structure B4 (w W : World) (s0 : Int) (P0 : Option Addr) (n0 c0 : Nat) (s1 : Int) (P1 : Option Addr) (n1 c1 : Nat) (s2 : Int) (P2 : Option Addr) (n2 c2 : Nat) (s3 : Int) (P3 : Option Addr) (n3 c3 : Nat) : Prop where
  a : Nb W w.heap.size s0 P0 n0 c0
  b : Nb W (w.heap.size + 1) s1 P1 n1 c1
  r : Nb W (w.heap.size + 1 + 1) s2 P2 n2 c2
  t : Nb W (w.heap.size + 1 + 1 + 1) s3 P3 n3 c3
  bel : Below w.heap.size w W
section
variable {w W W' : World} {s0 s1 s2 s3 : Int} {P0 P1 P2 P3 : Option Addr} {n0 n1 n2 n3 c0 c1 c2 c3 : Nat}
theorem b4_new (w : World) (s0 : Int) (P0 : Option Addr) (n0 c0 : Nat) (s1 : Int) (P1 : Option Addr) (n1 c1 : Nat) :
    B4 w ((((w.alloc (.cells #[.int .i64 s0, .slice P0 n0 c0] 46)).alloc (.cells #[.int .i64 s1, .slice P1 n1 c1] 46)).alloc (.cells #[.int .i64 0, .slice none 0 0] 46)).alloc (.cells #[.int .i64 0, .slice none 0 0] 46))
      s0 P0 n0 c0 s1 P1 n1 c1 0 none 0 0 0 none 0 0 := by
  have h1 := Nb.new w s0 P0 n0 c0
  have h2 := Nb.new (w.alloc (.cells #[.int .i64 s0, .slice P0 n0 c0] 46)) s1 P1 n1 c1
  have h3 := Nb.new ((w.alloc (.cells #[.int .i64 s0, .slice P0 n0 c0] 46)).alloc (.cells #[.int .i64 s1, .slice P1 n1 c1] 46)) 0 none 0 0
  have h4 := Nb.new (((w.alloc (.cells #[.int .i64 s0, .slice P0 n0 c0] 46)).alloc (.cells #[.int .i64 s1, .slice P1 n1 c1] 46)).alloc (.cells #[.int .i64 0, .slice none 0 0] 46)) 0 none 0 0
  rw [show (w.alloc (.cells #[.int .i64 s0, .slice P0 n0 c0] 46)).heap.size = w.heap.size + 1 by simp] at h2
  rw [show ((w.alloc (.cells #[.int .i64 s0, .slice P0 n0 c0] 46)).alloc (.cells #[.int .i64 s1, .slice P1 n1 c1] 46)).heap.size = w.heap.size + 1 + 1 by simp] at h3
  rw [show (((w.alloc (.cells #[.int .i64 s0, .slice P0 n0 c0] 46)).alloc (.cells #[.int .i64 s1, .slice P1 n1 c1] 46)).alloc (.cells #[.int .i64 0, .slice none 0 0] 46)).heap.size = w.heap.size + 1 + 1 + 1 by simp] at h4
  exact ⟨((h1.alloc _).alloc _).alloc _, (h2.alloc _).alloc _, h3.alloc _, h4, (((Below.refl _ _).alloc (Nat.le_refl _) _).alloc (by simp) _ |>.alloc (by simp; omega) _).alloc (by simp; omega) _⟩
theorem B4.below (h : B4 w W s0 P0 n0 c0 s1 P1 n1 c1 s2 P2 n2 c2 s3 P3 n3 c3) (hb : Below W.heap.size W W') : B4 w W' s0 P0 n0 c0 s1 P1 n1 c1 s2 P2 n2 c2 s3 P3 n3 c3 :=
  ⟨h.a.below hb h.a.lt, h.b.below hb h.b.lt, h.r.below hb h.r.lt, h.t.below hb h.t.lt, h.bel.trans (hb.mono (by have := h.a.lt; omega))⟩
theorem B4.set_r (h : B4 w W s0 P0 n0 c0 s1 P1 n1 c1 s2 P2 n2 c2 s3 P3 n3 c3) (s : Int) (P : Option Addr) (n c : Nat) :
    B4 w ((W.setCell ⟨w.heap.size + 1 + 1, 0, none⟩ (.int .i64 s)).setCell ⟨w.heap.size + 1 + 1, 1, none⟩ (.slice P n c)) s0 P0 n0 c0 s1 P1 n1 c1 s P n c s3 P3 n3 c3 :=
  ⟨h.a.only (Only.two _ _ _ _) (by omega), h.b.only (Only.two _ _ _ _) (by omega), h.r.set _ _ _ _, h.t.only (Only.two _ _ _ _) (by omega), h.bel.trans ((Only.two _ _ _ _).to_below (by omega) (by have := h.a.lt; omega))⟩
theorem B4.set_t (h : B4 w W s0 P0 n0 c0 s1 P1 n1 c1 s2 P2 n2 c2 s3 P3 n3 c3) (s : Int) (P : Option Addr) (n c : Nat) :
    B4 w ((W.setCell ⟨w.heap.size + 1 + 1 + 1, 0, none⟩ (.int .i64 s)).setCell ⟨w.heap.size + 1 + 1 + 1, 1, none⟩ (.slice P n c)) s0 P0 n0 c0 s1 P1 n1 c1 s2 P2 n2 c2 s P n c :=
  ⟨h.a.only (Only.two _ _ _ _) (by omega), h.b.only (Only.two _ _ _ _) (by omega), h.r.only (Only.two _ _ _ _) (by omega), h.t.set _ _ _ _, h.bel.trans ((Only.two _ _ _ _).to_below (by omega) (by have := h.a.lt; omega))⟩
end
end Go.Proofs.YtogphdflgcdiiaaDoor

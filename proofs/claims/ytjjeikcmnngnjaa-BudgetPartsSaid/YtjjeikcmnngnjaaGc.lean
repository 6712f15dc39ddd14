/-
  Boxes with a budget in them; what makes budgets, by its contracts.
-/
import Derived.Test.YtjjeikcmnngnjaaGb
import Derived.Below
import Derived.Deep.RegionWith
namespace Go.Proofs.Ytjjeikcmnngnjaa
open Go.RowKit

/-- A block with a budget in it, the program's or the reference's. -/
def Bt (t : TypeId) (W : World) (g : Nat) (x y : Int) : Prop := W.heap[g]? = some (.cells #[.int .i64 x, .int .i64 y] t (0, 0))
section
variable {t : TypeId} {W W' : World} {g : Nat} {x y : Int}
theorem Bt.lt (h : Bt t W g x y) : g < W.heap.size := (Array.getElem?_eq_some_iff.1 h).1
theorem Bt.c0 (h : Bt t W g x y) : W.cell? ⟨g, 0, none⟩ = some (.int .i64 x) := by rw [cell_of_row _ _ 0 _ _ _ h]; rfl
theorem Bt.c1 (h : Bt t W g x y) : W.cell? ⟨g, 1, none⟩ = some (.int .i64 y) := by rw [cell_of_row _ _ 1 _ _ _ h]; rfl
theorem Bt.f (h : Bt t W g x y) (i : Nat) : W.frozen? ⟨g, i, none⟩ = false := frozen_of_row _ _ i _ _ h
theorem Bt.below (h : Bt t W g x y) {B : Nat} (hb : Below B W W') (hg : g < B) : Bt t W' g x y := (hb.block g hg).trans h
theorem Bt.on (h : Bt t W g x y) (hb : Below W.heap.size W W') : Bt t W' g x y := h.below hb h.lt
theorem Bt.alloc (h : Bt t W g x y) (o : Obj) : Bt t (W.alloc o) g x y := (Below.heap_alloc W o g h.lt).trans h
theorem Bt.new (t : TypeId) (W : World) (x y : Int) : Bt t (W.alloc (.cells #[.int .i64 x, .int .i64 y] t)) W.heap.size x y := heap_alloc_new W _
theorem Bt.new' (t : TypeId) (W : World) {g : Nat} (hg : g = W.heap.size) (x y : Int) : Bt t (W.alloc (.cells #[.int .i64 x, .int .i64 y] t)) g x y := by rw [hg]; exact heap_alloc_new W _
theorem Bt.set (h : Bt t W g x y) (x' y' : Int) : Bt t ((W.setCell ⟨g, 0, none⟩ (.int .i64 x')).setCell ⟨g, 1, none⟩ (.int .i64 y')) g x' y' := by
  unfold Bt at h ⊢
  simp [World.setCell, Array.getElem?_modify, h]
theorem Bt.setOther (h : Bt t W g x y) {p : Addr} (hp : g ≠ p.block) (u : Value) : Bt t (W.setCell p u) g x y := (Below.heap_setCell W p u g hp).trans h
theorem Bt.drewN (h : Bt t W g x y) (q : Nat) : Bt t (W.drewN q) g x y := h
theorem Bt.drew (h : Bt t W g x y) : Bt t W.drew g x y := h
theorem below_made {B : Nat} (hb : Below B W W') (hg : B ≤ g) (u v : Value) : Below B W ((W'.setCell ⟨g, 0, none⟩ u).setCell ⟨g, 1, none⟩ v) := (hb.setCell hg u).setCell hg v
end
theorem box_below (W : World) (o : Obj) : Below W.heap.size W (W.alloc o) := (Below.refl _ _).alloc (Nat.le_refl _) _
theorem below_drewN {B : Nat} {a w : World} (h : Below B a w) (n : Nat) : Below B a (w.drewN n) := ⟨h.os, h.tape, h.output, h.size, h.block⟩
/-- A call that returns this, and leaves what there was. -/
def AggEnd (v : Value) (W : World) (e : Ending) (W' : World) : Prop := e = .returned v ∧ Below W.heap.size W W'
def TrueEnd (W : World) (e : Ending) (W' : World) : Prop := e = .returned (.bool true) ∧ Below W.heap.size W W'

theorem Made_is (x y : Int) (W : World) : Calls Try.prog 9 #[.agg #[.int .i64 x, .int .i64 y]] W (AggEnd (.agg #[.int .i64 x, .int .i64 y]) W) := by
  have s1 : (W.alloc (.cells #[.int .i64 x, .int .i64 y] 23)).heap.size = W.heap.size + 1 := by simp
  have hA := (Bt.new 23 W x y).alloc (.cells #[.int .i64 0, .int .i64 0] 25)
  have hR := Bt.new' 25 (W.alloc (.cells #[.int .i64 x, .int .i64 y] 23)) s1.symm 0 0
  have hR2 := Bt.new' 25 (W.alloc (.cells #[.int .i64 x, .int .i64 y] 23)) s1.symm x y
  have hbl := (box_below W (.cells #[.int .i64 x, .int .i64 y] 23)).alloc (by omega) (.cells #[.int .i64 x, .int .i64 y] 25)
  have x0 := hA.c0
  have x1 := hA.c1
  have y0 := hR.c0
  have y1 := hR.c1
  have f0 := hR.f 0
  have f1 := hR.f 1
  clear s1
  go_enter Try.func9, Try.ntmps9
  go_wp2_with fail
  have r0 := hR2.c0
  have r1 := hR2.c1
  exact bodyPost_ret (v := .agg #[.int .i64 x, .int .i64 y]) (by simp [results, Try.results9, go_sem, r0, r1]) rfl ⟨rfl, hbl⟩
theorem Real_is (x y : Int) (W : World) : Calls Try.prog 14 #[.agg #[.int .i64 x, .int .i64 y]] W (AggEnd (.agg #[.int .i64 x, .int .i64 y]) W) := by
  have s1 : (W.alloc (.cells #[.int .i64 x, .int .i64 y] 25)).heap.size = W.heap.size + 1 := by simp
  have hA := (Bt.new 25 W x y).alloc (.cells #[.int .i64 0, .int .i64 0] 23)
  have hR := Bt.new' 23 (W.alloc (.cells #[.int .i64 x, .int .i64 y] 25)) s1.symm 0 0
  have hR2 := Bt.new' 23 (W.alloc (.cells #[.int .i64 x, .int .i64 y] 25)) s1.symm x y
  have hbl := (box_below W (.cells #[.int .i64 x, .int .i64 y] 25)).alloc (by omega) (.cells #[.int .i64 x, .int .i64 y] 23)
  have x0 := hA.c0
  have x1 := hA.c1
  have y0 := hR.c0
  have y1 := hR.c1
  have f0 := hR.f 0
  have f1 := hR.f 1
  clear s1
  go_enter Try.func14, Try.ntmps14
  go_wp2_with fail
  have r0 := hR2.c0
  have r1 := hR2.c1
  exact bodyPost_ret (v := .agg #[.int .i64 x, .int .i64 y]) (by simp [results, Try.results14, go_sem, r0, r1]) rfl ⟨rfl, hbl⟩
theorem New_is (x y : Int) (W : World) : Calls Try.prog 17 #[.int .i64 x, .int .i64 y] W (AggEnd (.agg #[.int .i64 (bd x), .int .i64 (bd y)]) W) := by
  have K := Lib.hid (fun z w => Bounded_is z w)
  have K1 := Lib.hid (K.out x)
  have K2 := Lib.hid (K.out y)
  clear K
  generalize bd x = a at *
  generalize bd y = b at *
  have hR := Bt.new 25 W 0 0
  have hR2 := Bt.new 25 W a b
  have hbl := box_below W (.cells #[.int .i64 a, .int .i64 b] 25)
  have y0 := hR.c0
  have y1 := hR.c1
  have f0 := hR.f 0
  have f1 := hR.f 1
  have hmf : ∀ (fn : Fn) (first cap : Array Value) (w : World), (Instr.makeFunc fn first cap).run Try.prog w = .ok (.func fn first cap) w := fun _ _ _ _ => rfl
  go_enter Try.func17, Try.ntmps17
  go_wp2_with fail
  refine (K1.out _).mono ?_
  rintro e w1 ⟨rfl, rfl⟩
  go_wp2_with fail
  refine (K2.out _).mono ?_
  rintro e w2 ⟨rfl, rfl⟩
  go_wp2_with fail
  have r0 := hR2.c0
  have r1 := hR2.c1
  exact bodyPost_ret (v := .agg #[.int .i64 a, .int .i64 b]) (by simp [results, Try.results17, go_sem, r0, r1]) rfl ⟨rfl, hbl⟩
theorem rNew_is (x y : Int) (W : World) : Calls Try.prog 18 #[.int .i64 x, .int .i64 y] W (AggEnd (.agg #[.int .i64 (bd x), .int .i64 (bd y)]) W) := by
  have K := Lib.hid (fun z w => rBounded_is z w)
  have K1 := Lib.hid (K.out x)
  have K2 := Lib.hid (K.out y)
  clear K
  generalize bd x = a at *
  generalize bd y = b at *
  have hR := Bt.new 23 W 0 0
  have hR2 := Bt.new 23 W a b
  have hbl := box_below W (.cells #[.int .i64 a, .int .i64 b] 23)
  have y0 := hR.c0
  have y1 := hR.c1
  have f0 := hR.f 0
  have f1 := hR.f 1
  have hmf : ∀ (fn : Fn) (first cap : Array Value) (w : World), (Instr.makeFunc fn first cap).run Try.prog w = .ok (.func fn first cap) w := fun _ _ _ _ => rfl
  go_enter Try.func18, Try.ntmps18
  go_wp2_with fail
  refine (K1.out _).mono ?_
  rintro e w1 ⟨rfl, rfl⟩
  go_wp2_with fail
  refine (K2.out _).mono ?_
  rintro e w2 ⟨rfl, rfl⟩
  go_wp2_with fail
  have r0 := hR2.c0
  have r1 := hR2.c1
  exact bodyPost_ret (v := .agg #[.int .i64 a, .int .i64 b]) (by simp [results, Try.results18, go_sem, r0, r1]) rfl ⟨rfl, hbl⟩
end Go.Proofs.Ytjjeikcmnngnjaa

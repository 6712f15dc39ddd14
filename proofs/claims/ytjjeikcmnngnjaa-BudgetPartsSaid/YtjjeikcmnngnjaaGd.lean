/-
  What comes of two budgets by a method value: both parts alike.
-/
import Derived.Test.YtjjeikcmnngnjaaGc
import Derived.Deep.RegionHeld3
namespace Go.Proofs.Ytjjeikcmnngnjaa
open Go.RowKit

/-- What lies in another box stays, when a box is filled. -/
theorem Bt.far {t : TypeId} {W : World} {g k : Nat} {x y : Int} (h : Bt t W g x y) (hk : g ≠ k) (u v : Value) : Bt t ((W.setCell ⟨k, 0, none⟩ u).setCell ⟨k, 1, none⟩ v).drew g x y :=
  ((h.setOther (p := ⟨k, 0, none⟩) hk u).setOther (p := ⟨k, 1, none⟩) hk v).drew
set_option maxHeartbeats 1600000 in
theorem BothSum_is (x y u v : Int) (W : World) : Calls Try.prog 22 #[.func (.func 27) #[.int .i64 1099511627776] #[], .agg #[.int .i64 x, .int .i64 y], .agg #[.int .i64 u, .int .i64 v]] W (AggEnd (.agg #[.int .i64 (sm x u), .int .i64 (sm y v)]) W) := by
  have K := Lib.hid (fun a b w => Sm_is a b w)
  have K1 := Lib.hid (K.out x u)
  have K2 := Lib.hid (K.out y v)
  clear K
  generalize sm x u = a at *
  generalize sm y v = b at *
  have s1 : (W.alloc (.cells #[.int .i64 x, .int .i64 y] 25)).heap.size = W.heap.size + 1 := by simp
  have s2 : ((W.alloc (.cells #[.int .i64 x, .int .i64 y] 25)).alloc (.cells #[.int .i64 u, .int .i64 v] 25)).heap.size = W.heap.size + 1 + 1 := by simp
  have hA := ((Bt.new 25 W x y).alloc (.cells #[.int .i64 u, .int .i64 v] 25)).alloc (.cells #[.int .i64 0, .int .i64 0] 25)
  have hC := (Bt.new' 25 (W.alloc (.cells #[.int .i64 x, .int .i64 y] 25)) s1.symm u v).alloc (.cells #[.int .i64 0, .int .i64 0] 25)
  have hR := Bt.new' 25 ((W.alloc (.cells #[.int .i64 x, .int .i64 y] 25)).alloc (.cells #[.int .i64 u, .int .i64 v] 25)) s2.symm 0 0
  have hbl := ((box_below W (.cells #[.int .i64 x, .int .i64 y] 25)).alloc (by omega) (.cells #[.int .i64 u, .int .i64 v] 25)).alloc (by omega) (.cells #[.int .i64 0, .int .i64 0] 25)
  clear s1 s2
  go_enter Try.func22, Try.ntmps22
  go_wp2_with fail
  generalize (((W.alloc (.cells #[.int .i64 x, .int .i64 y] 25)).alloc (.cells #[.int .i64 u, .int .i64 v] 25)).alloc (.cells #[.int .i64 0, .int .i64 0] 25)) = w1 at *
  have x0 := hA.c0
  have x1 := hA.c1
  have u0 := hC.c0
  have u1 := hC.c1
  have y0 := hR.c0
  have y1 := hR.c1
  have f0 := hR.f 0
  have f1 := hR.f 1
  have hA2 := hA.far (k := W.heap.size + 1 + 1) (by omega) (.int .i64 a) (.int .i64 b)
  have hC2 := hC.far (k := W.heap.size + 1 + 1) (by omega) (.int .i64 a) (.int .i64 b)
  go_region_held3 (fun w' => w'.cell? ⟨W.heap.size, 0, none⟩ = some (.int .i64 x) ∧ w'.cell? ⟨W.heap.size, 1, none⟩ = some (.int .i64 y) ∧ w'.cell? ⟨W.heap.size + 1, 0, none⟩ = some (.int .i64 u) ∧ w'.cell? ⟨W.heap.size + 1, 1, none⟩ = some (.int .i64 v))
    (first | exact ⟨x0, x1, u0, u1⟩ | exact ⟨hA2.c0, hA2.c1, hC2.c0, hC2.c1⟩ | fail)
    (first
      | (go_at_call 27; (with_reducible refine (K1.out _).mono ?_); rintro e w9 ⟨rfl, rfl⟩)
      | (go_at_call 27; (with_reducible refine (K2.out _).mono ?_); rintro e w9 ⟨rfl, rfl⟩))
  all_goals
    clear hA2 hC2 x0 x1 u0 u1 y0 y1 f0 f1
    go_wp2_with fail
    have hR2 := (hR.set a b).drew
    have r0 := hR2.c0
    have r1 := hR2.c1
    exact bodyPost_ret (v := .agg #[.int .i64 a, .int .i64 b]) (by simp [results, Try.results22, go_sem, r0, r1]) rfl ⟨rfl, (below_made hbl (g := W.heap.size + 1 + 1) (by omega) _ _).drew⟩
set_option maxHeartbeats 1600000 in
theorem BothPd_is (x y u v : Int) (W : World) : Calls Try.prog 22 #[.func (.func 23) #[.int .i64 1099511627776] #[], .agg #[.int .i64 x, .int .i64 y], .agg #[.int .i64 u, .int .i64 v]] W (AggEnd (.agg #[.int .i64 (pd x u), .int .i64 (pd y v)]) W) := by
  have K := Lib.hid (fun a b w => Pd_is a b w)
  have K1 := Lib.hid (K.out x u)
  have K2 := Lib.hid (K.out y v)
  clear K
  generalize pd x u = a at *
  generalize pd y v = b at *
  have s1 : (W.alloc (.cells #[.int .i64 x, .int .i64 y] 25)).heap.size = W.heap.size + 1 := by simp
  have s2 : ((W.alloc (.cells #[.int .i64 x, .int .i64 y] 25)).alloc (.cells #[.int .i64 u, .int .i64 v] 25)).heap.size = W.heap.size + 1 + 1 := by simp
  have hA := ((Bt.new 25 W x y).alloc (.cells #[.int .i64 u, .int .i64 v] 25)).alloc (.cells #[.int .i64 0, .int .i64 0] 25)
  have hC := (Bt.new' 25 (W.alloc (.cells #[.int .i64 x, .int .i64 y] 25)) s1.symm u v).alloc (.cells #[.int .i64 0, .int .i64 0] 25)
  have hR := Bt.new' 25 ((W.alloc (.cells #[.int .i64 x, .int .i64 y] 25)).alloc (.cells #[.int .i64 u, .int .i64 v] 25)) s2.symm 0 0
  have hbl := ((box_below W (.cells #[.int .i64 x, .int .i64 y] 25)).alloc (by omega) (.cells #[.int .i64 u, .int .i64 v] 25)).alloc (by omega) (.cells #[.int .i64 0, .int .i64 0] 25)
  clear s1 s2
  go_enter Try.func22, Try.ntmps22
  go_wp2_with fail
  generalize (((W.alloc (.cells #[.int .i64 x, .int .i64 y] 25)).alloc (.cells #[.int .i64 u, .int .i64 v] 25)).alloc (.cells #[.int .i64 0, .int .i64 0] 25)) = w1 at *
  have x0 := hA.c0
  have x1 := hA.c1
  have u0 := hC.c0
  have u1 := hC.c1
  have y0 := hR.c0
  have y1 := hR.c1
  have f0 := hR.f 0
  have f1 := hR.f 1
  have hA2 := hA.far (k := W.heap.size + 1 + 1) (by omega) (.int .i64 a) (.int .i64 b)
  have hC2 := hC.far (k := W.heap.size + 1 + 1) (by omega) (.int .i64 a) (.int .i64 b)
  go_region_held3 (fun w' => w'.cell? ⟨W.heap.size, 0, none⟩ = some (.int .i64 x) ∧ w'.cell? ⟨W.heap.size, 1, none⟩ = some (.int .i64 y) ∧ w'.cell? ⟨W.heap.size + 1, 0, none⟩ = some (.int .i64 u) ∧ w'.cell? ⟨W.heap.size + 1, 1, none⟩ = some (.int .i64 v))
    (first | exact ⟨x0, x1, u0, u1⟩ | exact ⟨hA2.c0, hA2.c1, hC2.c0, hC2.c1⟩ | fail)
    (first
      | (go_at_call 23; (with_reducible refine (K1.out _).mono ?_); rintro e w9 ⟨rfl, rfl⟩)
      | (go_at_call 23; (with_reducible refine (K2.out _).mono ?_); rintro e w9 ⟨rfl, rfl⟩))
  all_goals
    clear hA2 hC2 x0 x1 u0 u1 y0 y1 f0 f1
    go_wp2_with fail
    have hR2 := (hR.set a b).drew
    have r0 := hR2.c0
    have r1 := hR2.c1
    exact bodyPost_ret (v := .agg #[.int .i64 a, .int .i64 b]) (by simp [results, Try.results22, go_sem, r0, r1]) rfl ⟨rfl, (below_made hbl (g := W.heap.size + 1 + 1) (by omega) _ _).drew⟩
end Go.Proofs.Ytjjeikcmnngnjaa

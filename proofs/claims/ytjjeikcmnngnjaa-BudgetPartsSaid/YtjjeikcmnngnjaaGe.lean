/-
  Whether a budget can pay, what is left, and a budget so often, of the program and of the reference, by their contracts.
-/
import Derived.Test.YtjjeikcmnngnjaaGd
import Derived.LoopTactic
import Derived.Deep.RegionHeld3
namespace Go.Proofs.Ytjjeikcmnngnjaa
open Go.RowKit

/-- Whether it can be paid; the error's number; what is left of a part. -/
def canB (x y u v : Int) : Bool := decide (0 ≤ u ∧ u ≤ x) && decide (0 ≤ v ∧ v ≤ y)
def payE (x y u v : Int) : Int := if u < 0 ∨ v < 0 then 1 else if canB x y u v then 0 else 9
def lf (e x u : Int) : Int := if e = 0 then x - u else 0
theorem canB_yes {x y u v : Int} : canB x y u v = true ↔ 0 ≤ u ∧ u ≤ x ∧ 0 ≤ v ∧ v ≤ y := by simp [canB, and_assoc]
theorem pay_arg {x y u v : Int} (h : u < 0 ∨ v < 0) : payE x y u v = 1 := if_pos h
theorem pay_ok {x y u v : Int} (h : canB x y u v = true) : payE x y u v = 0 := by
  have := canB_yes.1 h
  unfold payE; rw [if_neg (by omega), if_pos h]
theorem pay_limit {x y u v : Int} (h0 : ¬ (u < 0 ∨ v < 0)) (h : canB x y u v = false) : payE x y u v = 9 := by
  unfold payE; rw [if_neg h0, h]; rfl

theorem Times_is (x y n : Int) (W : World) : Calls Try.prog 15 #[.agg #[.int .i64 x, .int .i64 y], .int .i64 n] W (AggEnd (.agg #[.int .i64 (pd x n), .int .i64 (pd y n)]) W) := by
  have K := Lib.hid (fun w => BothPd_is x y n n w)
  generalize pd x n = a at *
  generalize pd y n = b at *
  have s1 : (W.alloc (.cells #[.int .i64 x, .int .i64 y] 25)).heap.size = W.heap.size + 1 := by simp
  have hA := (Bt.new 25 W x y).alloc (.cells #[.int .i64 0, .int .i64 0] 25)
  have hR := Bt.new' 25 (W.alloc (.cells #[.int .i64 x, .int .i64 y] 25)) s1.symm 0 0
  have hbl := (box_below W (.cells #[.int .i64 x, .int .i64 y] 25)).alloc (by omega) (.cells #[.int .i64 0, .int .i64 0] 25)
  have x0 := hA.c0
  have x1 := hA.c1
  have hmf : ∀ (fn : Fn) (first cap : Array Value) (w : World), (Instr.makeFunc fn first cap).run Try.prog w = .ok (.func fn first cap) w := fun _ _ _ _ => rfl
  clear s1
  go_enter Try.func15, Try.ntmps15
  go_wp2_with fail
  refine (K.out _).mono ?_
  rintro e w1 ⟨rfl, hb⟩
  have hR1 := hR.on hb
  have hb1 := hbl.trans (hb.mono hbl.size)
  clear hA hR hbl hb x0 x1
  have y0 := hR1.c0
  have y1 := hR1.c1
  have f0 := hR1.f 0
  have f1 := hR1.f 1
  go_wp2_with fail
  have hR2 := hR1.set a b
  have r0 := hR2.c0
  have r1 := hR2.c1
  exact bodyPost_ret (v := .agg #[.int .i64 a, .int .i64 b]) (by simp [results, Try.results15, go_sem, r0, r1]) rfl ⟨rfl, below_made hb1 (by omega) _ _⟩
set_option maxHeartbeats 1600000 in
theorem rTimes_is (x y n : Int) (W : World) : Calls Try.prog 16 #[.agg #[.int .i64 x, .int .i64 y], .int .i64 n] W (AggEnd (.agg #[.int .i64 (pd x n), .int .i64 (pd y n)]) W) := by
  have K := Lib.hid (fun a w => rTimesP_is a n w)
  have K1 := Lib.hid (K.out x)
  have K2 := Lib.hid (K.out y)
  clear K
  generalize pd x n = a at *
  generalize pd y n = b at *
  have s1 : (W.alloc (.cells #[.int .i64 x, .int .i64 y] 23)).heap.size = W.heap.size + 1 := by simp
  have hA := (Bt.new 23 W x y).alloc (.cells #[.int .i64 0, .int .i64 0] 23)
  have hR := Bt.new' 23 (W.alloc (.cells #[.int .i64 x, .int .i64 y] 23)) s1.symm 0 0
  have hbl := (box_below W (.cells #[.int .i64 x, .int .i64 y] 23)).alloc (by omega) (.cells #[.int .i64 0, .int .i64 0] 23)
  clear s1
  go_enter Try.func16, Try.ntmps16
  go_wp2_with fail
  generalize (W.alloc (.cells #[.int .i64 x, .int .i64 y] 23)).alloc (.cells #[.int .i64 0, .int .i64 0] 23) = w1 at *
  have x0 := hA.c0
  have x1 := hA.c1
  have y0 := hR.c0
  have y1 := hR.c1
  have f0 := hR.f 0
  have f1 := hR.f 1
  have hA2 := hA.far (k := W.heap.size + 1) (by omega) (.int .i64 a) (.int .i64 b)
  go_region_held3 (fun w' => w'.cell? ⟨W.heap.size, 0, none⟩ = some (.int .i64 x) ∧ w'.cell? ⟨W.heap.size, 1, none⟩ = some (.int .i64 y))
    (first | exact ⟨x0, x1⟩ | exact ⟨hA2.c0, hA2.c1⟩ | fail)
    (first
      | (go_at_call 24; (with_reducible refine (K1.out _).mono ?_); rintro e w9 ⟨rfl, rfl⟩)
      | (go_at_call 24; (with_reducible refine (K2.out _).mono ?_); rintro e w9 ⟨rfl, rfl⟩))
  all_goals
    clear hA2 x0 x1 y0 y1 f0 f1
    go_wp2_with fail
    have hR2 := (hR.set a b).drew
    have r0 := hR2.c0
    have r1 := hR2.c1
    exact bodyPost_ret (v := .agg #[.int .i64 a, .int .i64 b]) (by simp [results, Try.results16, go_sem, r0, r1]) rfl ⟨rfl, (below_made hbl (g := W.heap.size + 1) (by omega) _ _).drew⟩
theorem Can_is (x y u v : Int) (W : World) : Calls Try.prog 12 #[.agg #[.int .i64 x, .int .i64 y], .agg #[.int .i64 u, .int .i64 v]] W (AggEnd (.bool (canB x y u v)) W) := by
  have s1 : (W.alloc (.cells #[.int .i64 x, .int .i64 y] 25)).heap.size = W.heap.size + 1 := by simp
  have hA := (Bt.new 25 W x y).alloc (.cells #[.int .i64 u, .int .i64 v] 25)
  have hC := Bt.new' 25 (W.alloc (.cells #[.int .i64 x, .int .i64 y] 25)) s1.symm u v
  have hbl := (box_below W (.cells #[.int .i64 x, .int .i64 y] 25)).alloc (by omega) (.cells #[.int .i64 u, .int .i64 v] 25)
  have x0 := hA.c0
  have x1 := hA.c1
  have u0 := hC.c0
  have u1 := hC.c1
  clear s1 hA hC
  have K1 := fun w => Enough_is x u w
  have K2 := fun w => Enough_is y v w
  unfold canB
  rcases Bool.eq_false_or_eq_true (decide (0 ≤ u ∧ u ≤ x)) with h1 | h1
  · rw [h1] at K1 ⊢
    rw [Bool.true_and]
    replace K1 := Lib.hid K1
    replace K2 := Lib.hid K2
    generalize decide (0 ≤ v ∧ v ≤ y) = b2 at *
    clear h1
    go_enter Try.func12, Try.ntmps12
    go_wp2_with fail
    refine (K1.out _).mono ?_
    rintro e w1 ⟨rfl, rfl⟩
    go_wp2_with fail
    refine (K2.out _).mono ?_
    rintro e w1 ⟨rfl, rfl⟩
    go_wp2_with fail
    go_ret
    exact ⟨rfl, hbl⟩
  · rw [h1] at K1 ⊢
    rw [Bool.false_and]
    replace K1 := Lib.hid K1
    clear K2 h1
    go_enter Try.func12, Try.ntmps12
    go_wp2_with fail
    refine (K1.out _).mono ?_
    rintro e w1 ⟨rfl, rfl⟩
    go_wp2_with fail
    go_ret
    exact ⟨rfl, hbl⟩
theorem rCan_is (x y u v : Int) (W : World) : Calls Try.prog 13 #[.agg #[.int .i64 x, .int .i64 y], .agg #[.int .i64 u, .int .i64 v]] W (AggEnd (.bool (canB x y u v)) W) := by
  have s1 : (W.alloc (.cells #[.int .i64 x, .int .i64 y] 23)).heap.size = W.heap.size + 1 := by simp
  have hA := (Bt.new 23 W x y).alloc (.cells #[.int .i64 u, .int .i64 v] 23)
  have hC := Bt.new' 23 (W.alloc (.cells #[.int .i64 x, .int .i64 y] 23)) s1.symm u v
  have hbl := (box_below W (.cells #[.int .i64 x, .int .i64 y] 23)).alloc (by omega) (.cells #[.int .i64 u, .int .i64 v] 23)
  have x0 := hA.c0
  have x1 := hA.c1
  have u0 := hC.c0
  have u1 := hC.c1
  clear s1 hA hC
  by_cases hu : u < 0
  · rw [show canB x y u v = false from Bool.eq_false_iff.2 (fun h => by have := canB_yes.1 h; omega)]
    go_enter Try.func13, Try.ntmps13
    go_wp2_with fail
    go_ret
    exact ⟨rfl, hbl⟩
  · by_cases hv : v < 0
    · rw [show canB x y u v = false from Bool.eq_false_iff.2 (fun h => by have := canB_yes.1 h; omega)]
      go_enter Try.func13, Try.ntmps13
      go_wp2_with fail
      go_ret
      exact ⟨rfl, hbl⟩
    · by_cases h1 : u ≤ x
      · by_cases h2 : v ≤ y
        · rw [canB_yes.2 ⟨by omega, h1, by omega, h2⟩]
          go_enter Try.func13, Try.ntmps13
          go_wp2_with fail
          go_ret
          exact ⟨rfl, hbl⟩
        · rw [show canB x y u v = false from Bool.eq_false_iff.2 (fun h => by have := canB_yes.1 h; omega)]
          go_enter Try.func13, Try.ntmps13
          go_wp2_with fail
          go_ret
          exact ⟨rfl, hbl⟩
      · rw [show canB x y u v = false from Bool.eq_false_iff.2 (fun h => by have := canB_yes.1 h; omega)]
        go_enter Try.func13, Try.ntmps13
        go_wp2_with fail
        go_ret
        exact ⟨rfl, hbl⟩
set_option maxHeartbeats 800000 in
theorem Pay_is {x y : Int} (u v : Int) (hx : x ≤ 9223372036854775807) (hy : y ≤ 9223372036854775807) (W : World) :
    Calls Try.prog 10 #[.agg #[.int .i64 x, .int .i64 y], .agg #[.int .i64 u, .int .i64 v]] W (AggEnd (.tuple #[.agg #[.int .i64 (lf (payE x y u v) x u), .int .i64 (lf (payE x y u v) y v)], .int .i64 (payE x y u v)]) W) := by
  have K := fun w => Can_is x y u v w
  have s1 : (W.alloc (.cells #[.int .i64 x, .int .i64 y] 25)).heap.size = W.heap.size + 1 := by simp
  have s2 : ((W.alloc (.cells #[.int .i64 x, .int .i64 y] 25)).alloc (.cells #[.int .i64 u, .int .i64 v] 25)).heap.size = W.heap.size + 1 + 1 := by simp
  have hA0 := ((Bt.new 25 W x y).alloc (.cells #[.int .i64 u, .int .i64 v] 25)).alloc (.cells #[.int .i64 0, .int .i64 0] 25)
  have hC0 := (Bt.new' 25 (W.alloc (.cells #[.int .i64 x, .int .i64 y] 25)) s1.symm u v).alloc (.cells #[.int .i64 0, .int .i64 0] 25)
  have hR0 := Bt.new' 25 ((W.alloc (.cells #[.int .i64 x, .int .i64 y] 25)).alloc (.cells #[.int .i64 u, .int .i64 v] 25)) s2.symm 0 0
  have hb0 := ((box_below W (.cells #[.int .i64 x, .int .i64 y] 25)).alloc (by omega) (.cells #[.int .i64 u, .int .i64 v] 25)).alloc (by omega) (.cells #[.int .i64 0, .int .i64 0] 25)
  clear s1 s2
  have x0 := hA0.c0
  have x1 := hA0.c1
  have u0 := hC0.c0
  have u1 := hC0.c1
  by_cases hu : u < 0
  · clear K
    rw [pay_arg (by omega), show lf 1 x u = 0 from rfl, show lf 1 y v = 0 from rfl]
    have y0 := hR0.c0
    have y1 := hR0.c1
    have f0 := hR0.f 0
    have f1 := hR0.f 1
    go_enter Try.func10, Try.ntmps10
    go_wp2_with fail
    exact bodyPost_ret (v := .tuple #[.agg #[.int .i64 0, .int .i64 0], .int .i64 1]) (by simp [results, Try.results10, go_sem, y0, y1]) rfl ⟨rfl, hb0⟩
  · by_cases hv : v < 0
    · clear K
      rw [pay_arg (by omega), show lf 1 x u = 0 from rfl, show lf 1 y v = 0 from rfl]
      have y0 := hR0.c0
      have y1 := hR0.c1
      have f0 := hR0.f 0
      have f1 := hR0.f 1
      go_enter Try.func10, Try.ntmps10
      go_wp2_with fail
      exact bodyPost_ret (v := .tuple #[.agg #[.int .i64 0, .int .i64 0], .int .i64 1]) (by simp [results, Try.results10, go_sem, y0, y1]) rfl ⟨rfl, hb0⟩
    · rcases Bool.eq_false_or_eq_true (canB x y u v) with hc | hc
      · rw [pay_ok hc, show lf 0 x u = x - u from rfl, show lf 0 y v = y - v from rfl]
        rw [hc] at K
        have hq := canB_yes.1 hc
        have w1' : IntKind.i64.wrap (x - u) = x - u := wr (by omega) (by omega)
        have w2' : IntKind.i64.wrap (y - v) = y - v := wr (by omega) (by omega)
        clear hc hq
        replace K := Lib.hid K
        go_enter Try.func10, Try.ntmps10
        go_wp2_with fail
        refine (K.out _).mono ?_
        rintro e w1 ⟨rfl, hb⟩
        have hA1 := hA0.on hb
        have hC1 := hC0.on hb
        have hR1 := hR0.on hb
        have hb1 := hb0.trans (hb.mono hb0.size)
        clear hA0 hC0 hR0 hb0 hb x0 x1 u0 u1
        have x0 := hA1.c0
        have x1 := hA1.c1
        have u0 := hC1.c0
        have u1 := hC1.c1
        have y0 := hR1.c0
        have y1 := hR1.c1
        have f0 := hR1.f 0
        have f1 := hR1.f 1
        go_wp2_with fail
        have hR2 := hR1.set (x - u) (y - v)
        have r0 := hR2.c0
        have r1 := hR2.c1
        exact bodyPost_ret (v := .tuple #[.agg #[.int .i64 (x - u), .int .i64 (y - v)], .int .i64 0]) (by simp [results, Try.results10, go_sem, r0, r1]) rfl ⟨rfl, below_made hb1 (by omega) _ _⟩
      · rw [pay_limit (by omega) hc, show lf 9 x u = 0 from rfl, show lf 9 y v = 0 from rfl]
        rw [hc] at K
        clear hc
        replace K := Lib.hid K
        go_enter Try.func10, Try.ntmps10
        go_wp2_with fail
        refine (K.out _).mono ?_
        rintro e w1 ⟨rfl, hb⟩
        have hA1 := hA0.on hb
        have hC1 := hC0.on hb
        have hR1 := hR0.on hb
        have hb1 := hb0.trans (hb.mono hb0.size)
        clear hA0 hC0 hR0 hb0 hb x0 x1 u0 u1
        have x0 := hA1.c0
        have x1 := hA1.c1
        have u0 := hC1.c0
        have u1 := hC1.c1
        have y0 := hR1.c0
        have y1 := hR1.c1
        have f0 := hR1.f 0
        have f1 := hR1.f 1
        go_wp2_with fail
        have hR2 := hR1.set 0 0
        have r0 := hR2.c0
        have r1 := hR2.c1
        exact bodyPost_ret (v := .tuple #[.agg #[.int .i64 0, .int .i64 0], .int .i64 9]) (by simp [results, Try.results10, go_sem, r0, r1]) rfl ⟨rfl, below_made hb1 (by omega) _ _⟩
set_option maxHeartbeats 800000 in
theorem rPay_is {x y : Int} (u v : Int) (hx : x ≤ 9223372036854775807) (hy : y ≤ 9223372036854775807) (W : World) :
    Calls Try.prog 11 #[.agg #[.int .i64 x, .int .i64 y], .agg #[.int .i64 u, .int .i64 v]] W (AggEnd (.tuple #[.agg #[.int .i64 (lf (payE x y u v) x u), .int .i64 (lf (payE x y u v) y v)], .int .i64 (payE x y u v)]) W) := by
  have K := fun w => rCan_is x y u v w
  have s1 : (W.alloc (.cells #[.int .i64 x, .int .i64 y] 23)).heap.size = W.heap.size + 1 := by simp
  have s2 : ((W.alloc (.cells #[.int .i64 x, .int .i64 y] 23)).alloc (.cells #[.int .i64 u, .int .i64 v] 23)).heap.size = W.heap.size + 1 + 1 := by simp
  have hA0 := ((Bt.new 23 W x y).alloc (.cells #[.int .i64 u, .int .i64 v] 23)).alloc (.cells #[.int .i64 0, .int .i64 0] 23)
  have hC0 := (Bt.new' 23 (W.alloc (.cells #[.int .i64 x, .int .i64 y] 23)) s1.symm u v).alloc (.cells #[.int .i64 0, .int .i64 0] 23)
  have hR0 := Bt.new' 23 ((W.alloc (.cells #[.int .i64 x, .int .i64 y] 23)).alloc (.cells #[.int .i64 u, .int .i64 v] 23)) s2.symm 0 0
  have hb0 := ((box_below W (.cells #[.int .i64 x, .int .i64 y] 23)).alloc (by omega) (.cells #[.int .i64 u, .int .i64 v] 23)).alloc (by omega) (.cells #[.int .i64 0, .int .i64 0] 23)
  clear s1 s2
  have x0 := hA0.c0
  have x1 := hA0.c1
  have u0 := hC0.c0
  have u1 := hC0.c1
  by_cases hu : u < 0
  · clear K
    rw [pay_arg (by omega), show lf 1 x u = 0 from rfl, show lf 1 y v = 0 from rfl]
    have y0 := hR0.c0
    have y1 := hR0.c1
    have f0 := hR0.f 0
    have f1 := hR0.f 1
    go_enter Try.func11, Try.ntmps11
    go_wp2_with fail
    exact bodyPost_ret (v := .tuple #[.agg #[.int .i64 0, .int .i64 0], .int .i64 1]) (by simp [results, Try.results11, go_sem, y0, y1]) rfl ⟨rfl, hb0⟩
  · by_cases hv : v < 0
    · clear K
      rw [pay_arg (by omega), show lf 1 x u = 0 from rfl, show lf 1 y v = 0 from rfl]
      have y0 := hR0.c0
      have y1 := hR0.c1
      have f0 := hR0.f 0
      have f1 := hR0.f 1
      go_enter Try.func11, Try.ntmps11
      go_wp2_with fail
      exact bodyPost_ret (v := .tuple #[.agg #[.int .i64 0, .int .i64 0], .int .i64 1]) (by simp [results, Try.results11, go_sem, y0, y1]) rfl ⟨rfl, hb0⟩
    · rcases Bool.eq_false_or_eq_true (canB x y u v) with hc | hc
      · rw [pay_ok hc, show lf 0 x u = x - u from rfl, show lf 0 y v = y - v from rfl]
        rw [hc] at K
        have hq := canB_yes.1 hc
        have w1' : IntKind.i64.wrap (x - u) = x - u := wr (by omega) (by omega)
        have w2' : IntKind.i64.wrap (y - v) = y - v := wr (by omega) (by omega)
        clear hc hq
        replace K := Lib.hid K
        go_enter Try.func11, Try.ntmps11
        go_wp2_with fail
        refine (K.out _).mono ?_
        rintro e w1 ⟨rfl, hb⟩
        have hA1 := hA0.on hb
        have hC1 := hC0.on hb
        have hR1 := hR0.on hb
        have hb1 := hb0.trans (hb.mono hb0.size)
        clear hA0 hC0 hR0 hb0 hb x0 x1 u0 u1
        have x0 := hA1.c0
        have x1 := hA1.c1
        have u0 := hC1.c0
        have u1 := hC1.c1
        have y0 := hR1.c0
        have y1 := hR1.c1
        have f0 := hR1.f 0
        have f1 := hR1.f 1
        go_wp2_with fail
        have hR2 := hR1.set (x - u) (y - v)
        have r0 := hR2.c0
        have r1 := hR2.c1
        exact bodyPost_ret (v := .tuple #[.agg #[.int .i64 (x - u), .int .i64 (y - v)], .int .i64 0]) (by simp [results, Try.results11, go_sem, r0, r1]) rfl ⟨rfl, below_made hb1 (by omega) _ _⟩
      · rw [pay_limit (by omega) hc, show lf 9 x u = 0 from rfl, show lf 9 y v = 0 from rfl]
        rw [hc] at K
        clear hc
        replace K := Lib.hid K
        go_enter Try.func11, Try.ntmps11
        go_wp2_with fail
        refine (K.out _).mono ?_
        rintro e w1 ⟨rfl, hb⟩
        have hA1 := hA0.on hb
        have hC1 := hC0.on hb
        have hR1 := hR0.on hb
        have hb1 := hb0.trans (hb.mono hb0.size)
        clear hA0 hC0 hR0 hb0 hb x0 x1 u0 u1
        have x0 := hA1.c0
        have x1 := hA1.c1
        have u0 := hC1.c0
        have u1 := hC1.c1
        have y0 := hR1.c0
        have y1 := hR1.c1
        have f0 := hR1.f 0
        have f1 := hR1.f 1
        go_wp2_with fail
        have hR2 := hR1.set 0 0
        have r0 := hR2.c0
        have r1 := hR2.c1
        exact bodyPost_ret (v := .tuple #[.agg #[.int .i64 0, .int .i64 0], .int .i64 9]) (by simp [results, Try.results11, go_sem, r0, r1]) rfl ⟨rfl, below_made hb1 (by omega) _ _⟩
end Go.Proofs.Ytjjeikcmnngnjaa

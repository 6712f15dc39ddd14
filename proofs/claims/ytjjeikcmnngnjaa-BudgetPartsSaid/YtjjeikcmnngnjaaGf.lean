/-
  The document's example; budgets together, of the program and of the reference.
-/
import Derived.Test.YtjjeikcmnngnjaaGe
import Derived.Deep.DeepCutAuto
namespace Go.Proofs.Ytjjeikcmnngnjaa
open Go.RowKit

set_option maxHeartbeats 800000 in
theorem shown_is (W : World) : Calls Try.prog 8 #[] W (TrueEnd W) := by
  have K1 := fun w => New_is 5 5 w
  rw [show bd 5 = 5 by decide] at K1
  have K2 := fun w => Pay_is (x := 5) (y := 5) 3 2 (by omega) (by omega) w
  rw [show payE 5 5 3 2 = 0 by decide, show lf 0 5 3 = 2 by decide, show lf 0 5 2 = 3 by decide] at K2
  have K3 := fun w => Pay_is (x := 5) (y := 5) 6 0 (by omega) (by omega) w
  rw [show payE 5 5 6 0 = 9 by decide, show lf 9 5 6 = 0 by decide, show lf 9 5 0 = 0 by decide] at K3
  replace K1 := Lib.hid K1
  replace K2 := Lib.hid K2
  replace K3 := Lib.hid K3
  go_enter Try.func8, Try.ntmps8
  go_wp2_with fail
  refine (K1.out _).mono ?_
  rintro e w1 ⟨rfl, hb1⟩
  go_wp2_with fail
  refine (K2.out _).mono ?_
  rintro e w2 ⟨rfl, hb⟩
  have hb2 := (hb1.trans (hb.mono hb1.size)).alloc (Nat.le_trans hb1.size hb.size) (.cells #[.int .i64 2, .int .i64 3] 25)
  have hA := Bt.new 25 w2 2 3
  clear hb hb1
  go_wp2_with fail
  refine (K1.out _).mono ?_
  rintro e w3 ⟨rfl, hb⟩
  have hA3 := hA.on hb
  have hb3 := hb2.trans (hb.mono hb2.size)
  clear hA hb hb2
  go_wp2_with fail
  refine (K3.out _).mono ?_
  rintro e w4 ⟨rfl, hb⟩
  have hA4 := (hA3.on hb).alloc (.cells #[.int .i64 0, .int .i64 0] 25)
  have hb4 := (hb3.trans (hb.mono hb3.size)).alloc (Nat.le_trans hb3.size hb.size) (.cells #[.int .i64 0, .int .i64 0] 25)
  clear hA3 hb hb3
  have x0 := hA4.c0
  have x1 := hA4.c1
  go_wp2_with fail
  go_ret
  exact ⟨rfl, hb4⟩

/-- A slice of budgets, read by two functions. -/
def Bs (W : World) (a : Option Addr) (n : Nat) (x y : Nat → Int) : Prop := 0 < n → ∃ b off, a = some ⟨b, off, none⟩ ∧ ∀ j, j < n → W.cell? ⟨b, off + j * 2, none⟩ = some (.int .i64 (x j)) ∧ W.cell? ⟨b, off + j * 2 + 1, none⟩ = some (.int .i64 (y j))
theorem Bs.below {W W' : World} {a : Option Addr} {n : Nat} {x y : Nat → Int} (h : Bs W a n x y) (hb : Below W.heap.size W W') : Bs W' a n x y := by
  intro hn
  obtain ⟨b, off, e, hc⟩ := h hn
  refine ⟨b, off, e, fun j hj => ⟨?_, ?_⟩⟩
  · exact (hb.cell (show (⟨b, off + j * 2, none⟩ : Addr).block < W.heap.size from World.block_lt_of_cell? W _ (hc j hj).1)).trans (hc j hj).1
  · exact (hb.cell (show (⟨b, off + j * 2 + 1, none⟩ : Addr).block < W.heap.size from World.block_lt_of_cell? W _ (hc j hj).2)).trans (hc j hj).2
/-- The first k, together. -/
def sums (f : Nat → Int) : Nat → Int
  | 0 => 0
  | k + 1 => sm (sums f k) (f k)
theorem sums_le (f : Nat → Int) (k : Nat) : 0 ≤ sums f k ∧ sums f k ≤ 1099511627776 := by
  cases k with
  | zero => exact ⟨Int.le_refl _, by simp [sums]⟩
  | succ k => exact bd_le _

set_option maxHeartbeats 1600000 in
theorem Sum_is (a : Option Addr) (n c : Nat) (x y : Nat → Int) (W : World) (h : Bs W a n x y) (hn : n ≤ 9223372036854775807) :
    Calls Try.prog 19 #[.slice a n c] W (AggEnd (.agg #[.int .i64 (sums x n), .int .i64 (sums y n)]) W) := by
  have H := Lib.hid h
  have KB := Lib.hid (fun a b u v w => BothSum_is a b u v w)
  have hR := (Bt.new 25 W 0 0).alloc (.cells #[.int .i64 0, .int .i64 0] 25)
  have s1 : (W.alloc (.cells #[.int .i64 0, .int .i64 0] 25)).heap.size = W.heap.size + 1 := by simp
  have hT := Bt.new' 25 (W.alloc (.cells #[.int .i64 0, .int .i64 0] 25)) s1.symm 0 0
  have hbl := (box_below W (.cells #[.int .i64 0, .int .i64 0] 25)).alloc (by omega) (.cells #[.int .i64 0, .int .i64 0] 25)
  clear h s1
  go_enter Try.func19, Try.ntmps19
  go_wp2_with fail
  go_loopw [8] (fun iv wr => ∃ k : Nat, iv = .int .i64 k ∧ k ≤ n ∧ Bt 25 wr W.heap.size 0 0 ∧ Bt 25 wr (W.heap.size + 1) (sums x k) (sums y k) ∧ Below W.heap.size W wr) (fun iv _ => n - (intOf iv).toNat)
  case atStart => exact ⟨0, rfl, by omega, hR, hT, hbl⟩
  case round =>
    obtain ⟨k, rfl, hk, hR1, hT1, hb1⟩ := hrel
    clear hR hT hbl
    by_cases hlt : k < n
    · have e2 : (k : Int) < (n : Int) := by omega
      obtain ⟨gb, off, rfl, hc⟩ := H.out (by omega)
      have c0 := (hb1.cell (p := ⟨gb, off + k * 2, none⟩) (World.block_lt_of_cell? W _ (hc k hlt).1)).trans (hc k hlt).1
      have c1 := (hb1.cell (p := ⟨gb, off + k * 2 + 1, none⟩) (World.block_lt_of_cell? W _ (hc k hlt).2)).trans (hc k hlt).2
      have KS := KB.out (sums x k) (sums y k) (x k) (y k)
      rw [show sm (sums x k) (x k) = sums x (k + 1) from rfl, show sm (sums y k) (y k) = sums y (k + 1) from rfl] at KS
      replace KS := Lib.hid KS
      have hmf : ∀ (fn : Fn) (first cap : Array Value) (w : World), (Instr.makeFunc fn first cap).run Try.prog w = .ok (.func fn first cap) w := fun _ _ _ _ => rfl
      clear hc
      obtain ⟨sx, hsx⟩ : ∃ v, v = sums x (k + 1) := ⟨_, rfl⟩
      obtain ⟨sy, hsy⟩ : ∃ v, v = sums y (k + 1) := ⟨_, rfl⟩
      rw [← hsx, ← hsy] at KS
      have HX := Lib.hid hsx
      have HY := Lib.hid hsy
      clear hsx hsy
      generalize sums x k = px at *
      generalize sums y k = py at *
      generalize x k = xk at *
      generalize y k = yk at *
      have t0 := (hT1.alloc (.cells #[.int .i64 xk, .int .i64 yk] 25)).c0
      have t1 := (hT1.alloc (.cells #[.int .i64 xk, .int .i64 yk] 25)).c1
      have hT2 := Lib.hid (hT1.alloc (.cells #[.int .i64 xk, .int .i64 yk] 25))
      have hR2 := Lib.hid (hR1.alloc (.cells #[.int .i64 xk, .int .i64 yk] 25))
      have hb2 := Lib.hid (hb1.alloc hb1.size (.cells #[.int .i64 xk, .int .i64 yk] 25))
      go_wp2_with fail
      refine (KS.out _).mono ?_
      rintro e w2 ⟨rfl, hb⟩
      have hT3 := hT2.out.on hb
      have hR3 := hR2.out.on hb
      have hb3 := hb2.out.trans (hb.mono hb2.out.size)
      clear hT1 hR1 hb1 hT2 hR2 hb2 t0 t1 c0 c1 hb
      have t0 := hT3.c0
      have t1 := hT3.c1
      have f0 := hT3.f 0
      have f1 := hT3.f 1
      have hT4 := hT3.set sx sy
      have hR4 := (hR3.setOther (p := ⟨W.heap.size + 1, 0, none⟩) (show W.heap.size ≠ W.heap.size + 1 by omega) (.int .i64 sx)).setOther (p := ⟨W.heap.size + 1, 1, none⟩) (show W.heap.size ≠ W.heap.size + 1 by omega) (.int .i64 sy)
      have hb4 := below_made hb3 (g := W.heap.size + 1) (by omega) (.int .i64 sx) (.int .i64 sy)
      go_wp2_with fail
      go_roundw
      case rel => exact ⟨k + 1, by go_num, by omega, hR4, by rw [← HX.out, ← HY.out]; exact hT4, hb4⟩
      case measure => simp [intOf]; omega
    · have e2 : ¬ (k : Int) < (n : Int) := by omega
      obtain rfl : k = n := by omega
      have t0 := hT1.c0
      have t1 := hT1.c1
      have y0 := hR1.c0
      have y1 := hR1.c1
      have f0 := hR1.f 0
      have f1 := hR1.f 1
      generalize sums x k = px at *
      generalize sums y k = py at *
      go_wp2_with fail
      have hR2 := hR1.set px py
      have r0 := hR2.c0
      have r1 := hR2.c1
      exact bodyPost_ret (v := .agg #[.int .i64 px, .int .i64 py]) (by simp [results, Try.results19, go_sem, r0, r1]) rfl ⟨rfl, below_made hb1 (by omega) _ _⟩
set_option maxHeartbeats 3200000 in
theorem rAdd_is {x y : Int} (u v : Int) (hx : 0 ≤ x ∧ x ≤ 1099511627776) (hy : 0 ≤ y ∧ y ≤ 1099511627776) (W : World) : Calls Try.prog 28 #[.agg #[.int .i64 x, .int .i64 y], .agg #[.int .i64 u, .int .i64 v]] W (AggEnd (.agg #[.int .i64 (sm x u), .int .i64 (sm y v)]) W) := by
  have K1 := fun w => rBounded_is u w
  have K2 := fun w => rBounded_is v w
  have K3 := fun w => rBounded_is (x + bd u) w
  have K4 := fun w => rBounded_is (y + bd v) w
  rw [show bd (x + bd u) = sm x u by unfold sm; rw [bd_in hx.1 hx.2]] at K3
  rw [show bd (y + bd v) = sm y v by unfold sm; rw [bd_in hy.1 hy.2]] at K4
  have h1 := bd_le u
  have h2 := bd_le v
  have hw1 : IntKind.i64.wrap (x + bd u) = x + bd u := wr (by omega) (by omega)
  have hw2 : IntKind.i64.wrap (y + bd v) = y + bd v := wr (by omega) (by omega)
  generalize sm x u = p at *
  generalize sm y v = q at *
  generalize bd u = u' at *
  generalize bd v = v' at *
  clear hx hy h1 h2
  obtain ⟨xu, hxu⟩ : ∃ z, z = x + u' := ⟨_, rfl⟩
  obtain ⟨yv, hyv⟩ : ∃ z, z = y + v' := ⟨_, rfl⟩
  rw [← hxu] at K3
  rw [← hyv] at K4
  replace hw1 := hw1.trans hxu.symm
  replace hw2 := hw2.trans hyv.symm
  clear hxu hyv
  replace K1 := Lib.hid K1
  replace K2 := Lib.hid K2
  replace K3 := Lib.hid K3
  replace K4 := Lib.hid K4
  have s1 : (W.alloc (.cells #[.int .i64 x, .int .i64 y] 23)).heap.size = W.heap.size + 1 := by simp
  have s2 : ((W.alloc (.cells #[.int .i64 x, .int .i64 y] 23)).alloc (.cells #[.int .i64 u, .int .i64 v] 23)).heap.size = W.heap.size + 1 + 1 := by simp
  have hA := ((Bt.new 23 W x y).alloc (.cells #[.int .i64 u, .int .i64 v] 23)).alloc (.cells #[.int .i64 0, .int .i64 0] 23)
  have hC := (Bt.new' 23 (W.alloc (.cells #[.int .i64 x, .int .i64 y] 23)) s1.symm u v).alloc (.cells #[.int .i64 0, .int .i64 0] 23)
  have hR := Bt.new' 23 ((W.alloc (.cells #[.int .i64 x, .int .i64 y] 23)).alloc (.cells #[.int .i64 u, .int .i64 v] 23)) s2.symm 0 0
  have hbl := ((box_below W (.cells #[.int .i64 x, .int .i64 y] 23)).alloc (by omega) (.cells #[.int .i64 u, .int .i64 v] 23)).alloc (by omega) (.cells #[.int .i64 0, .int .i64 0] 23)
  clear s1 s2
  go_enter Try.func28, Try.ntmps28
  go_wp2_with fail
  generalize ((W.alloc (.cells #[.int .i64 x, .int .i64 y] 23)).alloc (.cells #[.int .i64 u, .int .i64 v] 23)).alloc (.cells #[.int .i64 0, .int .i64 0] 23) = w1 at *
  have x0 := hA.c0
  have x1 := hA.c1
  have u0 := hC.c0
  have u1 := hC.c1
  have y0 := hR.c0
  have y1 := hR.c1
  have f0 := hR.f 0
  have f1 := hR.f 1
  have hA2 := hA.far (k := W.heap.size + 1 + 1) (by omega) (.int .i64 p) (.int .i64 q)
  have hC2 := hC.far (k := W.heap.size + 1 + 1) (by omega) (.int .i64 p) (.int .i64 q)
  go_region_held3 (fun w' => w'.cell? ⟨W.heap.size, 0, none⟩ = some (.int .i64 x) ∧ w'.cell? ⟨W.heap.size, 1, none⟩ = some (.int .i64 y) ∧ w'.cell? ⟨W.heap.size + 1, 0, none⟩ = some (.int .i64 u) ∧ w'.cell? ⟨W.heap.size + 1, 1, none⟩ = some (.int .i64 v))
    (first | exact ⟨x0, x1, u0, u1⟩ | exact ⟨hA2.c0, hA2.c1, hC2.c0, hC2.c1⟩ | fail)
    (first
      | (go_at_call 26; (with_reducible refine (K1.out _).mono ?_); rintro e w9 ⟨rfl, rfl⟩)
      | (go_at_call 26; (with_reducible refine (K2.out _).mono ?_); rintro e w9 ⟨rfl, rfl⟩)
      | (go_at_call 26; (with_reducible refine (K3.out _).mono ?_); rintro e w9 ⟨rfl, rfl⟩)
      | (go_at_call 26; (with_reducible refine (K4.out _).mono ?_); rintro e w9 ⟨rfl, rfl⟩))
  all_goals
    clear hA2 hC2 x0 x1 u0 u1 y0 y1 f0 f1
    go_wp2_with fail
    have hR2 := (hR.set p q).drew
    have r0 := hR2.c0
    have r1 := hR2.c1
    exact bodyPost_ret (v := .agg #[.int .i64 p, .int .i64 q]) (by simp [results, Try.results28, go_sem, r0, r1]) rfl ⟨rfl, (below_made hbl (g := W.heap.size + 1 + 1) (by omega) _ _).drew⟩
set_option maxHeartbeats 1600000 in
theorem rSum_is (a : Option Addr) (n c : Nat) (x y : Nat → Int) (W : World) (h : Bs W a n x y) (hn : n ≤ 9223372036854775807) :
    Calls Try.prog 20 #[.slice a n c] W (AggEnd (.agg #[.int .i64 (sums x n), .int .i64 (sums y n)]) W) := by
  have H := Lib.hid h
  have hR := (Bt.new 23 W 0 0).alloc (.cells #[.int .i64 0, .int .i64 0] 23)
  have s1 : (W.alloc (.cells #[.int .i64 0, .int .i64 0] 23)).heap.size = W.heap.size + 1 := by simp
  have hT := Bt.new' 23 (W.alloc (.cells #[.int .i64 0, .int .i64 0] 23)) s1.symm 0 0
  have hbl := (box_below W (.cells #[.int .i64 0, .int .i64 0] 23)).alloc (by omega) (.cells #[.int .i64 0, .int .i64 0] 23)
  clear h s1
  go_enter Try.func20, Try.ntmps20
  go_wp2_with fail
  go_loopw [4] (fun iv wr => ∃ k : Nat, iv = .int .i64 k ∧ k ≤ n ∧ Bt 23 wr W.heap.size 0 0 ∧ Bt 23 wr (W.heap.size + 1) (sums x k) (sums y k) ∧ Below W.heap.size W wr) (fun iv _ => n - (intOf iv).toNat)
  case atStart => exact ⟨0, rfl, by omega, hR, hT, hbl⟩
  case round =>
    obtain ⟨k, rfl, hk, hR1, hT1, hb1⟩ := hrel
    clear hR hT hbl
    by_cases hlt : k < n
    · have e2 : (k : Int) < (n : Int) := by omega
      obtain ⟨gb, off, rfl, hc⟩ := H.out (by omega)
      have c0 := (hb1.cell (p := ⟨gb, off + k * 2, none⟩) (World.block_lt_of_cell? W _ (hc k hlt).1)).trans (hc k hlt).1
      have c1 := (hb1.cell (p := ⟨gb, off + k * 2 + 1, none⟩) (World.block_lt_of_cell? W _ (hc k hlt).2)).trans (hc k hlt).2
      have KS := fun w => rAdd_is (x k) (y k) (sums_le x k) (sums_le y k) w
      rw [show sm (sums x k) (x k) = sums x (k + 1) from rfl, show sm (sums y k) (y k) = sums y (k + 1) from rfl] at KS
      replace KS := Lib.hid KS
      clear hc
      obtain ⟨sx, hsx⟩ : ∃ v, v = sums x (k + 1) := ⟨_, rfl⟩
      obtain ⟨sy, hsy⟩ : ∃ v, v = sums y (k + 1) := ⟨_, rfl⟩
      rw [← hsx, ← hsy] at KS
      have HX := Lib.hid hsx
      have HY := Lib.hid hsy
      clear hsx hsy
      generalize sums x k = px at *
      generalize sums y k = py at *
      generalize x k = xk at *
      generalize y k = yk at *
      have t0 := hT1.c0
      have t1 := hT1.c1
      have HT := Lib.hid hT1
      go_upto_region 5 with fail
      go_region_with (go_at_call 28; refine (KS.out _).mono ?_; rintro e w9 ⟨rfl, hb⟩; have hr9 : Below wr.heap.size wr w9 := (by first | exact hb | exact (Below.refl _ _).drew.trans hb); have hT9 := HT.out.on hr9; have t0 := hT9.c0; have t1 := hT9.c1; have f0 := hT9.f 0; have f1 := hT9.f 1)
      all_goals
        have hR3 := hR1.on hr9
        have hb3 := hb1.trans (hr9.mono hb1.size)
        have hT4 := hT9.set sx sy
        have hR4 := (hR3.setOther (p := ⟨W.heap.size + 1, 0, none⟩) (show W.heap.size ≠ W.heap.size + 1 by omega) (.int .i64 sx)).setOther (p := ⟨W.heap.size + 1, 1, none⟩) (show W.heap.size ≠ W.heap.size + 1 by omega) (.int .i64 sy)
        have hb4 := below_made hb3 (g := W.heap.size + 1) (by omega) (.int .i64 sx) (.int .i64 sy)
        clear hR3 hb3 hT9 hR1 hT1 hb1 HT t0 t1 f0 f1 c0 c1 hb hr9
        go_wp2_with fail
        go_roundw
        case rel => exact ⟨k + 1, by go_num, by omega, hR4, by rw [← HX.out, ← HY.out]; exact hT4, hb4⟩
        case measure => simp [intOf]; omega
    · have e2 : ¬ (k : Int) < (n : Int) := by omega
      obtain rfl : k = n := by omega
      have t0 := hT1.c0
      have t1 := hT1.c1
      have y0 := hR1.c0
      have y1 := hR1.c1
      have f0 := hR1.f 0
      have f1 := hR1.f 1
      generalize sums x k = px at *
      generalize sums y k = py at *
      go_wp2_with fail
      have hR2 := hR1.set px py
      have r0 := hR2.c0
      have r1 := hR2.c1
      exact bodyPost_ret (v := .agg #[.int .i64 px, .int .i64 py]) (by simp [results, Try.results20, go_sem, r0, r1]) rfl ⟨rfl, below_made hb1 (by omega) _ _⟩
end Go.Proofs.Ytjjeikcmnngnjaa

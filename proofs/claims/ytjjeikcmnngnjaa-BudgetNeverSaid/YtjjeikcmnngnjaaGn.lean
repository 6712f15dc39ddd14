/-
  BudgetNever at every pair of budgets.
-/
import Derived.Test.YtjjeikcmnngnjaaGg
namespace Go.Proofs.Ytjjeikcmnngnjaa
open Go.RowKit

set_option maxRecDepth 10000 in
set_option maxHeartbeats 6400000 in
theorem never_arg1 {a b u v m X Y : Int} (W : World) (hX : 0 ≤ X ∧ X ≤ 1099511627776) (hY : 0 ≤ Y ∧ Y ≤ 1099511627776) (hm : 0 ≤ m ∧ m ≤ 4294967295) (h : u < 0)
    (K1 : Hid (∀ w, Calls Try.prog 17 #[.int .i64 a, .int .i64 b] w (AggEnd (.agg #[.int .i64 X, .int .i64 Y]) w)))
    (K2 : Hid (∀ w, Calls Try.prog 10 #[.agg #[.int .i64 X, .int .i64 Y], .agg #[.int .i64 u, .int .i64 v]] w (AggEnd (.tuple #[.agg #[.int .i64 0, .int .i64 0], .int .i64 1]) w))) :
    Calls Try.prog 7 #[.agg #[.int .i64 a, .int .i64 b], .agg #[.int .i64 u, .int .i64 v], .int .u32 m] W (TrueEnd W) := by
  have s1 : (W.alloc (.cells #[.int .i64 a, .int .i64 b] 23)).heap.size = W.heap.size + 1 := by simp
  have hA := (Bt.new 23 W a b).alloc (.cells #[.int .i64 u, .int .i64 v] 23)
  have hC := Bt.new' 23 (W.alloc (.cells #[.int .i64 a, .int .i64 b] 23)) s1.symm u v
  have hb0 := (box_below W (.cells #[.int .i64 a, .int .i64 b] 23)).alloc (by omega) (.cells #[.int .i64 u, .int .i64 v] 23)
  have wm : IntKind.i64.wrap m = m := wr (by omega) (by omega)
  have wX : IntKind.i64.wrap (X + m) = X + m := wr (by omega) (by omega)
  have wY : IntKind.i64.wrap (Y + m) = Y + m := wr (by omega) (by omega)
  clear s1
  go_enter Try.func7, Try.ntmps7
  go_wp2_with fail
  refine (shown_is _).mono ?_
  rintro e w0 ⟨rfl, hb⟩
  have hA0 := hA.on hb
  have hC0 := hC.on hb
  have hb1 := hb0.trans (hb.mono hb0.size)
  clear hA hC hb0 hb
  have x0 := hA0.c0
  have x1 := hA0.c1
  go_wp2_with fail
  refine (K1.out _).mono ?_
  rintro e w2 ⟨rfl, hb⟩
  have hbl := box_below w2 (.cells #[.int .i64 X, .int .i64 Y] 25)
  have hC1 := (hC0.on hb).on hbl
  have hX1 := Bt.new 25 w2 X Y
  have hb2 := (hb1.trans (hb.mono hb1.size)).trans (hbl.mono (hb1.trans (hb.mono hb1.size)).size)
  have hz := (hb1.trans (hb.mono hb1.size)).size
  clear hA0 hC0 hb1 hb hbl x0 x1
  go_upto_region 3 with fail
  generalize w2.alloc (.cells #[.int .i64 X, .int .i64 Y] 25) = w1 at *
  generalize w2.heap.size = gx at *
  have t0 := hX1.c0
  have t1 := hX1.c1
  have u0 := hC1.c0
  have u1 := hC1.c1
  have lg : gx < w1.heap.size := hX1.lt
  have l1 : W.heap.size + 1 < w1.heap.size := hC1.lt
  have KM1 := Lib.hid (fun w' (hb : Below w1.heap.size w1 w') => calls_two hb (Made_is u v w'))
  have KP := Lib.hid (fun w' (hb : Below w1.heap.size w1 w') => calls_two hb (K2.out w'))
  have hq : Below w1.heap.size w1 w1 := Below.refl _ _
  have hqz := hq.size
  go_cut [9, 10] (fun vp vq wx => PayCut w1 0 0 1 vp vq wx)
  case first =>
    go_region_held3 (fun w' => w'.cell? ⟨gx, 0, none⟩ = some (.int .i64 X) ∧ w'.cell? ⟨gx, 1, none⟩ = some (.int .i64 Y) ∧ w'.cell? ⟨W.heap.size + 1, 0, none⟩ = some (.int .i64 u) ∧ w'.cell? ⟨W.heap.size + 1, 1, none⟩ = some (.int .i64 v))
      (first | exact ⟨(Below.cell (p := ⟨gx, 0, none⟩) (by repeat' (first | exact hq | refine Below.drew ?_ | refine below_drewN ?_ _ | refine Below.alloc ?_ ?_ _ | refine Below.setCell ?_ ?_ _ | exact hqz | exact Nat.le_refl _ | omega | (simp; done) | (simp; omega))) lg).trans t0, (Below.cell (p := ⟨gx, 1, none⟩) (by repeat' (first | exact hq | refine Below.drew ?_ | refine below_drewN ?_ _ | refine Below.alloc ?_ ?_ _ | refine Below.setCell ?_ ?_ _ | exact hqz | exact Nat.le_refl _ | omega | (simp; done) | (simp; omega))) lg).trans t1, (Below.cell (p := ⟨W.heap.size + 1, 0, none⟩) (by repeat' (first | exact hq | refine Below.drew ?_ | refine below_drewN ?_ _ | refine Below.alloc ?_ ?_ _ | refine Below.setCell ?_ ?_ _ | exact hqz | exact Nat.le_refl _ | omega | (simp; done) | (simp; omega))) l1).trans u0, (Below.cell (p := ⟨W.heap.size + 1, 1, none⟩) (by repeat' (first | exact hq | refine Below.drew ?_ | refine below_drewN ?_ _ | refine Below.alloc ?_ ?_ _ | refine Below.setCell ?_ ?_ _ | exact hqz | exact Nat.le_refl _ | omega | (simp; done) | (simp; omega))) l1).trans u1⟩ | fail)
      (first
        | (go_at_call 9; (with_reducible refine (KM1.out _ (by repeat' (first | exact hq | refine Below.drew ?_ | refine below_drewN ?_ _ | refine Below.alloc ?_ ?_ _ | refine Below.setCell ?_ ?_ _ | exact hqz | exact Nat.le_refl _ | omega | (simp; done) | (simp; omega)))).mono ?_); rintro e wa ⟨rfl, hq, hr⟩; have hqz := hq.size; (try (have hZa := Bt.on (t := 25) (x := 0) (y := 0) (by first | exact Bt.new _ _ _ _ | exact Bt.drewN (Bt.new _ _ _ _) _) hr; have z0 := hZa.c0; have z1 := hZa.c1; have g0 := hZa.f 0; have g1 := hZa.f 1)))
        | (go_at_call 10; (with_reducible refine (KP.out _ (by repeat' (first | exact hq | refine Below.drew ?_ | refine below_drewN ?_ _ | refine Below.alloc ?_ ?_ _ | refine Below.setCell ?_ ?_ _ | exact hqz | exact Nat.le_refl _ | omega | (simp; done) | (simp; omega)))).mono ?_); rintro e wc ⟨rfl, hq, hr⟩; have hqz := hq.size; (try (have hZc := Bt.on (t := 25) (x := 0) (y := 0) (by first | exact Bt.new _ _ _ _ | exact Bt.drewN (Bt.new _ _ _ _) _) hr; have z0 := hZc.c0; have z1 := hZc.c1; have g0 := hZc.f 0; have g1 := hZc.f 1)); (try (have hZc := Bt.on hZa hr; have z0 := hZc.c0; have z1 := hZc.c1; have g0 := hZc.f 0; have g1 := hZc.f 1))))
    all_goals
      go_wp2_with fail
      go_meet
      case rel => with_reducible first | exact PayCut.new hq | (refine PayCut.set hq hZc ?_ <;> first | exact hqz | omega | (simp; done) | (simp; omega))
  case rest =>
    obtain ⟨g, rfl, rfl, hY', hbc⟩ := hcut
    have hC2 := hC1.on hbc
    have hX2 := hX1.on hbc
    have hb3 := hb2.trans (hbc.mono hb2.size)
    clear hC1 hX1 hb2 hbc t0 t1 u0 u1 lg l1 hq hqz KM1 KP
    have t0 := hX2.c0
    have t1 := hX2.c1
    have y0 := hY'.c0
    have y1 := hY'.c1
    have u0 := hC2.c0
    have u1 := hC2.c1
    have hC3 := hC2.alloc (.cells #[.int .i64 (X + m), .int .i64 (Y + m)] 25)
    have u2 := hC3.c0
    have u3 := hC3.c1
    have hY3 := hY'.alloc (.cells #[.int .i64 (X + m), .int .i64 (Y + m)] 25)
    have y2 := hY3.c0
    have y3 := hY3.c1
    have hbz := hb3.alloc hb3.size (.cells #[.int .i64 (X + m), .int .i64 (Y + m)] 25)
    clear hX hY hm
    go_wp2_with fail
    go_ret
    exact ⟨rfl, hbz⟩
set_option maxRecDepth 10000 in
set_option maxHeartbeats 6400000 in
theorem never_arg2 {a b u v m X Y : Int} (W : World) (hX : 0 ≤ X ∧ X ≤ 1099511627776) (hY : 0 ≤ Y ∧ Y ≤ 1099511627776) (hm : 0 ≤ m ∧ m ≤ 4294967295) (h0 : ¬ u < 0) (h : v < 0)
    (K1 : Hid (∀ w, Calls Try.prog 17 #[.int .i64 a, .int .i64 b] w (AggEnd (.agg #[.int .i64 X, .int .i64 Y]) w)))
    (K2 : Hid (∀ w, Calls Try.prog 10 #[.agg #[.int .i64 X, .int .i64 Y], .agg #[.int .i64 u, .int .i64 v]] w (AggEnd (.tuple #[.agg #[.int .i64 0, .int .i64 0], .int .i64 1]) w))) :
    Calls Try.prog 7 #[.agg #[.int .i64 a, .int .i64 b], .agg #[.int .i64 u, .int .i64 v], .int .u32 m] W (TrueEnd W) := by
  have s1 : (W.alloc (.cells #[.int .i64 a, .int .i64 b] 23)).heap.size = W.heap.size + 1 := by simp
  have hA := (Bt.new 23 W a b).alloc (.cells #[.int .i64 u, .int .i64 v] 23)
  have hC := Bt.new' 23 (W.alloc (.cells #[.int .i64 a, .int .i64 b] 23)) s1.symm u v
  have hb0 := (box_below W (.cells #[.int .i64 a, .int .i64 b] 23)).alloc (by omega) (.cells #[.int .i64 u, .int .i64 v] 23)
  have wm : IntKind.i64.wrap m = m := wr (by omega) (by omega)
  have wX : IntKind.i64.wrap (X + m) = X + m := wr (by omega) (by omega)
  have wY : IntKind.i64.wrap (Y + m) = Y + m := wr (by omega) (by omega)
  clear s1
  go_enter Try.func7, Try.ntmps7
  go_wp2_with fail
  refine (shown_is _).mono ?_
  rintro e w0 ⟨rfl, hb⟩
  have hA0 := hA.on hb
  have hC0 := hC.on hb
  have hb1 := hb0.trans (hb.mono hb0.size)
  clear hA hC hb0 hb
  have x0 := hA0.c0
  have x1 := hA0.c1
  go_wp2_with fail
  refine (K1.out _).mono ?_
  rintro e w2 ⟨rfl, hb⟩
  have hbl := box_below w2 (.cells #[.int .i64 X, .int .i64 Y] 25)
  have hC1 := (hC0.on hb).on hbl
  have hX1 := Bt.new 25 w2 X Y
  have hb2 := (hb1.trans (hb.mono hb1.size)).trans (hbl.mono (hb1.trans (hb.mono hb1.size)).size)
  have hz := (hb1.trans (hb.mono hb1.size)).size
  clear hA0 hC0 hb1 hb hbl x0 x1
  go_upto_region 3 with fail
  generalize w2.alloc (.cells #[.int .i64 X, .int .i64 Y] 25) = w1 at *
  generalize w2.heap.size = gx at *
  have t0 := hX1.c0
  have t1 := hX1.c1
  have u0 := hC1.c0
  have u1 := hC1.c1
  have lg : gx < w1.heap.size := hX1.lt
  have l1 : W.heap.size + 1 < w1.heap.size := hC1.lt
  have KM1 := Lib.hid (fun w' (hb : Below w1.heap.size w1 w') => calls_two hb (Made_is u v w'))
  have KP := Lib.hid (fun w' (hb : Below w1.heap.size w1 w') => calls_two hb (K2.out w'))
  have hq : Below w1.heap.size w1 w1 := Below.refl _ _
  have hqz := hq.size
  go_cut [9, 10] (fun vp vq wx => PayCut w1 0 0 1 vp vq wx)
  case first =>
    go_region_held3 (fun w' => w'.cell? ⟨gx, 0, none⟩ = some (.int .i64 X) ∧ w'.cell? ⟨gx, 1, none⟩ = some (.int .i64 Y) ∧ w'.cell? ⟨W.heap.size + 1, 0, none⟩ = some (.int .i64 u) ∧ w'.cell? ⟨W.heap.size + 1, 1, none⟩ = some (.int .i64 v))
      (first | exact ⟨(Below.cell (p := ⟨gx, 0, none⟩) (by repeat' (first | exact hq | refine Below.drew ?_ | refine below_drewN ?_ _ | refine Below.alloc ?_ ?_ _ | refine Below.setCell ?_ ?_ _ | exact hqz | exact Nat.le_refl _ | omega | (simp; done) | (simp; omega))) lg).trans t0, (Below.cell (p := ⟨gx, 1, none⟩) (by repeat' (first | exact hq | refine Below.drew ?_ | refine below_drewN ?_ _ | refine Below.alloc ?_ ?_ _ | refine Below.setCell ?_ ?_ _ | exact hqz | exact Nat.le_refl _ | omega | (simp; done) | (simp; omega))) lg).trans t1, (Below.cell (p := ⟨W.heap.size + 1, 0, none⟩) (by repeat' (first | exact hq | refine Below.drew ?_ | refine below_drewN ?_ _ | refine Below.alloc ?_ ?_ _ | refine Below.setCell ?_ ?_ _ | exact hqz | exact Nat.le_refl _ | omega | (simp; done) | (simp; omega))) l1).trans u0, (Below.cell (p := ⟨W.heap.size + 1, 1, none⟩) (by repeat' (first | exact hq | refine Below.drew ?_ | refine below_drewN ?_ _ | refine Below.alloc ?_ ?_ _ | refine Below.setCell ?_ ?_ _ | exact hqz | exact Nat.le_refl _ | omega | (simp; done) | (simp; omega))) l1).trans u1⟩ | fail)
      (first
        | (go_at_call 9; (with_reducible refine (KM1.out _ (by repeat' (first | exact hq | refine Below.drew ?_ | refine below_drewN ?_ _ | refine Below.alloc ?_ ?_ _ | refine Below.setCell ?_ ?_ _ | exact hqz | exact Nat.le_refl _ | omega | (simp; done) | (simp; omega)))).mono ?_); rintro e wa ⟨rfl, hq, hr⟩; have hqz := hq.size; (try (have hZa := Bt.on (t := 25) (x := 0) (y := 0) (by first | exact Bt.new _ _ _ _ | exact Bt.drewN (Bt.new _ _ _ _) _) hr; have z0 := hZa.c0; have z1 := hZa.c1; have g0 := hZa.f 0; have g1 := hZa.f 1)))
        | (go_at_call 10; (with_reducible refine (KP.out _ (by repeat' (first | exact hq | refine Below.drew ?_ | refine below_drewN ?_ _ | refine Below.alloc ?_ ?_ _ | refine Below.setCell ?_ ?_ _ | exact hqz | exact Nat.le_refl _ | omega | (simp; done) | (simp; omega)))).mono ?_); rintro e wc ⟨rfl, hq, hr⟩; have hqz := hq.size; (try (have hZc := Bt.on (t := 25) (x := 0) (y := 0) (by first | exact Bt.new _ _ _ _ | exact Bt.drewN (Bt.new _ _ _ _) _) hr; have z0 := hZc.c0; have z1 := hZc.c1; have g0 := hZc.f 0; have g1 := hZc.f 1)); (try (have hZc := Bt.on hZa hr; have z0 := hZc.c0; have z1 := hZc.c1; have g0 := hZc.f 0; have g1 := hZc.f 1))))
    all_goals
      go_wp2_with fail
      go_meet
      case rel => with_reducible first | exact PayCut.new hq | (refine PayCut.set hq hZc ?_ <;> first | exact hqz | omega | (simp; done) | (simp; omega))
  case rest =>
    obtain ⟨g, rfl, rfl, hY', hbc⟩ := hcut
    have hC2 := hC1.on hbc
    have hX2 := hX1.on hbc
    have hb3 := hb2.trans (hbc.mono hb2.size)
    clear hC1 hX1 hb2 hbc t0 t1 u0 u1 lg l1 hq hqz KM1 KP
    have t0 := hX2.c0
    have t1 := hX2.c1
    have y0 := hY'.c0
    have y1 := hY'.c1
    have u0 := hC2.c0
    have u1 := hC2.c1
    have hC3 := hC2.alloc (.cells #[.int .i64 (X + m), .int .i64 (Y + m)] 25)
    have u2 := hC3.c0
    have u3 := hC3.c1
    have hY3 := hY'.alloc (.cells #[.int .i64 (X + m), .int .i64 (Y + m)] 25)
    have y2 := hY3.c0
    have y3 := hY3.c1
    have hbz := hb3.alloc hb3.size (.cells #[.int .i64 (X + m), .int .i64 (Y + m)] 25)
    clear hX hY hm
    go_wp2_with fail
    go_ret
    exact ⟨rfl, hbz⟩
set_option maxRecDepth 10000 in
set_option maxHeartbeats 6400000 in
theorem never_limit {a b u v m X Y : Int} (W : World) (hX : 0 ≤ X ∧ X ≤ 1099511627776) (hY : 0 ≤ Y ∧ Y ≤ 1099511627776) (hm : 0 ≤ m ∧ m ≤ 4294967295) (h0 : ¬ u < 0) (h : ¬ v < 0)
    (K1 : Hid (∀ w, Calls Try.prog 17 #[.int .i64 a, .int .i64 b] w (AggEnd (.agg #[.int .i64 X, .int .i64 Y]) w)))
    (K2 : Hid (∀ w, Calls Try.prog 10 #[.agg #[.int .i64 X, .int .i64 Y], .agg #[.int .i64 u, .int .i64 v]] w (AggEnd (.tuple #[.agg #[.int .i64 0, .int .i64 0], .int .i64 9]) w))) :
    Calls Try.prog 7 #[.agg #[.int .i64 a, .int .i64 b], .agg #[.int .i64 u, .int .i64 v], .int .u32 m] W (TrueEnd W) := by
  have d0 := decide_eq_false h0
  have d1 := decide_eq_false h
  have s1 : (W.alloc (.cells #[.int .i64 a, .int .i64 b] 23)).heap.size = W.heap.size + 1 := by simp
  have hA := (Bt.new 23 W a b).alloc (.cells #[.int .i64 u, .int .i64 v] 23)
  have hC := Bt.new' 23 (W.alloc (.cells #[.int .i64 a, .int .i64 b] 23)) s1.symm u v
  have hb0 := (box_below W (.cells #[.int .i64 a, .int .i64 b] 23)).alloc (by omega) (.cells #[.int .i64 u, .int .i64 v] 23)
  have wm : IntKind.i64.wrap m = m := wr (by omega) (by omega)
  have wX : IntKind.i64.wrap (X + m) = X + m := wr (by omega) (by omega)
  have wY : IntKind.i64.wrap (Y + m) = Y + m := wr (by omega) (by omega)
  clear s1
  go_enter Try.func7, Try.ntmps7
  go_wp2_with fail
  refine (shown_is _).mono ?_
  rintro e w0 ⟨rfl, hb⟩
  have hA0 := hA.on hb
  have hC0 := hC.on hb
  have hb1 := hb0.trans (hb.mono hb0.size)
  clear hA hC hb0 hb
  have x0 := hA0.c0
  have x1 := hA0.c1
  go_wp2_with fail
  refine (K1.out _).mono ?_
  rintro e w2 ⟨rfl, hb⟩
  have hbl := box_below w2 (.cells #[.int .i64 X, .int .i64 Y] 25)
  have hC1 := (hC0.on hb).on hbl
  have hX1 := Bt.new 25 w2 X Y
  have hb2 := (hb1.trans (hb.mono hb1.size)).trans (hbl.mono (hb1.trans (hb.mono hb1.size)).size)
  have hz := (hb1.trans (hb.mono hb1.size)).size
  clear hA0 hC0 hb1 hb hbl x0 x1
  go_upto_region 3 with fail
  generalize w2.alloc (.cells #[.int .i64 X, .int .i64 Y] 25) = w1 at *
  generalize w2.heap.size = gx at *
  have t0 := hX1.c0
  have t1 := hX1.c1
  have u0 := hC1.c0
  have u1 := hC1.c1
  have lg : gx < w1.heap.size := hX1.lt
  have l1 : W.heap.size + 1 < w1.heap.size := hC1.lt
  have KM1 := Lib.hid (fun w' (hb : Below w1.heap.size w1 w') => calls_two hb (Made_is u v w'))
  have KP := Lib.hid (fun w' (hb : Below w1.heap.size w1 w') => calls_two hb (K2.out w'))
  have hq : Below w1.heap.size w1 w1 := Below.refl _ _
  have hqz := hq.size
  go_cut [9, 10] (fun vp vq wx => PayCut w1 0 0 9 vp vq wx)
  case first =>
    go_region_held3 (fun w' => w'.cell? ⟨gx, 0, none⟩ = some (.int .i64 X) ∧ w'.cell? ⟨gx, 1, none⟩ = some (.int .i64 Y) ∧ w'.cell? ⟨W.heap.size + 1, 0, none⟩ = some (.int .i64 u) ∧ w'.cell? ⟨W.heap.size + 1, 1, none⟩ = some (.int .i64 v))
      (first | exact ⟨(Below.cell (p := ⟨gx, 0, none⟩) (by repeat' (first | exact hq | refine Below.drew ?_ | refine below_drewN ?_ _ | refine Below.alloc ?_ ?_ _ | refine Below.setCell ?_ ?_ _ | exact hqz | exact Nat.le_refl _ | omega | (simp; done) | (simp; omega))) lg).trans t0, (Below.cell (p := ⟨gx, 1, none⟩) (by repeat' (first | exact hq | refine Below.drew ?_ | refine below_drewN ?_ _ | refine Below.alloc ?_ ?_ _ | refine Below.setCell ?_ ?_ _ | exact hqz | exact Nat.le_refl _ | omega | (simp; done) | (simp; omega))) lg).trans t1, (Below.cell (p := ⟨W.heap.size + 1, 0, none⟩) (by repeat' (first | exact hq | refine Below.drew ?_ | refine below_drewN ?_ _ | refine Below.alloc ?_ ?_ _ | refine Below.setCell ?_ ?_ _ | exact hqz | exact Nat.le_refl _ | omega | (simp; done) | (simp; omega))) l1).trans u0, (Below.cell (p := ⟨W.heap.size + 1, 1, none⟩) (by repeat' (first | exact hq | refine Below.drew ?_ | refine below_drewN ?_ _ | refine Below.alloc ?_ ?_ _ | refine Below.setCell ?_ ?_ _ | exact hqz | exact Nat.le_refl _ | omega | (simp; done) | (simp; omega))) l1).trans u1⟩ | fail)
      (first
        | (go_at_call 9; (with_reducible refine (KM1.out _ (by repeat' (first | exact hq | refine Below.drew ?_ | refine below_drewN ?_ _ | refine Below.alloc ?_ ?_ _ | refine Below.setCell ?_ ?_ _ | exact hqz | exact Nat.le_refl _ | omega | (simp; done) | (simp; omega)))).mono ?_); rintro e wa ⟨rfl, hq, hr⟩; have hqz := hq.size; (try (have hZa := Bt.on (t := 25) (x := 0) (y := 0) (by first | exact Bt.new _ _ _ _ | exact Bt.drewN (Bt.new _ _ _ _) _) hr; have z0 := hZa.c0; have z1 := hZa.c1; have g0 := hZa.f 0; have g1 := hZa.f 1)))
        | (go_at_call 10; (with_reducible refine (KP.out _ (by repeat' (first | exact hq | refine Below.drew ?_ | refine below_drewN ?_ _ | refine Below.alloc ?_ ?_ _ | refine Below.setCell ?_ ?_ _ | exact hqz | exact Nat.le_refl _ | omega | (simp; done) | (simp; omega)))).mono ?_); rintro e wc ⟨rfl, hq, hr⟩; have hqz := hq.size; (try (have hZc := Bt.on (t := 25) (x := 0) (y := 0) (by first | exact Bt.new _ _ _ _ | exact Bt.drewN (Bt.new _ _ _ _) _) hr; have z0 := hZc.c0; have z1 := hZc.c1; have g0 := hZc.f 0; have g1 := hZc.f 1)); (try (have hZc := Bt.on hZa hr; have z0 := hZc.c0; have z1 := hZc.c1; have g0 := hZc.f 0; have g1 := hZc.f 1))))
    all_goals
      go_wp2_with fail
      go_meet
      case rel => with_reducible first | exact PayCut.new hq | (refine PayCut.set hq hZc ?_ <;> first | exact hqz | omega | (simp; done) | (simp; omega))
  case rest =>
    obtain ⟨g, rfl, rfl, hY', hbc⟩ := hcut
    have hC2 := hC1.on hbc
    have hX2 := hX1.on hbc
    have hb3 := hb2.trans (hbc.mono hb2.size)
    clear hC1 hX1 hb2 hbc t0 t1 u0 u1 lg l1 hq hqz KM1 KP
    have t0 := hX2.c0
    have t1 := hX2.c1
    have y0 := hY'.c0
    have y1 := hY'.c1
    have u0 := hC2.c0
    have u1 := hC2.c1
    have hC3 := hC2.alloc (.cells #[.int .i64 (X + m), .int .i64 (Y + m)] 25)
    have u2 := hC3.c0
    have u3 := hC3.c1
    have hY3 := hY'.alloc (.cells #[.int .i64 (X + m), .int .i64 (Y + m)] 25)
    have y2 := hY3.c0
    have y3 := hY3.c1
    have hbz := hb3.alloc hb3.size (.cells #[.int .i64 (X + m), .int .i64 (Y + m)] 25)
    clear hX hY hm
    go_wp2_with fail
    go_ret
    exact ⟨rfl, hbz⟩
set_option maxRecDepth 10000 in
set_option maxHeartbeats 6400000 in
theorem never_ok {a b u v m X Y p q : Int} (W : World) (hX : 0 ≤ X ∧ X ≤ 1099511627776) (hY : 0 ≤ Y ∧ Y ≤ 1099511627776) (hm : 0 ≤ m ∧ m ≤ 4294967295) (hp : 0 ≤ p ∧ p ≤ X) (hq0 : 0 ≤ q ∧ q ≤ Y) (hs : IntKind.i64.wrap (p + u) = X) {r s : Int}
    (K1 : Hid (∀ w, Calls Try.prog 17 #[.int .i64 a, .int .i64 b] w (AggEnd (.agg #[.int .i64 X, .int .i64 Y]) w)))
    (K2 : Hid (∀ w, Calls Try.prog 10 #[.agg #[.int .i64 X, .int .i64 Y], .agg #[.int .i64 u, .int .i64 v]] w (AggEnd (.tuple #[.agg #[.int .i64 p, .int .i64 q], .int .i64 0]) w)))
    (K3 : Hid (∀ w, Calls Try.prog 10 #[.agg #[.int .i64 (X + m), .int .i64 (Y + m)], .agg #[.int .i64 u, .int .i64 v]] w (AggEnd (.tuple #[.agg #[.int .i64 r, .int .i64 s], .int .i64 0]) w)))
    (K4 : Hid (∀ w, Calls Try.prog 12 #[.agg #[.int .i64 (X + m), .int .i64 (Y + m)], .agg #[.int .i64 u, .int .i64 v]] w (AggEnd (.bool true) w))) :
    Calls Try.prog 7 #[.agg #[.int .i64 a, .int .i64 b], .agg #[.int .i64 u, .int .i64 v], .int .u32 m] W (TrueEnd W) := by
  obtain ⟨hp0, hp1⟩ := hp
  obtain ⟨hq1, hq2⟩ := hq0
  have s1 : (W.alloc (.cells #[.int .i64 a, .int .i64 b] 23)).heap.size = W.heap.size + 1 := by simp
  have hA := (Bt.new 23 W a b).alloc (.cells #[.int .i64 u, .int .i64 v] 23)
  have hC := Bt.new' 23 (W.alloc (.cells #[.int .i64 a, .int .i64 b] 23)) s1.symm u v
  have hb0 := (box_below W (.cells #[.int .i64 a, .int .i64 b] 23)).alloc (by omega) (.cells #[.int .i64 u, .int .i64 v] 23)
  have wm : IntKind.i64.wrap m = m := wr (by omega) (by omega)
  have wX : IntKind.i64.wrap (X + m) = X + m := wr (by omega) (by omega)
  have wY : IntKind.i64.wrap (Y + m) = Y + m := wr (by omega) (by omega)
  clear s1
  go_enter Try.func7, Try.ntmps7
  go_wp2_with fail
  refine (shown_is _).mono ?_
  rintro e w0 ⟨rfl, hb⟩
  have hA0 := hA.on hb
  have hC0 := hC.on hb
  have hb1 := hb0.trans (hb.mono hb0.size)
  clear hA hC hb0 hb
  have x0 := hA0.c0
  have x1 := hA0.c1
  go_wp2_with fail
  refine (K1.out _).mono ?_
  rintro e w2 ⟨rfl, hb⟩
  have hbl := box_below w2 (.cells #[.int .i64 X, .int .i64 Y] 25)
  have hC1 := (hC0.on hb).on hbl
  have hX1 := Bt.new 25 w2 X Y
  have hb2 := (hb1.trans (hb.mono hb1.size)).trans (hbl.mono (hb1.trans (hb.mono hb1.size)).size)
  have hz := (hb1.trans (hb.mono hb1.size)).size
  clear hA0 hC0 hb1 hb hbl x0 x1
  go_upto_region 3 with fail
  generalize w2.alloc (.cells #[.int .i64 X, .int .i64 Y] 25) = w1 at *
  generalize w2.heap.size = gx at *
  have t0 := hX1.c0
  have t1 := hX1.c1
  have u0 := hC1.c0
  have u1 := hC1.c1
  have lg : gx < w1.heap.size := hX1.lt
  have l1 : W.heap.size + 1 < w1.heap.size := hC1.lt
  have KM1 := Lib.hid (fun w' (hb : Below w1.heap.size w1 w') => calls_two hb (Made_is u v w'))
  have KP := Lib.hid (fun w' (hb : Below w1.heap.size w1 w') => calls_two hb (K2.out w'))
  have hq : Below w1.heap.size w1 w1 := Below.refl _ _
  have hqz := hq.size
  go_cut [9, 10] (fun vp vq wx => PayCut w1 p q 0 vp vq wx)
  case first =>
    go_region_held3 (fun w' => w'.cell? ⟨gx, 0, none⟩ = some (.int .i64 X) ∧ w'.cell? ⟨gx, 1, none⟩ = some (.int .i64 Y) ∧ w'.cell? ⟨W.heap.size + 1, 0, none⟩ = some (.int .i64 u) ∧ w'.cell? ⟨W.heap.size + 1, 1, none⟩ = some (.int .i64 v))
      (first | exact ⟨(Below.cell (p := ⟨gx, 0, none⟩) (by repeat' (first | exact hq | refine Below.drew ?_ | refine below_drewN ?_ _ | refine Below.alloc ?_ ?_ _ | refine Below.setCell ?_ ?_ _ | exact hqz | exact Nat.le_refl _ | omega | (simp; done) | (simp; omega))) lg).trans t0, (Below.cell (p := ⟨gx, 1, none⟩) (by repeat' (first | exact hq | refine Below.drew ?_ | refine below_drewN ?_ _ | refine Below.alloc ?_ ?_ _ | refine Below.setCell ?_ ?_ _ | exact hqz | exact Nat.le_refl _ | omega | (simp; done) | (simp; omega))) lg).trans t1, (Below.cell (p := ⟨W.heap.size + 1, 0, none⟩) (by repeat' (first | exact hq | refine Below.drew ?_ | refine below_drewN ?_ _ | refine Below.alloc ?_ ?_ _ | refine Below.setCell ?_ ?_ _ | exact hqz | exact Nat.le_refl _ | omega | (simp; done) | (simp; omega))) l1).trans u0, (Below.cell (p := ⟨W.heap.size + 1, 1, none⟩) (by repeat' (first | exact hq | refine Below.drew ?_ | refine below_drewN ?_ _ | refine Below.alloc ?_ ?_ _ | refine Below.setCell ?_ ?_ _ | exact hqz | exact Nat.le_refl _ | omega | (simp; done) | (simp; omega))) l1).trans u1⟩ | fail)
      (first
        | (go_at_call 9; (with_reducible refine (KM1.out _ (by repeat' (first | exact hq | refine Below.drew ?_ | refine below_drewN ?_ _ | refine Below.alloc ?_ ?_ _ | refine Below.setCell ?_ ?_ _ | exact hqz | exact Nat.le_refl _ | omega | (simp; done) | (simp; omega)))).mono ?_); rintro e wa ⟨rfl, hq, hr⟩; have hqz := hq.size; (try (have hZa := Bt.on (t := 25) (x := 0) (y := 0) (by first | exact Bt.new _ _ _ _ | exact Bt.drewN (Bt.new _ _ _ _) _) hr; have z0 := hZa.c0; have z1 := hZa.c1; have g0 := hZa.f 0; have g1 := hZa.f 1)))
        | (go_at_call 10; (with_reducible refine (KP.out _ (by repeat' (first | exact hq | refine Below.drew ?_ | refine below_drewN ?_ _ | refine Below.alloc ?_ ?_ _ | refine Below.setCell ?_ ?_ _ | exact hqz | exact Nat.le_refl _ | omega | (simp; done) | (simp; omega)))).mono ?_); rintro e wc ⟨rfl, hq, hr⟩; have hqz := hq.size; (try (have hZc := Bt.on (t := 25) (x := 0) (y := 0) (by first | exact Bt.new _ _ _ _ | exact Bt.drewN (Bt.new _ _ _ _) _) hr; have z0 := hZc.c0; have z1 := hZc.c1; have g0 := hZc.f 0; have g1 := hZc.f 1)); (try (have hZc := Bt.on hZa hr; have z0 := hZc.c0; have z1 := hZc.c1; have g0 := hZc.f 0; have g1 := hZc.f 1))))
    all_goals
      go_wp2_with fail
      go_meet
      case rel => with_reducible first | exact PayCut.new hq | (refine PayCut.set hq hZc ?_ <;> first | exact hqz | omega | (simp; done) | (simp; omega))
  case rest =>
    obtain ⟨g, rfl, rfl, hY', hbc⟩ := hcut
    have hC2 := hC1.on hbc
    have hX2 := hX1.on hbc
    have hb3 := hb2.trans (hbc.mono hb2.size)
    clear hC1 hX1 hb2 hbc t0 t1 u0 u1 lg l1 hq hqz KM1 KP
    have t0 := hX2.c0
    have t1 := hX2.c1
    have hC3 := hC2.alloc (.cells #[.int .i64 (X + m), .int .i64 (Y + m)] 25)
    have hX3 := hX2.alloc (.cells #[.int .i64 (X + m), .int .i64 (Y + m)] 25)
    have hY3 := hY'.alloc (.cells #[.int .i64 (X + m), .int .i64 (Y + m)] 25)
    have hR3 := Bt.new 25 wc (X + m) (Y + m)
    have hb4 := hb3.alloc hb3.size (.cells #[.int .i64 (X + m), .int .i64 (Y + m)] 25)
    have hz4 := hb3.size
    go_upto_region 7 with fail
    clear hC2 hX2 hY' hb3 t0 t1
    generalize wc.alloc (.cells #[.int .i64 (X + m), .int .i64 (Y + m)] 25) = w4 at *
    generalize wc.heap.size = gr at *
    generalize X + m = Xm at *
    generalize Y + m = Ym at *
    clear wX wY
    have t0 := hR3.c0
    have t1 := hR3.c1
    have u0 := hC3.c0
    have u1 := hC3.c1
    have lg : gr < w4.heap.size := hR3.lt
    have l1 : W.heap.size + 1 < w4.heap.size := hC3.lt
    have KM1 := Lib.hid (fun w' (hb : Below w4.heap.size w4 w') => calls_two hb (Made_is u v w'))
    have KP := Lib.hid (fun w' (hb : Below w4.heap.size w4 w') => calls_two hb (K3.out w'))
    have hq : Below w4.heap.size w4 w4 := Below.refl _ _
    have hqz := hq.size
    go_cut [12, 13] (fun vp vq wx => PayCut w4 r s 0 vp vq wx)
    case first =>
      go_region_held3 (fun w' => w'.cell? ⟨gr, 0, none⟩ = some (.int .i64 Xm) ∧ w'.cell? ⟨gr, 1, none⟩ = some (.int .i64 Ym) ∧ w'.cell? ⟨W.heap.size + 1, 0, none⟩ = some (.int .i64 u) ∧ w'.cell? ⟨W.heap.size + 1, 1, none⟩ = some (.int .i64 v))
        (first | exact ⟨(Below.cell (p := ⟨gr, 0, none⟩) (by repeat' (first | exact hq | refine Below.drew ?_ | refine below_drewN ?_ _ | refine Below.alloc ?_ ?_ _ | refine Below.setCell ?_ ?_ _ | exact hqz | exact Nat.le_refl _ | omega | (simp; done) | (simp; omega))) lg).trans t0, (Below.cell (p := ⟨gr, 1, none⟩) (by repeat' (first | exact hq | refine Below.drew ?_ | refine below_drewN ?_ _ | refine Below.alloc ?_ ?_ _ | refine Below.setCell ?_ ?_ _ | exact hqz | exact Nat.le_refl _ | omega | (simp; done) | (simp; omega))) lg).trans t1, (Below.cell (p := ⟨W.heap.size + 1, 0, none⟩) (by repeat' (first | exact hq | refine Below.drew ?_ | refine below_drewN ?_ _ | refine Below.alloc ?_ ?_ _ | refine Below.setCell ?_ ?_ _ | exact hqz | exact Nat.le_refl _ | omega | (simp; done) | (simp; omega))) l1).trans u0, (Below.cell (p := ⟨W.heap.size + 1, 1, none⟩) (by repeat' (first | exact hq | refine Below.drew ?_ | refine below_drewN ?_ _ | refine Below.alloc ?_ ?_ _ | refine Below.setCell ?_ ?_ _ | exact hqz | exact Nat.le_refl _ | omega | (simp; done) | (simp; omega))) l1).trans u1⟩ | fail)
        (first
          | (go_at_call 9; (with_reducible refine (KM1.out _ (by repeat' (first | exact hq | refine Below.drew ?_ | refine below_drewN ?_ _ | refine Below.alloc ?_ ?_ _ | refine Below.setCell ?_ ?_ _ | exact hqz | exact Nat.le_refl _ | omega | (simp; done) | (simp; omega)))).mono ?_); rintro e wa ⟨rfl, hq, hr⟩; have hqz := hq.size; (try (have hZa := Bt.on (t := 25) (x := 0) (y := 0) (by first | exact Bt.new _ _ _ _ | exact Bt.drewN (Bt.new _ _ _ _) _) hr; have z0 := hZa.c0; have z1 := hZa.c1; have g0 := hZa.f 0; have g1 := hZa.f 1)))
          | (go_at_call 10; (with_reducible refine (KP.out _ (by repeat' (first | exact hq | refine Below.drew ?_ | refine below_drewN ?_ _ | refine Below.alloc ?_ ?_ _ | refine Below.setCell ?_ ?_ _ | exact hqz | exact Nat.le_refl _ | omega | (simp; done) | (simp; omega)))).mono ?_); rintro e wc ⟨rfl, hq, hr⟩; have hqz := hq.size; (try (have hZc := Bt.on (t := 25) (x := 0) (y := 0) (by first | exact Bt.new _ _ _ _ | exact Bt.drewN (Bt.new _ _ _ _) _) hr; have z0 := hZc.c0; have z1 := hZc.c1; have g0 := hZc.f 0; have g1 := hZc.f 1)); (try (have hZc := Bt.on hZa hr; have z0 := hZc.c0; have z1 := hZc.c1; have g0 := hZc.f 0; have g1 := hZc.f 1))))
      all_goals
        go_wp2_with fail
        go_meet
        case rel => with_reducible first | exact PayCut.new hq | (refine PayCut.set hq hZc ?_ <;> first | exact hqz | omega | (simp; done) | (simp; omega))
    case rest =>
      obtain ⟨g5, rfl, rfl, _, hbc⟩ := hcut
      have hC5 := hC3.on hbc
      have hX5 := hX3.on hbc
      have hY5 := hY3.on hbc
      have hR5 := hR3.on hbc
      have hb5 := hb4.trans (hbc.mono hb4.size)
      clear hC3 hX3 hY3 hR3 hb4 hbc t0 t1 u0 u1 lg l1 hq hqz KM1 KP
      have x0 := hX5.c0
      have x1 := hX5.c1
      have y0 := hY5.c0
      have y1 := hY5.c1
      have u0 := hC5.c0
      have u1 := hC5.c1
      have t0 := hR5.c0
      have t1 := hR5.c1
      have lX : gx < wc.heap.size := hX5.lt
      have lY : g < wc.heap.size := hY5.lt
      have l1 : W.heap.size + 1 < wc.heap.size := hC5.lt
      have lg : gr < wc.heap.size := hR5.lt
      have KM1 := Lib.hid (fun w' (hb : Below wc.heap.size wc w') => calls_base hb (Made_is u v w'))
      have KC := Lib.hid (fun w' (hb : Below wc.heap.size wc w') => calls_base hb (K4.out w'))
      have hq : Below wc.heap.size wc wc := Below.refl _ _
      clear K1 K2 K3 K4 hX5 hY5 hC5 hR5 hX hY hm
      go_upto_region 8 with fail
      go_region_held3 (fun w' => w'.cell? ⟨gx, 0, none⟩ = some (.int .i64 X) ∧ w'.cell? ⟨gx, 1, none⟩ = some (.int .i64 Y) ∧ w'.cell? ⟨g, 0, none⟩ = some (.int .i64 p) ∧ w'.cell? ⟨g, 1, none⟩ = some (.int .i64 q) ∧ w'.cell? ⟨W.heap.size + 1, 0, none⟩ = some (.int .i64 u) ∧ w'.cell? ⟨W.heap.size + 1, 1, none⟩ = some (.int .i64 v) ∧ w'.cell? ⟨gr, 0, none⟩ = some (.int .i64 Xm) ∧ w'.cell? ⟨gr, 1, none⟩ = some (.int .i64 Ym))
        (first | exact ⟨(Below.cell (p := ⟨gx, 0, none⟩) (by repeat' (first | exact hq | refine Below.drew ?_ | refine below_drewN ?_ _)) lX).trans x0, (Below.cell (p := ⟨gx, 1, none⟩) (by repeat' (first | exact hq | refine Below.drew ?_ | refine below_drewN ?_ _)) lX).trans x1, (Below.cell (p := ⟨g, 0, none⟩) (by repeat' (first | exact hq | refine Below.drew ?_ | refine below_drewN ?_ _)) lY).trans y0, (Below.cell (p := ⟨g, 1, none⟩) (by repeat' (first | exact hq | refine Below.drew ?_ | refine below_drewN ?_ _)) lY).trans y1, (Below.cell (p := ⟨W.heap.size + 1, 0, none⟩) (by repeat' (first | exact hq | refine Below.drew ?_ | refine below_drewN ?_ _)) l1).trans u0, (Below.cell (p := ⟨W.heap.size + 1, 1, none⟩) (by repeat' (first | exact hq | refine Below.drew ?_ | refine below_drewN ?_ _)) l1).trans u1, (Below.cell (p := ⟨gr, 0, none⟩) (by repeat' (first | exact hq | refine Below.drew ?_ | refine below_drewN ?_ _)) lg).trans t0, (Below.cell (p := ⟨gr, 1, none⟩) (by repeat' (first | exact hq | refine Below.drew ?_ | refine below_drewN ?_ _)) lg).trans t1⟩ | fail)
        (first
          | (go_at_call 9; (with_reducible refine (KM1.out _ (by repeat' (first | exact hq | refine Below.drew ?_ | refine below_drewN ?_ _))).mono ?_); rintro e wa ⟨rfl, hq⟩)
          | (go_at_call 12; (with_reducible refine (KC.out _ (by repeat' (first | exact hq | refine Below.drew ?_ | refine below_drewN ?_ _))).mono ?_); rintro e wa ⟨rfl, hq⟩))
      all_goals
        go_wp2_with fail
        go_ret
        exact ⟨rfl, hb5.trans (hq.mono hb5.size)⟩
theorem never_any {a b u v m : Int} (W : World) (hm : 0 ≤ m ∧ m ≤ 4294967295) : Calls Try.prog 7 #[.agg #[.int .i64 a, .int .i64 b], .agg #[.int .i64 u, .int .i64 v], .int .u32 m] W (TrueEnd W) := by
  have hX := bd_le a
  have hY := bd_le b
  have K1 := Lib.hid (fun w => New_is a b w)
  generalize bd a = X at *
  generalize bd b = Y at *
  have K2 := fun w => Pay_is (x := X) (y := Y) u v (by omega) (by omega) w
  by_cases hu : u < 0
  · rw [pay_arg (.inl hu)] at K2
    exact never_arg1 W hX hY hm hu K1 (Lib.hid K2)
  · by_cases hv : v < 0
    · rw [pay_arg (.inr hv)] at K2
      exact never_arg2 W hX hY hm hu hv K1 (Lib.hid K2)
    · rcases Bool.eq_false_or_eq_true (canB X Y u v) with hc | hc
      · have hq := canB_yes.1 hc
        rw [pay_ok hc] at K2
        have hc3 : canB (X + m) (Y + m) u v = true := canB_yes.2 (by omega)
        have K3 := fun w => Pay_is (x := X + m) (y := Y + m) u v (by omega) (by omega) w
        rw [pay_ok hc3] at K3
        have K4 := fun w => Can_is (X + m) (Y + m) u v w
        rw [hc3] at K4
        exact never_ok W hX hY hm (p := X - u) (q := Y - v) (by omega) (by omega) (by rw [Int.sub_add_cancel]; exact wr (by omega) (by omega)) K1 (Lib.hid K2) (Lib.hid K3) (Lib.hid K4)
      · rw [pay_limit (by omega) hc] at K2
        exact never_limit W hX hY hm hu hv K1 (Lib.hid K2)
end Go.Proofs.Ytjjeikcmnngnjaa

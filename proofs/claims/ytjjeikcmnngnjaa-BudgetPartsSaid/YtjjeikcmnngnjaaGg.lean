/-
  BudgetTells at every pair of budgets.
-/
import Derived.Test.YtjjeikcmnngnjaaGf
import Derived.Deep.RegionHeld3
import Derived.Deep.DeepCutAuto
namespace Go.Proofs.Ytjjeikcmnngnjaa
open Go.RowKit

/-- A callee's end, told of an elder world (and of its own). -/
theorem calls_base {f : FuncId} {args : Array Value} {wb w : World} {v : Value} (hb : Below wb.heap.size wb w) (h : Calls Try.prog f args w (AggEnd v w)) : Calls Try.prog f args w fun e W' => e = .returned v ∧ Below wb.heap.size wb W' :=
  h.mono fun _ _ ⟨h1, h2⟩ => ⟨h1, hb.trans (h2.mono hb.size)⟩
theorem calls_two {f : FuncId} {args : Array Value} {wb w : World} {v : Value} (hb : Below wb.heap.size wb w) (h : Calls Try.prog f args w (AggEnd v w)) : Calls Try.prog f args w fun e W' => e = .returned v ∧ Below wb.heap.size wb W' ∧ Below w.heap.size w W' :=
  h.mono fun _ _ ⟨h1, h2⟩ => ⟨h1, hb.trans (h2.mono hb.size), h2⟩
/-- What behind a paying is kept: a box with what is left in it, and the error's number. -/
def PayCut (w1 : World) (x y e : Int) (p q : Value) (wx : World) : Prop :=
  ∃ g, p = .pointer (some ⟨g, 0, none⟩) ∧ q = .int .i64 e ∧ Bt 25 wx g x y ∧ Below w1.heap.size w1 wx
theorem PayCut.new {w1 wb : World} {x y e : Int} (hb : Below w1.heap.size w1 wb) : PayCut w1 x y e (.pointer (some ⟨wb.heap.size, 0, none⟩)) (.int .i64 e) (wb.alloc (.cells #[.int .i64 x, .int .i64 y] 25)) :=
  ⟨_, rfl, rfl, Bt.new _ _ _ _, hb.alloc hb.size _⟩
theorem PayCut.set {w1 wb : World} {x y e a b : Int} {g : Nat} (hb : Below w1.heap.size w1 wb) (hZ : Bt 25 wb g a b) (h3 : w1.heap.size ≤ g) : PayCut w1 x y e (.pointer (some ⟨g, 0, none⟩)) (.int .i64 e) ((wb.setCell ⟨g, 0, none⟩ (.int .i64 x)).setCell ⟨g, 1, none⟩ (.int .i64 y)) :=
  ⟨_, rfl, rfl, hZ.set _ _, below_made hb h3 _ _⟩
set_option maxRecDepth 10000 in
set_option maxHeartbeats 6400000 in
theorem tells_any {a b u v n : Int} (W : World) (ha : a ≤ 9223372036854775807) (hb' : b ≤ 9223372036854775807) :
    Calls Try.prog 3 #[.agg #[.int .i64 a, .int .i64 b], .agg #[.int .i64 u, .int .i64 v], .int .i64 n] W (TrueEnd W) := by
  have K1 := fun w => Pay_is u v ha hb' w
  have K2 := fun w => rPay_is u v ha hb' w
  have K3 := fun w => Can_is a b u v w
  have K4 := fun w => rCan_is a b u v w
  have K5 := fun w => Times_is a b n w
  have K6 := fun w => rTimes_is a b n w
  have K7 := fun w => New_is a n w
  have K8 := fun w => rNew_is a n w
  generalize lf (payE a b u v) a u = px at *
  generalize lf (payE a b u v) b v = py at *
  generalize payE a b u v = er at *
  generalize canB a b u v = cb at *
  generalize pd a n = tx at *
  generalize pd b n = ty at *
  generalize bd a = nx at *
  generalize bd n = ny at *
  have s1 : (W.alloc (.cells #[.int .i64 a, .int .i64 b] 23)).heap.size = W.heap.size + 1 := by simp
  have hA := (Bt.new 23 W a b).alloc (.cells #[.int .i64 u, .int .i64 v] 23)
  have hC := Bt.new' 23 (W.alloc (.cells #[.int .i64 a, .int .i64 b] 23)) s1.symm u v
  have hb0 := (box_below W (.cells #[.int .i64 a, .int .i64 b] 23)).alloc (by omega) (.cells #[.int .i64 u, .int .i64 v] 23)
  clear s1 ha hb'
  replace K1 := Lib.hid K1
  replace K2 := Lib.hid K2
  replace K3 := Lib.hid K3
  replace K4 := Lib.hid K4
  replace K5 := Lib.hid K5
  replace K6 := Lib.hid K6
  replace K7 := Lib.hid K7
  replace K8 := Lib.hid K8
  go_enter Try.func3, Try.ntmps3
  go_wp2_with fail
  refine (shown_is _).mono ?_
  rintro e w1 ⟨rfl, hb⟩
  have hA1 := hA.on hb
  have hC1 := hC.on hb
  have hb1 := hb0.trans (hb.mono hb0.size)
  clear hA hC hb0 hb
  go_upto_region 2 with fail
  have x0 := hA1.c0
  have x1 := hA1.c1
  have u0 := hC1.c0
  have u1 := hC1.c1
  have l0 : W.heap.size < w1.heap.size := hA1.lt
  have l1 : W.heap.size + 1 < w1.heap.size := hC1.lt
  have KM1 := Lib.hid (fun w' (hb : Below w1.heap.size w1 w') => calls_two hb (Made_is a b w'))
  have KM2 := Lib.hid (fun w' (hb : Below w1.heap.size w1 w') => calls_two hb (Made_is u v w'))
  have KP := Lib.hid (fun w' (hb : Below w1.heap.size w1 w') => calls_two hb (K1.out w'))
  have hq : Below w1.heap.size w1 w1 := Below.refl _ _
  have hqz := hq.size
  go_cut [8, 9] (fun p q wx => PayCut w1 px py er p q wx)
  case first =>
    go_region_held3 (fun w' => w'.cell? ⟨W.heap.size, 0, none⟩ = some (.int .i64 a) ∧ w'.cell? ⟨W.heap.size, 1, none⟩ = some (.int .i64 b) ∧ w'.cell? ⟨W.heap.size + 1, 0, none⟩ = some (.int .i64 u) ∧ w'.cell? ⟨W.heap.size + 1, 1, none⟩ = some (.int .i64 v))
      (first | exact ⟨(Below.cell (p := ⟨W.heap.size, 0, none⟩) (by repeat' (first | exact hq | refine Below.drew ?_ | refine below_drewN ?_ _ | refine Below.alloc ?_ ?_ _ | refine Below.setCell ?_ ?_ _ | exact hqz | exact Nat.le_refl _ | omega | (simp; done) | (simp; omega))) l0).trans x0, (Below.cell (p := ⟨W.heap.size, 1, none⟩) (by repeat' (first | exact hq | refine Below.drew ?_ | refine below_drewN ?_ _ | refine Below.alloc ?_ ?_ _ | refine Below.setCell ?_ ?_ _ | exact hqz | exact Nat.le_refl _ | omega | (simp; done) | (simp; omega))) l0).trans x1, (Below.cell (p := ⟨W.heap.size + 1, 0, none⟩) (by repeat' (first | exact hq | refine Below.drew ?_ | refine below_drewN ?_ _ | refine Below.alloc ?_ ?_ _ | refine Below.setCell ?_ ?_ _ | exact hqz | exact Nat.le_refl _ | omega | (simp; done) | (simp; omega))) l1).trans u0, (Below.cell (p := ⟨W.heap.size + 1, 1, none⟩) (by repeat' (first | exact hq | refine Below.drew ?_ | refine below_drewN ?_ _ | refine Below.alloc ?_ ?_ _ | refine Below.setCell ?_ ?_ _ | exact hqz | exact Nat.le_refl _ | omega | (simp; done) | (simp; omega))) l1).trans u1⟩ | fail)
      (first
        | (go_at_call 9; (with_reducible refine (KM1.out _ (by repeat' (first | exact hq | refine Below.drew ?_ | refine below_drewN ?_ _ | refine Below.alloc ?_ ?_ _ | refine Below.setCell ?_ ?_ _ | exact hqz | exact Nat.le_refl _ | omega | (simp; done) | (simp; omega)))).mono ?_); rintro e wa ⟨rfl, hq, hr⟩; have hqz := hq.size; (try (have hZa := Bt.on (t := 25) (x := 0) (y := 0) (by first | exact Bt.new _ _ _ _ | exact Bt.drewN (Bt.new _ _ _ _) _) hr; have z0 := hZa.c0; have z1 := hZa.c1; have g0 := hZa.f 0; have g1 := hZa.f 1)); (try (have hZa := Bt.on hZb hr; have z0 := hZa.c0; have z1 := hZa.c1; have g0 := hZa.f 0; have g1 := hZa.f 1)))
        | (go_at_call 9; (with_reducible refine (KM2.out _ (by repeat' (first | exact hq | refine Below.drew ?_ | refine below_drewN ?_ _ | refine Below.alloc ?_ ?_ _ | refine Below.setCell ?_ ?_ _ | exact hqz | exact Nat.le_refl _ | omega | (simp; done) | (simp; omega)))).mono ?_); rintro e wb ⟨rfl, hq, hr⟩; have hqz := hq.size; (try (have hZb := Bt.on (t := 25) (x := 0) (y := 0) (by first | exact Bt.new _ _ _ _ | exact Bt.drewN (Bt.new _ _ _ _) _) hr; have z0 := hZb.c0; have z1 := hZb.c1; have g0 := hZb.f 0; have g1 := hZb.f 1)); (try (have hZb := Bt.on hZa hr; have z0 := hZb.c0; have z1 := hZb.c1; have g0 := hZb.f 0; have g1 := hZb.f 1)))
        | (go_at_call 10; (with_reducible refine (KP.out _ (by repeat' (first | exact hq | refine Below.drew ?_ | refine below_drewN ?_ _ | refine Below.alloc ?_ ?_ _ | refine Below.setCell ?_ ?_ _ | exact hqz | exact Nat.le_refl _ | omega | (simp; done) | (simp; omega)))).mono ?_); rintro e wc ⟨rfl, hq, hr⟩; have hqz := hq.size; (try (have hZc := Bt.on (t := 25) (x := 0) (y := 0) (by first | exact Bt.new _ _ _ _ | exact Bt.drewN (Bt.new _ _ _ _) _) hr; have z0 := hZc.c0; have z1 := hZc.c1; have g0 := hZc.f 0; have g1 := hZc.f 1)); (try (have hZc := Bt.on hZb hr; have z0 := hZc.c0; have z1 := hZc.c1; have g0 := hZc.f 0; have g1 := hZc.f 1)); (try (have hZc := Bt.on hZa hr; have z0 := hZc.c0; have z1 := hZc.c1; have g0 := hZc.f 0; have g1 := hZc.f 1))))
    all_goals
      go_wp2_with fail
      go_meet
      case rel => with_reducible first | exact PayCut.new hq | (refine PayCut.set hq hZc ?_ <;> first | exact hqz | omega | (simp; done) | (simp; omega))
  case rest =>
    obtain ⟨g, rfl, rfl, hX, hbc⟩ := hcut
    have hA2 := hA1.on hbc
    have hC2 := hC1.on hbc
    have hb2 := hb1.trans (hbc.mono hb1.size)
    clear hA1 hC1 hb1 hbc l0 l1 hq hqz x0 x1 u0 u1 KM1 KM2 KP
    have x0 := hA2.c0
    have x1 := hA2.c1
    have u0 := hC2.c0
    have u1 := hC2.c1
    go_wp2_with fail
    refine (K2.out _).mono ?_
    rintro e wd ⟨rfl, hb⟩
    have hbl := box_below wd (.cells #[.int .i64 px, .int .i64 py] 23)
    have hA3 := (hA2.on hb).on hbl
    have hC3 := (hC2.on hb).on hbl
    have hX3 := (hX.on hb).on hbl
    have hY3 := Bt.new 23 wd px py
    have hb3 := (hb2.trans (hb.mono hb2.size)).trans (hbl.mono (hb2.trans (hb.mono hb2.size)).size)
    clear hA2 hC2 hX hb2 hb hbl x0 x1 u0 u1
    go_upto_region 4 with fail
    have lY : wd.heap.size < (wd.alloc (.cells #[.int .i64 px, .int .i64 py] 23)).heap.size := hY3.lt
    generalize wd.heap.size = gy at hY3 lY ⊢
    generalize wd.alloc (.cells #[.int .i64 px, .int .i64 py] 23) = w4 at *
    have x0 := hA3.c0
    have x1 := hA3.c1
    have u0 := hC3.c0
    have u1 := hC3.c1
    have p0 := hX3.c0
    have p1 := hX3.c1
    have q0 := hY3.c0
    have q1 := hY3.c1
    have l0 : W.heap.size < w4.heap.size := hA3.lt
    have l1 : W.heap.size + 1 < w4.heap.size := hC3.lt
    have lX : g < w4.heap.size := hX3.lt
    have KM1 := Lib.hid (fun w' (hb : Below w4.heap.size w4 w') => calls_base hb (Made_is a b w'))
    have KM2 := Lib.hid (fun w' (hb : Below w4.heap.size w4 w') => calls_base hb (Made_is u v w'))
    have KC := Lib.hid (fun w' (hb : Below w4.heap.size w4 w') => calls_base hb (K3.out w'))
    have KD := Lib.hid (fun w' (hb : Below w4.heap.size w4 w') => calls_base hb (K4.out w'))
    have KR1 := Lib.hid (fun w' (hb : Below w4.heap.size w4 w') => calls_base hb (Real_is px py w'))
    have KR2 := Lib.hid (fun w' (hb : Below w4.heap.size w4 w') => calls_base hb (Real_is tx ty w'))
    have KR3 := Lib.hid (fun w' (hb : Below w4.heap.size w4 w') => calls_base hb (Real_is nx ny w'))
    have KT := Lib.hid (fun w' (hb : Below w4.heap.size w4 w') => calls_base hb (K5.out w'))
    have KU := Lib.hid (fun w' (hb : Below w4.heap.size w4 w') => calls_base hb (K6.out w'))
    have KN := Lib.hid (fun w' (hb : Below w4.heap.size w4 w') => calls_base hb (K7.out w'))
    have KO := Lib.hid (fun w' (hb : Below w4.heap.size w4 w') => calls_base hb (K8.out w'))
    have hq : Below w4.heap.size w4 w4 := Below.refl _ _
    clear K1 K2 K3 K4 K5 K6 K7 K8 hA3 hC3 hX3 hY3
    go_region_held3 (fun w' => w'.cell? ⟨W.heap.size, 0, none⟩ = some (.int .i64 a) ∧ w'.cell? ⟨W.heap.size, 1, none⟩ = some (.int .i64 b) ∧ w'.cell? ⟨W.heap.size + 1, 0, none⟩ = some (.int .i64 u) ∧ w'.cell? ⟨W.heap.size + 1, 1, none⟩ = some (.int .i64 v) ∧ w'.cell? ⟨g, 0, none⟩ = some (.int .i64 px) ∧ w'.cell? ⟨g, 1, none⟩ = some (.int .i64 py) ∧ w'.cell? ⟨gy, 0, none⟩ = some (.int .i64 px) ∧ w'.cell? ⟨gy, 1, none⟩ = some (.int .i64 py))
      (first | exact ⟨(Below.cell (p := ⟨W.heap.size, 0, none⟩) (by repeat' (first | exact hq | refine Below.drew ?_ | refine below_drewN ?_ _)) l0).trans x0, (Below.cell (p := ⟨W.heap.size, 1, none⟩) (by repeat' (first | exact hq | refine Below.drew ?_ | refine below_drewN ?_ _)) l0).trans x1, (Below.cell (p := ⟨W.heap.size + 1, 0, none⟩) (by repeat' (first | exact hq | refine Below.drew ?_ | refine below_drewN ?_ _)) l1).trans u0, (Below.cell (p := ⟨W.heap.size + 1, 1, none⟩) (by repeat' (first | exact hq | refine Below.drew ?_ | refine below_drewN ?_ _)) l1).trans u1, (Below.cell (p := ⟨g, 0, none⟩) (by repeat' (first | exact hq | refine Below.drew ?_ | refine below_drewN ?_ _)) lX).trans p0, (Below.cell (p := ⟨g, 1, none⟩) (by repeat' (first | exact hq | refine Below.drew ?_ | refine below_drewN ?_ _)) lX).trans p1, (Below.cell (p := ⟨gy, 0, none⟩) (by repeat' (first | exact hq | refine Below.drew ?_ | refine below_drewN ?_ _)) lY).trans q0, (Below.cell (p := ⟨gy, 1, none⟩) (by repeat' (first | exact hq | refine Below.drew ?_ | refine below_drewN ?_ _)) lY).trans q1⟩ | fail)
      (first
        | (go_at_call 9; (with_reducible refine (KM1.out _ (by repeat' (first | exact hq | refine Below.drew ?_ | refine below_drewN ?_ _))).mono ?_); rintro e wa ⟨rfl, hq⟩)
        | (go_at_call 9; (with_reducible refine (KM2.out _ (by repeat' (first | exact hq | refine Below.drew ?_ | refine below_drewN ?_ _))).mono ?_); rintro e wa ⟨rfl, hq⟩)
        | (go_at_call 12; (with_reducible refine (KC.out _ (by repeat' (first | exact hq | refine Below.drew ?_ | refine below_drewN ?_ _))).mono ?_); rintro e wa ⟨rfl, hq⟩)
        | (go_at_call 13; (with_reducible refine (KD.out _ (by repeat' (first | exact hq | refine Below.drew ?_ | refine below_drewN ?_ _))).mono ?_); rintro e wa ⟨rfl, hq⟩)
        | (go_at_call 14; (with_reducible refine (KR1.out _ (by repeat' (first | exact hq | refine Below.drew ?_ | refine below_drewN ?_ _))).mono ?_); rintro e wa ⟨rfl, hq⟩)
        | (go_at_call 14; (with_reducible refine (KR2.out _ (by repeat' (first | exact hq | refine Below.drew ?_ | refine below_drewN ?_ _))).mono ?_); rintro e wa ⟨rfl, hq⟩)
        | (go_at_call 14; (with_reducible refine (KR3.out _ (by repeat' (first | exact hq | refine Below.drew ?_ | refine below_drewN ?_ _))).mono ?_); rintro e wa ⟨rfl, hq⟩)
        | (go_at_call 15; (with_reducible refine (KT.out _ (by repeat' (first | exact hq | refine Below.drew ?_ | refine below_drewN ?_ _))).mono ?_); rintro e wa ⟨rfl, hq⟩)
        | (go_at_call 16; (with_reducible refine (KU.out _ (by repeat' (first | exact hq | refine Below.drew ?_ | refine below_drewN ?_ _))).mono ?_); rintro e wa ⟨rfl, hq⟩)
        | (go_at_call 17; (with_reducible refine (KN.out _ (by repeat' (first | exact hq | refine Below.drew ?_ | refine below_drewN ?_ _))).mono ?_); rintro e wa ⟨rfl, hq⟩)
        | (go_at_call 18; (with_reducible refine (KO.out _ (by repeat' (first | exact hq | refine Below.drew ?_ | refine below_drewN ?_ _))).mono ?_); rintro e wa ⟨rfl, hq⟩))
    all_goals
      go_wp2_with fail
      go_ret
      exact ⟨rfl, hb3.trans (hq.mono hb3.size)⟩
end Go.Proofs.Ytjjeikcmnngnjaa

import Derived.Test.YtljkmdmbndjngaaGreatMae
import Derived.Deep.QuietTactic
import Derived.BigQuiet
import Derived.Test.YtljkmdmbndjngaaGreatMad
import Derived.Laws.OwnMore
/-
  The printer's methods that print what is below: assign, define, amend, index, monad, dyad.
-/
namespace Go.Proofs.YtljkmdmbndjngaaGreat
set_option linter.unusedVariables false
set_option linter.unusedSimpArgs false
open Go.RowKit Go.Maps

theorem cat_size (x y : ByteArray) {p q r : Nat} (hx : x.size ≤ p) (hy : y.size ≤ q) (h : p + q ≤ r) : (x ++ y).size ≤ r := by
  rw [ByteArray.size_append]; omega
theorem Pl.cells {W : World} {a : Option Addr} {l : List Nat} (h : Pl W a l) (h0 : 0 < l.length) : ∃ g o, a = some ⟨g, o, none⟩ ∧ g < W.heap.size ∧ ∀ (j x : Nat), l[j]? = some x → W.cell? ⟨g, o + j, none⟩ = some (.int .i64 (x : Int)) := by
  obtain ⟨g, o, e, hc⟩ := h h0
  obtain ⟨x, hx⟩ : ∃ x, l[0]? = some x := ⟨l[0], List.getElem?_eq_getElem h0⟩
  exact ⟨g, o, e, World.block_lt_of_cell? W _ (hc 0 x hx), hc⟩
set_option maxRecDepth 10000 in
set_option maxHeartbeats 6400000 in
theorem assign_is {a : Option Addr} {n c : Nat} {f : Nat → Nd} {b : Nat} (dk : Int) (dv da dx : ByteArray) (dg : Option Addr) (dm dc : Nat) (u0 : Nat) (t0 : ByteArray) (W : World) (h : Hy a n c f b W) (a' : Option Addr) (c' : Nat) (hl : Pl W a' [u0]) (hc' : 1 ≤ c') (hcm' : c' ≤ maxLen) (zx : dx.size ≤ 300) (Kt0 : ∀ W, Hy a n c f b W → Calls Tryz.prog 12 #[Pv a n c b, .int .i64 (u0 : Int)] W (StB t0 W)) (zt0 : t0.size ≤ 20000001000) :
    Calls Tryz.prog 25 #[Pv a n c b, .agg #[.int .i64 dk, .string dv, .string da, .string dx, .slice dg dm dc], .slice a' 1 c'] W (StB (dx ++ (⟨#[58]⟩ : ByteArray) ++ t0) W) := by
  obtain ⟨ub, uo, rfl, hul, huc⟩ := hl.cells (by simp)
  have e0 := huc 0 _ rfl
  rw [Nat.add_zero] at e0
  clear huc hl
  have q1_0 : ¬ (9223372036854775807 < dx.size + 1) := by omega
  have q1_1 : ¬ (9223372036854775807 ≤ dx.size) := by omega
  have q1_2 : ¬ (9223372036854775806 < dx.size) := by omega
  have q2_0 : ¬ (9223372036854775807 < dx.size + 1 + t0.size) := by omega
  have KKt0 := Lib.hid Kt0
  have HH := Lib.hid h
  clear h Kt0
  unfold Pv at *
  go_enter Tryz.func25, Tryz.ntmps25
  go_upto_region 1 with fail
  go_wp2_with fail
  have HZ := boxes W a n c b dk dv da dx dg dm dc _ rfl
  generalize (W.alloc _).alloc _ = wz at *
  obtain ⟨hP, hD, hB⟩ := HZ
  have p0 := hP.c0
  have p1 := hP.c1
  have d0 := hD.c0
  have d1 := hD.c1
  have d2 := hD.c2
  have d3 := hD.c3
  have d4 := hD.c4
  have lp := hP.lt
  have ld := hD.lt
  have lu : ub < wz.heap.size := Nat.lt_of_lt_of_le hul hB.size
  replace e0 := (Below.cell (p := ⟨ub, uo, none⟩) hB hul).trans e0
  have KZt0 := Lib.hid (fun w' (hb : Below wz.heap.size wz w') => stb_base hb (KKt0.out w' (HH.out.below (hB.trans (hb.mono hB.size)))))
  have hq : Below wz.heap.size wz wz := Below.refl _ _
  clear HH KKt0
  go_region_held3 (fun w' => w'.cell? ⟨W.heap.size, 0, none⟩ = some (.slice a n c) ∧ w'.cell? ⟨W.heap.size, 1, none⟩ = some (.map (some b)) ∧ w'.cell? ⟨W.heap.size + 1, 0, none⟩ = some (.int .i64 dk) ∧ w'.cell? ⟨W.heap.size + 1, 1, none⟩ = some (.string dv) ∧ w'.cell? ⟨W.heap.size + 1, 2, none⟩ = some (.string da) ∧ w'.cell? ⟨W.heap.size + 1, 3, none⟩ = some (.string dx) ∧ w'.cell? ⟨W.heap.size + 1, 4, none⟩ = some (.slice dg dm dc) ∧ w'.cell? ⟨ub, uo, none⟩ = some (.int .i64 (u0 : Int)))
    (first | exact ⟨(Below.cell (p := ⟨W.heap.size, 0, none⟩) (by repeat' (first | exact hq | refine Below.drew ?_ | refine below_drewM ?_ _)) lp).trans p0, (Below.cell (p := ⟨W.heap.size, 1, none⟩) (by repeat' (first | exact hq | refine Below.drew ?_ | refine below_drewM ?_ _)) lp).trans p1, (Below.cell (p := ⟨W.heap.size + 1, 0, none⟩) (by repeat' (first | exact hq | refine Below.drew ?_ | refine below_drewM ?_ _)) ld).trans d0, (Below.cell (p := ⟨W.heap.size + 1, 1, none⟩) (by repeat' (first | exact hq | refine Below.drew ?_ | refine below_drewM ?_ _)) ld).trans d1, (Below.cell (p := ⟨W.heap.size + 1, 2, none⟩) (by repeat' (first | exact hq | refine Below.drew ?_ | refine below_drewM ?_ _)) ld).trans d2, (Below.cell (p := ⟨W.heap.size + 1, 3, none⟩) (by repeat' (first | exact hq | refine Below.drew ?_ | refine below_drewM ?_ _)) ld).trans d3, (Below.cell (p := ⟨W.heap.size + 1, 4, none⟩) (by repeat' (first | exact hq | refine Below.drew ?_ | refine below_drewM ?_ _)) ld).trans d4, (Below.cell (p := ⟨ub, uo, none⟩) (by repeat' (first | exact hq | refine Below.drew ?_ | refine below_drewM ?_ _)) lu).trans e0⟩ | fail)
    (first
      | (go_at_call 12; (with_reducible refine (KZt0.out _ (by repeat' (first | exact hq | refine Below.drew ?_ | refine below_drewM ?_ _))).mono ?_); rintro e wa ⟨rfl, hq⟩)
      | fail)
  all_goals
    go_wp2_with fail
    go_ret
    exact ⟨rfl, hB.trans (hq.mono hB.size)⟩
set_option maxRecDepth 10000 in
set_option maxHeartbeats 6400000 in
theorem define_is {a : Option Addr} {n c : Nat} {f : Nat → Nd} {b : Nat} (dk : Int) (dv da dx : ByteArray) (dg : Option Addr) (dm dc : Nat) (u0 : Nat) (t0 : ByteArray) (W : World) (h : Hy a n c f b W) (a' : Option Addr) (c' : Nat) (hl : Pl W a' [u0]) (hc' : 1 ≤ c') (hcm' : c' ≤ maxLen) (zx : dx.size ≤ 300) (Kt0 : ∀ W, Hy a n c f b W → Calls Tryz.prog 12 #[Pv a n c b, .int .i64 (u0 : Int)] W (StB t0 W)) (zt0 : t0.size ≤ 20000001000) :
    Calls Tryz.prog 27 #[Pv a n c b, .agg #[.int .i64 dk, .string dv, .string da, .string dx, .slice dg dm dc], .slice a' 1 c'] W (StB (dx ++ (⟨#[58, 123]⟩ : ByteArray) ++ t0 ++ (⟨#[125]⟩ : ByteArray)) W) := by
  obtain ⟨ub, uo, rfl, hul, huc⟩ := hl.cells (by simp)
  have e0 := huc 0 _ rfl
  rw [Nat.add_zero] at e0
  clear huc hl
  have q1_0 : ¬ (9223372036854775807 < dx.size + 2) := by omega
  have q1_1 : ¬ (9223372036854775806 ≤ dx.size) := by omega
  have q1_2 : ¬ (9223372036854775805 < dx.size) := by omega
  have q2_0 : ¬ (9223372036854775807 < dx.size + 2 + t0.size) := by omega
  have q3_0 : ¬ (9223372036854775807 < dx.size + 2 + t0.size + 1) := by omega
  have q3_1 : ¬ (9223372036854775807 ≤ dx.size + 2 + t0.size) := by omega
  have q3_2 : ¬ (9223372036854775806 < dx.size + 2 + t0.size) := by omega
  have KKt0 := Lib.hid Kt0
  have HH := Lib.hid h
  clear h Kt0
  unfold Pv at *
  go_enter Tryz.func27, Tryz.ntmps27
  go_upto_region 1 with fail
  go_wp2_with fail
  have HZ := boxes W a n c b dk dv da dx dg dm dc _ rfl
  generalize (W.alloc _).alloc _ = wz at *
  obtain ⟨hP, hD, hB⟩ := HZ
  have p0 := hP.c0
  have p1 := hP.c1
  have d0 := hD.c0
  have d1 := hD.c1
  have d2 := hD.c2
  have d3 := hD.c3
  have d4 := hD.c4
  have lp := hP.lt
  have ld := hD.lt
  have lu : ub < wz.heap.size := Nat.lt_of_lt_of_le hul hB.size
  replace e0 := (Below.cell (p := ⟨ub, uo, none⟩) hB hul).trans e0
  have KZt0 := Lib.hid (fun w' (hb : Below wz.heap.size wz w') => stb_base hb (KKt0.out w' (HH.out.below (hB.trans (hb.mono hB.size)))))
  have hq : Below wz.heap.size wz wz := Below.refl _ _
  clear HH KKt0
  go_region_held3 (fun w' => w'.cell? ⟨W.heap.size, 0, none⟩ = some (.slice a n c) ∧ w'.cell? ⟨W.heap.size, 1, none⟩ = some (.map (some b)) ∧ w'.cell? ⟨W.heap.size + 1, 0, none⟩ = some (.int .i64 dk) ∧ w'.cell? ⟨W.heap.size + 1, 1, none⟩ = some (.string dv) ∧ w'.cell? ⟨W.heap.size + 1, 2, none⟩ = some (.string da) ∧ w'.cell? ⟨W.heap.size + 1, 3, none⟩ = some (.string dx) ∧ w'.cell? ⟨W.heap.size + 1, 4, none⟩ = some (.slice dg dm dc) ∧ w'.cell? ⟨ub, uo, none⟩ = some (.int .i64 (u0 : Int)))
    (first | exact ⟨(Below.cell (p := ⟨W.heap.size, 0, none⟩) (by repeat' (first | exact hq | refine Below.drew ?_ | refine below_drewM ?_ _)) lp).trans p0, (Below.cell (p := ⟨W.heap.size, 1, none⟩) (by repeat' (first | exact hq | refine Below.drew ?_ | refine below_drewM ?_ _)) lp).trans p1, (Below.cell (p := ⟨W.heap.size + 1, 0, none⟩) (by repeat' (first | exact hq | refine Below.drew ?_ | refine below_drewM ?_ _)) ld).trans d0, (Below.cell (p := ⟨W.heap.size + 1, 1, none⟩) (by repeat' (first | exact hq | refine Below.drew ?_ | refine below_drewM ?_ _)) ld).trans d1, (Below.cell (p := ⟨W.heap.size + 1, 2, none⟩) (by repeat' (first | exact hq | refine Below.drew ?_ | refine below_drewM ?_ _)) ld).trans d2, (Below.cell (p := ⟨W.heap.size + 1, 3, none⟩) (by repeat' (first | exact hq | refine Below.drew ?_ | refine below_drewM ?_ _)) ld).trans d3, (Below.cell (p := ⟨W.heap.size + 1, 4, none⟩) (by repeat' (first | exact hq | refine Below.drew ?_ | refine below_drewM ?_ _)) ld).trans d4, (Below.cell (p := ⟨ub, uo, none⟩) (by repeat' (first | exact hq | refine Below.drew ?_ | refine below_drewM ?_ _)) lu).trans e0⟩ | fail)
    (first
      | (go_at_call 12; (with_reducible refine (KZt0.out _ (by repeat' (first | exact hq | refine Below.drew ?_ | refine below_drewM ?_ _))).mono ?_); rintro e wa ⟨rfl, hq⟩)
      | fail)
  all_goals
    go_wp2_with fail
    go_ret
    exact ⟨rfl, hB.trans (hq.mono hB.size)⟩
set_option maxRecDepth 10000 in
set_option maxHeartbeats 6400000 in
theorem amend_is {a : Option Addr} {n c : Nat} {f : Nat → Nd} {b : Nat} (dk : Int) (dv da dx : ByteArray) (dg : Option Addr) (dm dc : Nat) (u0 u1 : Nat) (t0 t1 : ByteArray) (W : World) (h : Hy a n c f b W) (a' : Option Addr) (c' : Nat) (hl : Pl W a' [u0, u1]) (hc' : 2 ≤ c') (hcm' : c' ≤ maxLen) (zx : dx.size ≤ 300) (Kt0 : ∀ W, Hy a n c f b W → Calls Tryz.prog 12 #[Pv a n c b, .int .i64 (u0 : Int)] W (StB t0 W)) (zt0 : t0.size ≤ 20000001000) (Kt1 : ∀ W, Hy a n c f b W → Calls Tryz.prog 12 #[Pv a n c b, .int .i64 (u1 : Int)] W (StB t1 W)) (zt1 : t1.size ≤ 20000001000) :
    Calls Tryz.prog 26 #[Pv a n c b, .agg #[.int .i64 dk, .string dv, .string da, .string dx, .slice dg dm dc], .slice a' 2 c'] W (StB (dx ++ (⟨#[91]⟩ : ByteArray) ++ t0 ++ (⟨#[93, 58]⟩ : ByteArray) ++ t1) W) := by
  obtain ⟨ub, uo, rfl, hul, huc⟩ := hl.cells (by simp)
  have e0 := huc 0 _ rfl
  have e1 := huc 1 _ rfl
  rw [Nat.add_zero] at e0
  clear huc hl
  have q1_0 : ¬ (9223372036854775807 < dx.size + 1) := by omega
  have q1_1 : ¬ (9223372036854775807 ≤ dx.size) := by omega
  have q1_2 : ¬ (9223372036854775806 < dx.size) := by omega
  have q2_0 : ¬ (9223372036854775807 < dx.size + 1 + t0.size) := by omega
  have q3_0 : ¬ (9223372036854775807 < dx.size + 1 + t0.size + 2) := by omega
  have q3_1 : ¬ (9223372036854775806 ≤ dx.size + 1 + t0.size) := by omega
  have q3_2 : ¬ (9223372036854775805 < dx.size + 1 + t0.size) := by omega
  have q4_0 : ¬ (9223372036854775807 < dx.size + 1 + t0.size + 2 + t1.size) := by omega
  have KKt0 := Lib.hid Kt0
  have KKt1 := Lib.hid Kt1
  have HH := Lib.hid h
  clear h Kt0 Kt1
  unfold Pv at *
  go_enter Tryz.func26, Tryz.ntmps26
  go_upto_region 1 with fail
  go_wp2_with fail
  have HZ := boxes W a n c b dk dv da dx dg dm dc _ rfl
  generalize (W.alloc _).alloc _ = wz at *
  obtain ⟨hP, hD, hB⟩ := HZ
  have p0 := hP.c0
  have p1 := hP.c1
  have d0 := hD.c0
  have d1 := hD.c1
  have d2 := hD.c2
  have d3 := hD.c3
  have d4 := hD.c4
  have lp := hP.lt
  have ld := hD.lt
  have lu : ub < wz.heap.size := Nat.lt_of_lt_of_le hul hB.size
  replace e0 := (Below.cell (p := ⟨ub, uo, none⟩) hB hul).trans e0
  replace e1 := (Below.cell (p := ⟨ub, uo + 1, none⟩) hB hul).trans e1
  have KZt0 := Lib.hid (fun w' (hb : Below wz.heap.size wz w') => stb_base hb (KKt0.out w' (HH.out.below (hB.trans (hb.mono hB.size)))))
  have KZt1 := Lib.hid (fun w' (hb : Below wz.heap.size wz w') => stb_base hb (KKt1.out w' (HH.out.below (hB.trans (hb.mono hB.size)))))
  have hq : Below wz.heap.size wz wz := Below.refl _ _
  clear HH KKt0 KKt1
  go_region_held3 (fun w' => w'.cell? ⟨W.heap.size, 0, none⟩ = some (.slice a n c) ∧ w'.cell? ⟨W.heap.size, 1, none⟩ = some (.map (some b)) ∧ w'.cell? ⟨W.heap.size + 1, 0, none⟩ = some (.int .i64 dk) ∧ w'.cell? ⟨W.heap.size + 1, 1, none⟩ = some (.string dv) ∧ w'.cell? ⟨W.heap.size + 1, 2, none⟩ = some (.string da) ∧ w'.cell? ⟨W.heap.size + 1, 3, none⟩ = some (.string dx) ∧ w'.cell? ⟨W.heap.size + 1, 4, none⟩ = some (.slice dg dm dc) ∧ w'.cell? ⟨ub, uo, none⟩ = some (.int .i64 (u0 : Int)) ∧ w'.cell? ⟨ub, uo + 1, none⟩ = some (.int .i64 (u1 : Int)))
    (first | exact ⟨(Below.cell (p := ⟨W.heap.size, 0, none⟩) (by repeat' (first | exact hq | refine Below.drew ?_ | refine below_drewM ?_ _)) lp).trans p0, (Below.cell (p := ⟨W.heap.size, 1, none⟩) (by repeat' (first | exact hq | refine Below.drew ?_ | refine below_drewM ?_ _)) lp).trans p1, (Below.cell (p := ⟨W.heap.size + 1, 0, none⟩) (by repeat' (first | exact hq | refine Below.drew ?_ | refine below_drewM ?_ _)) ld).trans d0, (Below.cell (p := ⟨W.heap.size + 1, 1, none⟩) (by repeat' (first | exact hq | refine Below.drew ?_ | refine below_drewM ?_ _)) ld).trans d1, (Below.cell (p := ⟨W.heap.size + 1, 2, none⟩) (by repeat' (first | exact hq | refine Below.drew ?_ | refine below_drewM ?_ _)) ld).trans d2, (Below.cell (p := ⟨W.heap.size + 1, 3, none⟩) (by repeat' (first | exact hq | refine Below.drew ?_ | refine below_drewM ?_ _)) ld).trans d3, (Below.cell (p := ⟨W.heap.size + 1, 4, none⟩) (by repeat' (first | exact hq | refine Below.drew ?_ | refine below_drewM ?_ _)) ld).trans d4, (Below.cell (p := ⟨ub, uo, none⟩) (by repeat' (first | exact hq | refine Below.drew ?_ | refine below_drewM ?_ _)) lu).trans e0, (Below.cell (p := ⟨ub, uo + 1, none⟩) (by repeat' (first | exact hq | refine Below.drew ?_ | refine below_drewM ?_ _)) lu).trans e1⟩ | fail)
    (first
      | (go_at_call 12; (with_reducible refine (KZt0.out _ (by repeat' (first | exact hq | refine Below.drew ?_ | refine below_drewM ?_ _))).mono ?_); rintro e wa ⟨rfl, hq⟩)
      | (go_at_call 12; (with_reducible refine (KZt1.out _ (by repeat' (first | exact hq | refine Below.drew ?_ | refine below_drewM ?_ _))).mono ?_); rintro e wa ⟨rfl, hq⟩)
      | fail)
  all_goals
    go_wp2_with fail
    go_ret
    exact ⟨rfl, hB.trans (hq.mono hB.size)⟩
set_option maxRecDepth 10000 in
set_option maxHeartbeats 6400000 in
theorem index_is {a : Option Addr} {n c : Nat} {f : Nat → Nd} {b : Nat} (dk : Int) (dv da dx : ByteArray) (dg : Option Addr) (dm dc : Nat) (u0 u1 : Nat) (t0 t1 : ByteArray) (W : World) (h : Hy a n c f b W) (a' : Option Addr) (c' : Nat) (hl : Pl W a' [u0, u1]) (hc' : 2 ≤ c') (hcm' : c' ≤ maxLen) (zx : dx.size ≤ 300) (Kt0 : ∀ W, Hy a n c f b W → Calls Tryz.prog 50 #[Pv a n c b, .int .i64 (u0 : Int)] W (StB t0 W)) (zt0 : t0.size ≤ 20000001000) (Kt1 : ∀ W, Hy a n c f b W → Calls Tryz.prog 12 #[Pv a n c b, .int .i64 (u1 : Int)] W (StB t1 W)) (zt1 : t1.size ≤ 20000001000) :
    Calls Tryz.prog 28 #[Pv a n c b, .agg #[.int .i64 dk, .string dv, .string da, .string dx, .slice dg dm dc], .slice a' 2 c'] W (StB (t0 ++ (⟨#[91]⟩ : ByteArray) ++ t1 ++ (⟨#[93]⟩ : ByteArray)) W) := by
  obtain ⟨ub, uo, rfl, hul, huc⟩ := hl.cells (by simp)
  have e0 := huc 0 _ rfl
  have e1 := huc 1 _ rfl
  rw [Nat.add_zero] at e0
  clear huc hl
  have q1_0 : ¬ (9223372036854775807 < t0.size + 1) := by omega
  have q1_1 : ¬ (9223372036854775807 ≤ t0.size) := by omega
  have q1_2 : ¬ (9223372036854775806 < t0.size) := by omega
  have q2_0 : ¬ (9223372036854775807 < t0.size + 1 + t1.size) := by omega
  have q3_0 : ¬ (9223372036854775807 < t0.size + 1 + t1.size + 1) := by omega
  have q3_1 : ¬ (9223372036854775807 ≤ t0.size + 1 + t1.size) := by omega
  have q3_2 : ¬ (9223372036854775806 < t0.size + 1 + t1.size) := by omega
  have KKt0 := Lib.hid Kt0
  have KKt1 := Lib.hid Kt1
  have HH := Lib.hid h
  clear h Kt0 Kt1
  unfold Pv at *
  go_enter Tryz.func28, Tryz.ntmps28
  go_upto_region 1 with fail
  go_wp2_with fail
  have HZ := boxes W a n c b dk dv da dx dg dm dc _ rfl
  generalize (W.alloc _).alloc _ = wz at *
  obtain ⟨hP, hD, hB⟩ := HZ
  have p0 := hP.c0
  have p1 := hP.c1
  have d0 := hD.c0
  have d1 := hD.c1
  have d2 := hD.c2
  have d3 := hD.c3
  have d4 := hD.c4
  have lp := hP.lt
  have ld := hD.lt
  have lu : ub < wz.heap.size := Nat.lt_of_lt_of_le hul hB.size
  replace e0 := (Below.cell (p := ⟨ub, uo, none⟩) hB hul).trans e0
  replace e1 := (Below.cell (p := ⟨ub, uo + 1, none⟩) hB hul).trans e1
  have KZt0 := Lib.hid (fun w' (hb : Below wz.heap.size wz w') => stb_base hb (KKt0.out w' (HH.out.below (hB.trans (hb.mono hB.size)))))
  have KZt1 := Lib.hid (fun w' (hb : Below wz.heap.size wz w') => stb_base hb (KKt1.out w' (HH.out.below (hB.trans (hb.mono hB.size)))))
  have hq : Below wz.heap.size wz wz := Below.refl _ _
  clear HH KKt0 KKt1
  go_region_held3 (fun w' => w'.cell? ⟨W.heap.size, 0, none⟩ = some (.slice a n c) ∧ w'.cell? ⟨W.heap.size, 1, none⟩ = some (.map (some b)) ∧ w'.cell? ⟨W.heap.size + 1, 0, none⟩ = some (.int .i64 dk) ∧ w'.cell? ⟨W.heap.size + 1, 1, none⟩ = some (.string dv) ∧ w'.cell? ⟨W.heap.size + 1, 2, none⟩ = some (.string da) ∧ w'.cell? ⟨W.heap.size + 1, 3, none⟩ = some (.string dx) ∧ w'.cell? ⟨W.heap.size + 1, 4, none⟩ = some (.slice dg dm dc) ∧ w'.cell? ⟨ub, uo, none⟩ = some (.int .i64 (u0 : Int)) ∧ w'.cell? ⟨ub, uo + 1, none⟩ = some (.int .i64 (u1 : Int)))
    (first | exact ⟨(Below.cell (p := ⟨W.heap.size, 0, none⟩) (by repeat' (first | exact hq | refine Below.drew ?_ | refine below_drewM ?_ _)) lp).trans p0, (Below.cell (p := ⟨W.heap.size, 1, none⟩) (by repeat' (first | exact hq | refine Below.drew ?_ | refine below_drewM ?_ _)) lp).trans p1, (Below.cell (p := ⟨W.heap.size + 1, 0, none⟩) (by repeat' (first | exact hq | refine Below.drew ?_ | refine below_drewM ?_ _)) ld).trans d0, (Below.cell (p := ⟨W.heap.size + 1, 1, none⟩) (by repeat' (first | exact hq | refine Below.drew ?_ | refine below_drewM ?_ _)) ld).trans d1, (Below.cell (p := ⟨W.heap.size + 1, 2, none⟩) (by repeat' (first | exact hq | refine Below.drew ?_ | refine below_drewM ?_ _)) ld).trans d2, (Below.cell (p := ⟨W.heap.size + 1, 3, none⟩) (by repeat' (first | exact hq | refine Below.drew ?_ | refine below_drewM ?_ _)) ld).trans d3, (Below.cell (p := ⟨W.heap.size + 1, 4, none⟩) (by repeat' (first | exact hq | refine Below.drew ?_ | refine below_drewM ?_ _)) ld).trans d4, (Below.cell (p := ⟨ub, uo, none⟩) (by repeat' (first | exact hq | refine Below.drew ?_ | refine below_drewM ?_ _)) lu).trans e0, (Below.cell (p := ⟨ub, uo + 1, none⟩) (by repeat' (first | exact hq | refine Below.drew ?_ | refine below_drewM ?_ _)) lu).trans e1⟩ | fail)
    (first
      | (go_at_call 50; (with_reducible refine (KZt0.out _ (by repeat' (first | exact hq | refine Below.drew ?_ | refine below_drewM ?_ _))).mono ?_); rintro e wa ⟨rfl, hq⟩)
      | (go_at_call 12; (with_reducible refine (KZt1.out _ (by repeat' (first | exact hq | refine Below.drew ?_ | refine below_drewM ?_ _))).mono ?_); rintro e wa ⟨rfl, hq⟩)
      | fail)
  all_goals
    go_wp2_with fail
    go_ret
    exact ⟨rfl, hB.trans (hq.mono hB.size)⟩
set_option maxRecDepth 10000 in
set_option maxHeartbeats 6400000 in
theorem monad1_is {a : Option Addr} {n c : Nat} {f : Nat → Nd} {b : Nat} (dk : Int) (dv da dx : ByteArray) (dg : Option Addr) (dm dc : Nat) (u0 : Nat) (v0 t0 : ByteArray) (W : World) (h : Hy a n c f b W) (a' : Option Addr) (c' : Nat) (hl : Pl W a' [u0]) (hc' : 1 ≤ c') (hcm' : c' ≤ maxLen) (zx : dx.size ≤ 300) (Kv0 : ∀ W, Hy a n c f b W → Calls Tryz.prog 49 #[Pv a n c b, .agg #[.int .i64 dk, .string dv, .string da, .string dx, .slice dg dm dc], .int .i64 (u0 : Int)] W (StB v0 W)) (zv0 : v0.size ≤ 20000001000) (Kt0 : ∀ W, Hy a n c f b W → Calls Tryz.prog 12 #[Pv a n c b, .int .i64 (u0 : Int)] W (StB t0 W)) (zt0 : t0.size ≤ 20000001000) :
    Calls Tryz.prog 23 #[Pv a n c b, .agg #[.int .i64 dk, .string dv, .string da, .string dx, .slice dg dm dc], .slice a' 1 c'] W (StB (v0 ++ t0) W) := by
  obtain ⟨ub, uo, rfl, hul, huc⟩ := hl.cells (by simp)
  have e0 := huc 0 _ rfl
  rw [Nat.add_zero] at e0
  clear huc hl
  have q1_0 : ¬ (9223372036854775807 < v0.size + t0.size) := by omega
  have KKv0 := Lib.hid Kv0
  have KKt0 := Lib.hid Kt0
  have HH := Lib.hid h
  clear h Kv0 Kt0
  unfold Pv at *
  go_enter Tryz.func23, Tryz.ntmps23
  go_upto_region 2 with fail
  go_wp2_with fail
  have HZ := boxes W a n c b dk dv da dx dg dm dc _ rfl
  generalize (W.alloc _).alloc _ = wz at *
  obtain ⟨hP, hD, hB⟩ := HZ
  have p0 := hP.c0
  have p1 := hP.c1
  have d0 := hD.c0
  have d1 := hD.c1
  have d2 := hD.c2
  have d3 := hD.c3
  have d4 := hD.c4
  have lp := hP.lt
  have ld := hD.lt
  have lu : ub < wz.heap.size := Nat.lt_of_lt_of_le hul hB.size
  replace e0 := (Below.cell (p := ⟨ub, uo, none⟩) hB hul).trans e0
  have KZv0 := Lib.hid (fun w' (hb : Below wz.heap.size wz w') => stb_base hb (KKv0.out w' (HH.out.below (hB.trans (hb.mono hB.size)))))
  have KZt0 := Lib.hid (fun w' (hb : Below wz.heap.size wz w') => stb_base hb (KKt0.out w' (HH.out.below (hB.trans (hb.mono hB.size)))))
  have hq : Below wz.heap.size wz wz := Below.refl _ _
  clear HH KKv0 KKt0
  go_region_held3 (fun w' => w'.cell? ⟨W.heap.size, 0, none⟩ = some (.slice a n c) ∧ w'.cell? ⟨W.heap.size, 1, none⟩ = some (.map (some b)) ∧ w'.cell? ⟨W.heap.size + 1, 0, none⟩ = some (.int .i64 dk) ∧ w'.cell? ⟨W.heap.size + 1, 1, none⟩ = some (.string dv) ∧ w'.cell? ⟨W.heap.size + 1, 2, none⟩ = some (.string da) ∧ w'.cell? ⟨W.heap.size + 1, 3, none⟩ = some (.string dx) ∧ w'.cell? ⟨W.heap.size + 1, 4, none⟩ = some (.slice dg dm dc) ∧ w'.cell? ⟨ub, uo, none⟩ = some (.int .i64 (u0 : Int)))
    (first | exact ⟨(Below.cell (p := ⟨W.heap.size, 0, none⟩) (by repeat' (first | exact hq | refine Below.drew ?_ | refine below_drewM ?_ _)) lp).trans p0, (Below.cell (p := ⟨W.heap.size, 1, none⟩) (by repeat' (first | exact hq | refine Below.drew ?_ | refine below_drewM ?_ _)) lp).trans p1, (Below.cell (p := ⟨W.heap.size + 1, 0, none⟩) (by repeat' (first | exact hq | refine Below.drew ?_ | refine below_drewM ?_ _)) ld).trans d0, (Below.cell (p := ⟨W.heap.size + 1, 1, none⟩) (by repeat' (first | exact hq | refine Below.drew ?_ | refine below_drewM ?_ _)) ld).trans d1, (Below.cell (p := ⟨W.heap.size + 1, 2, none⟩) (by repeat' (first | exact hq | refine Below.drew ?_ | refine below_drewM ?_ _)) ld).trans d2, (Below.cell (p := ⟨W.heap.size + 1, 3, none⟩) (by repeat' (first | exact hq | refine Below.drew ?_ | refine below_drewM ?_ _)) ld).trans d3, (Below.cell (p := ⟨W.heap.size + 1, 4, none⟩) (by repeat' (first | exact hq | refine Below.drew ?_ | refine below_drewM ?_ _)) ld).trans d4, (Below.cell (p := ⟨ub, uo, none⟩) (by repeat' (first | exact hq | refine Below.drew ?_ | refine below_drewM ?_ _)) lu).trans e0⟩ | fail)
    (first
      | (go_at_call 49; (with_reducible refine (KZv0.out _ (by repeat' (first | exact hq | refine Below.drew ?_ | refine below_drewM ?_ _))).mono ?_); rintro e wa ⟨rfl, hq⟩)
      | (go_at_call 12; (with_reducible refine (KZt0.out _ (by repeat' (first | exact hq | refine Below.drew ?_ | refine below_drewM ?_ _))).mono ?_); rintro e wa ⟨rfl, hq⟩)
      | fail)
  all_goals
    go_wp2_with fail
    go_ret
    exact ⟨rfl, hB.trans (hq.mono hB.size)⟩
set_option maxRecDepth 10000 in
set_option maxHeartbeats 6400000 in
theorem monad2_is {a : Option Addr} {n c : Nat} {f : Nat → Nd} {b : Nat} (dk : Int) (dv da dx : ByteArray) (dg : Option Addr) (dm dc : Nat) (u0 u1 : Nat) (v0 t1 : ByteArray) (W : World) (h : Hy a n c f b W) (a' : Option Addr) (c' : Nat) (hl : Pl W a' [u0, u1]) (hc' : 2 ≤ c') (hcm' : c' ≤ maxLen) (zx : dx.size ≤ 300) (Kv0 : ∀ W, Hy a n c f b W → Calls Tryz.prog 49 #[Pv a n c b, .agg #[.int .i64 dk, .string dv, .string da, .string dx, .slice dg dm dc], .int .i64 (u0 : Int)] W (StB v0 W)) (zv0 : v0.size ≤ 20000001000) (Kt1 : ∀ W, Hy a n c f b W → Calls Tryz.prog 12 #[Pv a n c b, .int .i64 (u1 : Int)] W (StB t1 W)) (zt1 : t1.size ≤ 20000001000) :
    Calls Tryz.prog 23 #[Pv a n c b, .agg #[.int .i64 dk, .string dv, .string da, .string dx, .slice dg dm dc], .slice a' 2 c'] W (StB (v0 ++ t1) W) := by
  obtain ⟨ub, uo, rfl, hul, huc⟩ := hl.cells (by simp)
  have e0 := huc 0 _ rfl
  have e1 := huc 1 _ rfl
  rw [Nat.add_zero] at e0
  clear huc hl
  have q1_0 : ¬ (9223372036854775807 < v0.size + t1.size) := by omega
  have KKv0 := Lib.hid Kv0
  have KKt1 := Lib.hid Kt1
  have HH := Lib.hid h
  clear h Kv0 Kt1
  unfold Pv at *
  go_enter Tryz.func23, Tryz.ntmps23
  go_upto_region 2 with fail
  go_wp2_with fail
  have HZ := boxes W a n c b dk dv da dx dg dm dc _ rfl
  generalize (W.alloc _).alloc _ = wz at *
  obtain ⟨hP, hD, hB⟩ := HZ
  have p0 := hP.c0
  have p1 := hP.c1
  have d0 := hD.c0
  have d1 := hD.c1
  have d2 := hD.c2
  have d3 := hD.c3
  have d4 := hD.c4
  have lp := hP.lt
  have ld := hD.lt
  have lu : ub < wz.heap.size := Nat.lt_of_lt_of_le hul hB.size
  replace e0 := (Below.cell (p := ⟨ub, uo, none⟩) hB hul).trans e0
  replace e1 := (Below.cell (p := ⟨ub, uo + 1, none⟩) hB hul).trans e1
  have KZv0 := Lib.hid (fun w' (hb : Below wz.heap.size wz w') => stb_base hb (KKv0.out w' (HH.out.below (hB.trans (hb.mono hB.size)))))
  have KZt1 := Lib.hid (fun w' (hb : Below wz.heap.size wz w') => stb_base hb (KKt1.out w' (HH.out.below (hB.trans (hb.mono hB.size)))))
  have hq : Below wz.heap.size wz wz := Below.refl _ _
  clear HH KKv0 KKt1
  go_region_held3 (fun w' => w'.cell? ⟨W.heap.size, 0, none⟩ = some (.slice a n c) ∧ w'.cell? ⟨W.heap.size, 1, none⟩ = some (.map (some b)) ∧ w'.cell? ⟨W.heap.size + 1, 0, none⟩ = some (.int .i64 dk) ∧ w'.cell? ⟨W.heap.size + 1, 1, none⟩ = some (.string dv) ∧ w'.cell? ⟨W.heap.size + 1, 2, none⟩ = some (.string da) ∧ w'.cell? ⟨W.heap.size + 1, 3, none⟩ = some (.string dx) ∧ w'.cell? ⟨W.heap.size + 1, 4, none⟩ = some (.slice dg dm dc) ∧ w'.cell? ⟨ub, uo, none⟩ = some (.int .i64 (u0 : Int)) ∧ w'.cell? ⟨ub, uo + 1, none⟩ = some (.int .i64 (u1 : Int)))
    (first | exact ⟨(Below.cell (p := ⟨W.heap.size, 0, none⟩) (by repeat' (first | exact hq | refine Below.drew ?_ | refine below_drewM ?_ _)) lp).trans p0, (Below.cell (p := ⟨W.heap.size, 1, none⟩) (by repeat' (first | exact hq | refine Below.drew ?_ | refine below_drewM ?_ _)) lp).trans p1, (Below.cell (p := ⟨W.heap.size + 1, 0, none⟩) (by repeat' (first | exact hq | refine Below.drew ?_ | refine below_drewM ?_ _)) ld).trans d0, (Below.cell (p := ⟨W.heap.size + 1, 1, none⟩) (by repeat' (first | exact hq | refine Below.drew ?_ | refine below_drewM ?_ _)) ld).trans d1, (Below.cell (p := ⟨W.heap.size + 1, 2, none⟩) (by repeat' (first | exact hq | refine Below.drew ?_ | refine below_drewM ?_ _)) ld).trans d2, (Below.cell (p := ⟨W.heap.size + 1, 3, none⟩) (by repeat' (first | exact hq | refine Below.drew ?_ | refine below_drewM ?_ _)) ld).trans d3, (Below.cell (p := ⟨W.heap.size + 1, 4, none⟩) (by repeat' (first | exact hq | refine Below.drew ?_ | refine below_drewM ?_ _)) ld).trans d4, (Below.cell (p := ⟨ub, uo, none⟩) (by repeat' (first | exact hq | refine Below.drew ?_ | refine below_drewM ?_ _)) lu).trans e0, (Below.cell (p := ⟨ub, uo + 1, none⟩) (by repeat' (first | exact hq | refine Below.drew ?_ | refine below_drewM ?_ _)) lu).trans e1⟩ | fail)
    (first
      | (go_at_call 49; (with_reducible refine (KZv0.out _ (by repeat' (first | exact hq | refine Below.drew ?_ | refine below_drewM ?_ _))).mono ?_); rintro e wa ⟨rfl, hq⟩)
      | (go_at_call 12; (with_reducible refine (KZt1.out _ (by repeat' (first | exact hq | refine Below.drew ?_ | refine below_drewM ?_ _))).mono ?_); rintro e wa ⟨rfl, hq⟩)
      | fail)
  all_goals
    go_wp2_with fail
    go_ret
    exact ⟨rfl, hB.trans (hq.mono hB.size)⟩
set_option maxRecDepth 10000 in
set_option maxHeartbeats 6400000 in
theorem dyad2_is {a : Option Addr} {n c : Nat} {f : Nat → Nd} {b : Nat} (dk : Int) (dv da dx : ByteArray) (dg : Option Addr) (dm dc : Nat) (u0 u1 : Nat) (t0 v0 t1 : ByteArray) (W : World) (h : Hy a n c f b W) (a' : Option Addr) (c' : Nat) (hl : Pl W a' [u0, u1]) (hc' : 2 ≤ c') (hcm' : c' ≤ maxLen) (zx : dx.size ≤ 300) (Kt0 : ∀ W, Hy a n c f b W → Calls Tryz.prog 50 #[Pv a n c b, .int .i64 (u0 : Int)] W (StB t0 W)) (zt0 : t0.size ≤ 20000001000) (Kv0 : ∀ W, Hy a n c f b W → Calls Tryz.prog 49 #[Pv a n c b, .agg #[.int .i64 dk, .string dv, .string da, .string dx, .slice dg dm dc], .int .i64 (u0 : Int)] W (StB v0 W)) (zv0 : v0.size ≤ 20000001000) (Kt1 : ∀ W, Hy a n c f b W → Calls Tryz.prog 12 #[Pv a n c b, .int .i64 (u1 : Int)] W (StB t1 W)) (zt1 : t1.size ≤ 20000001000) :
    Calls Tryz.prog 24 #[Pv a n c b, .agg #[.int .i64 dk, .string dv, .string da, .string dx, .slice dg dm dc], .slice a' 2 c'] W (StB (t0 ++ v0 ++ t1) W) := by
  obtain ⟨ub, uo, rfl, hul, huc⟩ := hl.cells (by simp)
  have e0 := huc 0 _ rfl
  have e1 := huc 1 _ rfl
  rw [Nat.add_zero] at e0
  clear huc hl
  have q1_0 : ¬ (9223372036854775807 < t0.size + v0.size) := by omega
  have q2_0 : ¬ (9223372036854775807 < t0.size + v0.size + t1.size) := by omega
  have KKt0 := Lib.hid Kt0
  have KKv0 := Lib.hid Kv0
  have KKt1 := Lib.hid Kt1
  have HH := Lib.hid h
  clear h Kt0 Kv0 Kt1
  unfold Pv at *
  go_enter Tryz.func24, Tryz.ntmps24
  go_upto_region 1 with fail
  go_quiet (fail)
  go_wp2_with fail
  have HZ := boxes W a n c b dk dv da dx dg dm dc _ rfl
  generalize (W.alloc _).alloc _ = wz at *
  obtain ⟨hP, hD, hB⟩ := HZ
  have p0 := hP.c0
  have p1 := hP.c1
  have d0 := hD.c0
  have d1 := hD.c1
  have d2 := hD.c2
  have d3 := hD.c3
  have d4 := hD.c4
  have lp := hP.lt
  have ld := hD.lt
  have lu : ub < wz.heap.size := Nat.lt_of_lt_of_le hul hB.size
  replace e0 := (Below.cell (p := ⟨ub, uo, none⟩) hB hul).trans e0
  replace e1 := (Below.cell (p := ⟨ub, uo + 1, none⟩) hB hul).trans e1
  have KZt0 := Lib.hid (fun w' (hb : Below wz.heap.size wz w') => stb_base hb (KKt0.out w' (HH.out.below (hB.trans (hb.mono hB.size)))))
  have KZv0 := Lib.hid (fun w' (hb : Below wz.heap.size wz w') => stb_base hb (KKv0.out w' (HH.out.below (hB.trans (hb.mono hB.size)))))
  have KZt1 := Lib.hid (fun w' (hb : Below wz.heap.size wz w') => stb_base hb (KKt1.out w' (HH.out.below (hB.trans (hb.mono hB.size)))))
  have hq : Below wz.heap.size wz wz := Below.refl _ _
  clear HH KKt0 KKv0 KKt1
  go_region_held3 (fun w' => w'.cell? ⟨W.heap.size, 0, none⟩ = some (.slice a n c) ∧ w'.cell? ⟨W.heap.size, 1, none⟩ = some (.map (some b)) ∧ w'.cell? ⟨W.heap.size + 1, 0, none⟩ = some (.int .i64 dk) ∧ w'.cell? ⟨W.heap.size + 1, 1, none⟩ = some (.string dv) ∧ w'.cell? ⟨W.heap.size + 1, 2, none⟩ = some (.string da) ∧ w'.cell? ⟨W.heap.size + 1, 3, none⟩ = some (.string dx) ∧ w'.cell? ⟨W.heap.size + 1, 4, none⟩ = some (.slice dg dm dc) ∧ w'.cell? ⟨ub, uo, none⟩ = some (.int .i64 (u0 : Int)) ∧ w'.cell? ⟨ub, uo + 1, none⟩ = some (.int .i64 (u1 : Int)))
    (first | exact ⟨(Below.cell (p := ⟨W.heap.size, 0, none⟩) (by repeat' (first | exact hq | refine Below.drew ?_ | refine below_drewM ?_ _)) lp).trans p0, (Below.cell (p := ⟨W.heap.size, 1, none⟩) (by repeat' (first | exact hq | refine Below.drew ?_ | refine below_drewM ?_ _)) lp).trans p1, (Below.cell (p := ⟨W.heap.size + 1, 0, none⟩) (by repeat' (first | exact hq | refine Below.drew ?_ | refine below_drewM ?_ _)) ld).trans d0, (Below.cell (p := ⟨W.heap.size + 1, 1, none⟩) (by repeat' (first | exact hq | refine Below.drew ?_ | refine below_drewM ?_ _)) ld).trans d1, (Below.cell (p := ⟨W.heap.size + 1, 2, none⟩) (by repeat' (first | exact hq | refine Below.drew ?_ | refine below_drewM ?_ _)) ld).trans d2, (Below.cell (p := ⟨W.heap.size + 1, 3, none⟩) (by repeat' (first | exact hq | refine Below.drew ?_ | refine below_drewM ?_ _)) ld).trans d3, (Below.cell (p := ⟨W.heap.size + 1, 4, none⟩) (by repeat' (first | exact hq | refine Below.drew ?_ | refine below_drewM ?_ _)) ld).trans d4, (Below.cell (p := ⟨ub, uo, none⟩) (by repeat' (first | exact hq | refine Below.drew ?_ | refine below_drewM ?_ _)) lu).trans e0, (Below.cell (p := ⟨ub, uo + 1, none⟩) (by repeat' (first | exact hq | refine Below.drew ?_ | refine below_drewM ?_ _)) lu).trans e1⟩ | fail)
    (first
      | (go_at_call 50; (with_reducible refine (KZt0.out _ (by repeat' (first | exact hq | refine Below.drew ?_ | refine below_drewM ?_ _))).mono ?_); rintro e wa ⟨rfl, hq⟩)
      | (go_at_call 49; (with_reducible refine (KZv0.out _ (by repeat' (first | exact hq | refine Below.drew ?_ | refine below_drewM ?_ _))).mono ?_); rintro e wa ⟨rfl, hq⟩)
      | (go_at_call 12; (with_reducible refine (KZt1.out _ (by repeat' (first | exact hq | refine Below.drew ?_ | refine below_drewM ?_ _))).mono ?_); rintro e wa ⟨rfl, hq⟩)
      | fail)
  all_goals
    go_wp2_with fail
    go_ret
    exact ⟨rfl, hB.trans (hq.mono hB.size)⟩
set_option maxRecDepth 10000 in
set_option maxHeartbeats 6400000 in
theorem dyad3_is {a : Option Addr} {n c : Nat} {f : Nat → Nd} {b : Nat} (dk : Int) (dv da dx : ByteArray) (dg : Option Addr) (dm dc : Nat) (u0 u1 u2 : Nat) (t1 v0 t2 : ByteArray) (W : World) (h : Hy a n c f b W) (a' : Option Addr) (c' : Nat) (hl : Pl W a' [u0, u1, u2]) (hc' : 3 ≤ c') (hcm' : c' ≤ maxLen) (zx : dx.size ≤ 300) (Kt1 : ∀ W, Hy a n c f b W → Calls Tryz.prog 50 #[Pv a n c b, .int .i64 (u1 : Int)] W (StB t1 W)) (zt1 : t1.size ≤ 20000001000) (Kv0 : ∀ W, Hy a n c f b W → Calls Tryz.prog 49 #[Pv a n c b, .agg #[.int .i64 dk, .string dv, .string da, .string dx, .slice dg dm dc], .int .i64 (u0 : Int)] W (StB v0 W)) (zv0 : v0.size ≤ 20000001000) (Kt2 : ∀ W, Hy a n c f b W → Calls Tryz.prog 12 #[Pv a n c b, .int .i64 (u2 : Int)] W (StB t2 W)) (zt2 : t2.size ≤ 20000001000) :
    Calls Tryz.prog 24 #[Pv a n c b, .agg #[.int .i64 dk, .string dv, .string da, .string dx, .slice dg dm dc], .slice a' 3 c'] W (StB (t1 ++ v0 ++ t2) W) := by
  obtain ⟨ub, uo, rfl, hul, huc⟩ := hl.cells (by simp)
  have e0 := huc 0 _ rfl
  have e1 := huc 1 _ rfl
  have e2 := huc 2 _ rfl
  rw [Nat.add_zero] at e0
  clear huc hl
  have q1_0 : ¬ (9223372036854775807 < t1.size + v0.size) := by omega
  have q2_0 : ¬ (9223372036854775807 < t1.size + v0.size + t2.size) := by omega
  have KKt1 := Lib.hid Kt1
  have KKv0 := Lib.hid Kv0
  have KKt2 := Lib.hid Kt2
  have HH := Lib.hid h
  clear h Kt1 Kv0 Kt2
  unfold Pv at *
  go_enter Tryz.func24, Tryz.ntmps24
  go_upto_region 1 with fail
  go_quiet (fail)
  go_wp2_with fail
  have HZ := boxes W a n c b dk dv da dx dg dm dc _ rfl
  generalize (W.alloc _).alloc _ = wz at *
  obtain ⟨hP, hD, hB⟩ := HZ
  have p0 := hP.c0
  have p1 := hP.c1
  have d0 := hD.c0
  have d1 := hD.c1
  have d2 := hD.c2
  have d3 := hD.c3
  have d4 := hD.c4
  have lp := hP.lt
  have ld := hD.lt
  have lu : ub < wz.heap.size := Nat.lt_of_lt_of_le hul hB.size
  replace e0 := (Below.cell (p := ⟨ub, uo, none⟩) hB hul).trans e0
  replace e1 := (Below.cell (p := ⟨ub, uo + 1, none⟩) hB hul).trans e1
  replace e2 := (Below.cell (p := ⟨ub, uo + 2, none⟩) hB hul).trans e2
  have KZt1 := Lib.hid (fun w' (hb : Below wz.heap.size wz w') => stb_base hb (KKt1.out w' (HH.out.below (hB.trans (hb.mono hB.size)))))
  have KZv0 := Lib.hid (fun w' (hb : Below wz.heap.size wz w') => stb_base hb (KKv0.out w' (HH.out.below (hB.trans (hb.mono hB.size)))))
  have KZt2 := Lib.hid (fun w' (hb : Below wz.heap.size wz w') => stb_base hb (KKt2.out w' (HH.out.below (hB.trans (hb.mono hB.size)))))
  have hq : Below wz.heap.size wz wz := Below.refl _ _
  clear HH KKt1 KKv0 KKt2
  go_region_held3 (fun w' => w'.cell? ⟨W.heap.size, 0, none⟩ = some (.slice a n c) ∧ w'.cell? ⟨W.heap.size, 1, none⟩ = some (.map (some b)) ∧ w'.cell? ⟨W.heap.size + 1, 0, none⟩ = some (.int .i64 dk) ∧ w'.cell? ⟨W.heap.size + 1, 1, none⟩ = some (.string dv) ∧ w'.cell? ⟨W.heap.size + 1, 2, none⟩ = some (.string da) ∧ w'.cell? ⟨W.heap.size + 1, 3, none⟩ = some (.string dx) ∧ w'.cell? ⟨W.heap.size + 1, 4, none⟩ = some (.slice dg dm dc) ∧ w'.cell? ⟨ub, uo, none⟩ = some (.int .i64 (u0 : Int)) ∧ w'.cell? ⟨ub, uo + 1, none⟩ = some (.int .i64 (u1 : Int)) ∧ w'.cell? ⟨ub, uo + 2, none⟩ = some (.int .i64 (u2 : Int)))
    (first | exact ⟨(Below.cell (p := ⟨W.heap.size, 0, none⟩) (by repeat' (first | exact hq | refine Below.drew ?_ | refine below_drewM ?_ _)) lp).trans p0, (Below.cell (p := ⟨W.heap.size, 1, none⟩) (by repeat' (first | exact hq | refine Below.drew ?_ | refine below_drewM ?_ _)) lp).trans p1, (Below.cell (p := ⟨W.heap.size + 1, 0, none⟩) (by repeat' (first | exact hq | refine Below.drew ?_ | refine below_drewM ?_ _)) ld).trans d0, (Below.cell (p := ⟨W.heap.size + 1, 1, none⟩) (by repeat' (first | exact hq | refine Below.drew ?_ | refine below_drewM ?_ _)) ld).trans d1, (Below.cell (p := ⟨W.heap.size + 1, 2, none⟩) (by repeat' (first | exact hq | refine Below.drew ?_ | refine below_drewM ?_ _)) ld).trans d2, (Below.cell (p := ⟨W.heap.size + 1, 3, none⟩) (by repeat' (first | exact hq | refine Below.drew ?_ | refine below_drewM ?_ _)) ld).trans d3, (Below.cell (p := ⟨W.heap.size + 1, 4, none⟩) (by repeat' (first | exact hq | refine Below.drew ?_ | refine below_drewM ?_ _)) ld).trans d4, (Below.cell (p := ⟨ub, uo, none⟩) (by repeat' (first | exact hq | refine Below.drew ?_ | refine below_drewM ?_ _)) lu).trans e0, (Below.cell (p := ⟨ub, uo + 1, none⟩) (by repeat' (first | exact hq | refine Below.drew ?_ | refine below_drewM ?_ _)) lu).trans e1, (Below.cell (p := ⟨ub, uo + 2, none⟩) (by repeat' (first | exact hq | refine Below.drew ?_ | refine below_drewM ?_ _)) lu).trans e2⟩ | fail)
    (first
      | (go_at_call 50; (with_reducible refine (KZt1.out _ (by repeat' (first | exact hq | refine Below.drew ?_ | refine below_drewM ?_ _))).mono ?_); rintro e wa ⟨rfl, hq⟩)
      | (go_at_call 49; (with_reducible refine (KZv0.out _ (by repeat' (first | exact hq | refine Below.drew ?_ | refine below_drewM ?_ _))).mono ?_); rintro e wa ⟨rfl, hq⟩)
      | (go_at_call 12; (with_reducible refine (KZt2.out _ (by repeat' (first | exact hq | refine Below.drew ?_ | refine below_drewM ?_ _))).mono ?_); rintro e wa ⟨rfl, hq⟩)
      | fail)
  all_goals
    go_wp2_with fail
    go_ret
    exact ⟨rfl, hB.trans (hq.mono hB.size)⟩
end Go.Proofs.YtljkmdmbndjngaaGreat
/-
  How deep a tree is: of the program.
-/
namespace Go.Proofs.YtljkmdmbndjngaaGreat
set_option linter.unusedVariables false
set_option linter.unusedSimpArgs false
open Go.RowKit

/-- Numbers in a row. -/
def vi (l : List Int) : List Value := l.map (Value.int .i64)
def szOf : Value → Nat
  | .slice _ n _ => n
  | _ => 0
theorem vi_len (l : List Int) : (vi l).length = l.length := by simp [vi]
/-- A row of numbers that is not empty: its block. -/
theorem own_vi {w : World} {base n : Nat} {v : Value} {l : List Int} (h : w.ownsRow base 3 1 v n (vi l)) (hn : 0 < n) : ∃ g cap, v = .slice (some ⟨g, 0, none⟩) n cap ∧ base ≤ g ∧ n ≤ cap ∧ cap ≤ maxLen ∧ l.length = n ∧ (∀ j x, l[j]? = some x → w.cell? ⟨g, j, none⟩ = some (.int .i64 x)) ∧ ∀ j, w.frozen? ⟨g, j, none⟩ = false := by
  have hl : l.length = n := by have := h.1; rw [vi_len, Nat.mul_one] at this; exact this
  rcases h.2 with ⟨_, h0⟩ | ⟨g, cap, cur, rfl, h0, hg, h1, h2, h3, h4⟩
  · omega
  · refine ⟨g, cap, rfl, h0, h1, h2, hl, fun j x hj => ?_, fun j => h.frozenAt j⟩
    rw [h.cellAt j (by have := (List.getElem?_eq_some_iff.1 hj).1; omega)]
    simp [vi, hj]
theorem own_any {w : World} {base n e s : Nat} {v : Value} {xs : List Value} (h : w.ownsRow base e s v n xs) : ∃ a c, v = .slice a n c := by
  rcases h.2 with ⟨rfl, rfl⟩ | ⟨g, cap, _, rfl, _⟩
  · exact ⟨_, _, rfl⟩
  · exact ⟨_, _, rfl⟩
theorem own_take {w : World} {base n k g cap : Nat} {xs : List Value} (h : w.ownsRow base 3 1 (.slice (some ⟨g, 0, none⟩) n cap) n xs) (hk : k ≤ n) : w.ownsRow base 3 1 (.slice (some ⟨g, 0, none⟩) k cap) k (xs.take k) := by
  have hl := h.1
  rcases h.2 with ⟨h0, _⟩ | ⟨g', cap', cur, hv, h0, hg, h1, h2, h3, h4⟩
  · cases h0
  · injection hv with hv hn hc
    injection hv with hv
    injection hv with hv
    subst hv hc
    refine ⟨by rw [List.length_take]; omega, .inr ⟨_, _, cur, rfl, h0, hg, by omega, h2, h3, ?_⟩⟩
    rw [← h4, List.take_take, Nat.min_eq_left (by omega), Nat.mul_one]
set_option maxHeartbeats 3200000 in
theorem Depth_none (a : Option Addr) (n c : Nat) (f : Nat → Nd) (W : World) (h : Nq W a n f) (hn : n ≤ 1000000) (he : eN (ksF f n) 1 0 = none) :
    Calls Tryz.prog 18 #[.slice a n c] W (ValEnd (.int .i64 0) W) := by
  have KE := End_in a n c f 0 W h hn (by omega)
  rw [he] at KE
  replace KE := Lib.hid KE
  clear he
  go_enter Tryz.func18, Tryz.ntmps18
  go_wp2_with fail
  refine KE.out.mono ?_
  rintro e w1 ⟨rfl, hb⟩
  unfold endV
  go_wp2_with fail
  go_ret
  exact ⟨rfl, hb⟩
set_option maxRecDepth 10000 in
set_option maxHeartbeats 3200000 in
theorem Depth_some (a : Option Addr) (n c : Nat) (f : Nat → Nd) (e D : Nat) (W : World) (h : Nq W a n f) (hnc : n ≤ c) (hc : c ≤ maxLen) (hn : n ≤ 1000000) (he : Fd (ksF f n) 0 1 e D) :
    Calls Tryz.prog 18 #[.slice a n c] W (ValEnd (.int .i64 (D : Int)) W) := by
  have KE := End_in a n c f 0 W h hn (by omega)
  rw [he.ends] at KE
  replace KE := Lib.hid KE
  have hD := he.deep
  have hle := he.le
  have hen := hle.2 (by omega)
  rw [ks_len] at hen
  have hs := Lib.hid (Fin.start he)
  have H := Lib.hid h
  obtain ⟨gb, off, rfl, hcs⟩ := h.ld (by omega)
  have HC := Lib.hid hcs
  have KK := Lib.hid (fun j w => Kids_is (f j).k (f j).v (f j).a (f j).x (f j).g (f j).m (f j).c w)
  clear h hcs he
  go_enter Tryz.func18, Tryz.ntmps18
  go_wp2_with fail
  refine KE.out.mono ?_
  rintro e' w1 ⟨rfl, hb⟩
  unfold endV
  clear KE
  go_wp2_with fail
  go_loopw [5, 6, 20] (fun dv av kv wr => ∃ (i x m d : Nat) (r : List Nat), dv = .int .i64 x ∧ kv = .int .i64 i ∧ i ≤ e ∧ Fin (ksF f n) (m :: r) i e d ∧ D = max x d ∧ r.length ≤ x ∧ (r = [] ∨ 1 ≤ m) ∧ wr.ownsRow W.heap.size 3 1 av r.length (vi (mm (m :: r))) ∧ Below W.heap.size W wr) (fun _ _ kv _ => e - (intOf kv).toNat)
  case atStart => exact ⟨0, 0, 1, D, [], rfl, rfl, by omega, hs.out, by omega, by simp, .inl rfl, ⟨rfl, .inl ⟨rfl, rfl⟩⟩, hb⟩
  case round =>
    clear hb hs
    obtain ⟨i, x, m, d, r, rfl, rfl, hi, hF, hx, hr, hm, ho, hb⟩ := hrel
    by_cases hlt : i < e
    · have e2 : (i : Int) < (e : Int) := by omega
      obtain ⟨m, rfl⟩ := hF.more hm hlt
      obtain ⟨k, hk, hF2, hrd, _⟩ := hF.push
      rw [ks_at (by omega)] at hk
      injection hk with hk
      have HK := Lib.hid (fun w => hk ▸ KK.out i w)
      obtain ⟨c0, c1, c2, c3, c4⟩ := (HC.out i (by omega)).below hb (HC.out i (by omega)).lt
      have HF := Lib.hid hF2
      have hsz := hb.size
      have hB := Bd.new wr (f i).k (f i).v (f i).a (f i).x (f i).g (f i).m (f i).c
      have b0 := hB.c0
      have b1 := hB.c1
      have b2 := hB.c2
      have b3 := hB.c3
      have b4 := hB.c4
      have hb2 := Lib.hid (hb.alloc hsz (.cells #[.int .i64 (f i).k, .string (f i).v, .string (f i).a, .string (f i).x, .slice (f i).g (f i).m (f i).c] 37))
      have HO := Lib.hid (ho.alloc (.cells #[.int .i64 (f i).k, .string (f i).v, .string (f i).a, .string (f i).x, .slice (f i).g (f i).m (f i).c] 37))
      clear hk hF hF2 hB hb ho hm hsz KK
      go_wp2_with fail
      refine (HK.out _).mono ?_
      rintro e' w2 ⟨rfl, hb1⟩
      have ho := own_below5 HO.out hb1
      have hb := hb2.out.trans (hb1.mono hb2.out.size)
      have hsz := hb.size
      clear b0 b1 b2 b3 b4 c0 c1 c2 c3 c4 hb1 hb2 HO HK
      obtain ⟨i0, hi0, hz0, hz1, hz2⟩ := info_parts infoI
      go_wp2_with (at_builtin; refine wpList_append_own _ rfl (.tmp 24) (.tmp 27) 54 rfl W.heap.size 3 i0 (.int .i64 0) 1 8 Tryz.underlying54 hi0 hz0 hz1 hz2 rfl (by decide) _ _ _ rfl (ho.alloc _) ⟨w2.heap.size, 0, none⟩ 1 1 [.int .i64 (k : Int)] rfl rfl ?c1 ?c2 ?c3 ?c4 ?c5 ?_)
      case c1 =>
        intro j u hj
        rw [Go.WideShapes.add_plain, Nat.zero_add, cell_of_row _ _ _ _ _ _ (heap_alloc_new w2 _), ← hj, ← Array.getElem?_toList]
      case c2 => intro u hu; simp at hu; rcases hu with rfl; rfl
      case c3 => unfold maxLen; omega
      case c4 => omega
      case c5 => simp; omega
      intro v' w3 hown' hgrow hnn'
      have hb' : Below W.heap.size W w3 := (hb.alloc hsz _).grown hgrow (by simp; omega) (fun k hk => (ho.lt k hk).1)
      have hrow : w3.ownsRow W.heap.size 3 1 v' (r.length + 1) (vi (mm (k :: m :: r))) := by
        rw [mm_push]
        unfold vi at hown' ⊢
        rw [List.map_append]
        exact hown'
      clear hgrow ho hb hnn' hown' hsz
      obtain ⟨g, cap, rfl, hg, hcap, hcm, hlen, hcell, hfz⟩ := own_vi hrow (by omega)
      obtain ⟨x2, hx2⟩ : ∃ x2 : Nat, x2 = max x (r.length + 1) := ⟨_, rfl⟩
      have HF3 := Lib.hid HF.out
      have HO3 := Lib.hid hrow
      clear hcell hfz hlen hrow HF
      go_wp2_with fail
      all_goals
        go_loopw [6] (fun av wr => ∃ (t d' : Nat) (r' : List Nat), Fin (ksF f n) (t :: r') (i + 1) e d' ∧ D = max x2 d' ∧ r'.length ≤ x2 ∧ wr.ownsRow W.heap.size 3 1 av r'.length (vi (mm (t :: r'))) ∧ Below W.heap.size W wr) (fun av _ => szOf av)
        case atStart => exact ⟨k, d, m :: r, HF3.out, by omega, by simp; omega, HO3.out, hb'⟩
        case round =>
          clear hb' HF3 HO3 hrd hx hr
          obtain ⟨t, d', r', hF, hx', hr', ho, hb⟩ := hrel
          rcases r' with _ | ⟨m', r'⟩
          · obtain ⟨a', c', rfl⟩ := own_any ho
            have HF := Lib.hid hF
            have HO := Lib.hid ho
            clear hF ho
            go_wp2_with fail
            refine ⟨⟨i + 1, x2, t, d', [], by congr 1; omega, by go_num, by omega, HF.out, hx', by simp, .inl rfl, HO.out, hb⟩, by simp [intOf]; omega⟩
          · obtain ⟨q, hq⟩ : ∃ q, q = r'.length := ⟨_, rfl⟩
            have hl : (m' :: r').length = q + 1 := by rw [hq]; rfl
            rw [hl] at ho hr'
            obtain ⟨g2, cap2, rfl, hg2, hcap2, hcm2, hlen2, hcell2, hfz2⟩ := own_vi ho (by omega)
            have ctop := hcell2 q (t : Int) (by rw [hq]; exact mm_top t m' r')
            by_cases ht : t = 0
            · subst ht
              obtain ⟨d2, hF2, hx3⟩ := hF.pop (x := x2) (by rw [hl]; omega) hx'
              have hm2 := hF2.head_le
              have htk := own_take ho (k := q) (by omega)
              rw [show (vi (mm (0 :: m' :: r'))).take q = vi (pl (m' :: r')).reverse by unfold vi; rw [← List.map_take, hq, mm_take]] at htk
              have HF := Lib.hid hF2
              have HX := Lib.hid hx3
              rcases r' with _ | ⟨a, r'⟩
              · obtain rfl : q = 0 := hq
                have HO := Lib.hid htk
                clear hF ho hcell2 hfz2 hl hF2 hx3 hm2 htk hx'
                go_wp2_with fail
                refine ⟨⟨m', d2, [], HF.out, HX.out, by simp, HO.out, hb⟩, by simp [szOf]⟩
              · obtain ⟨p, hp⟩ : ∃ p, p = r'.length := ⟨_, rfl⟩
                obtain rfl : q = p + 1 := by rw [hq, hp]; rfl
                obtain ⟨hp1, hp2⟩ := pl_last m' a r'
                rw [← hp] at hp1 hp2
                obtain ⟨g3, cap3, hv, -, -, -, -, hcell3, -⟩ := own_vi htk (by omega)
                cases hv
                have cp := hcell3 p _ hp1
                have fp := htk.frozenAt p
                have hst := (htk.stored p (.int .i64 (m' : Int))).1
                rw [show (vi (pl (m' :: a :: r')).reverse).set p (.int .i64 (m' : Int)) = vi (mm (m' :: a :: r')) by unfold vi; rw [← hp2, List.map_set]] at hst
                have HO := Lib.hid hst
                have hb3 : Below W.heap.size W (wr.setCell ⟨g2, p, none⟩ (.int .i64 (m' : Int))) := hb.setCell hg2 _
                have HP := Lib.hid hp
                have w5 : IntKind.i64.wrap (m' : Int) = (m' : Int) := wrn (by omega) (by omega)
                have w7 : IntKind.i64.wrap (p : Int) = (p : Int) := wrn (by omega) (by omega)
                have w6 : IntKind.i64.wrap ((p : Int) + 1) = (p : Int) + 1 := wrn (by omega) (by omega)
                clear hF ho hcell2 hfz2 hl hF2 hx3 hm2 htk hx' hcell3 hp1 hp2 hst hp hq
                go_wp2_with fail
                refine ⟨⟨m', d2, a :: r', HF.out, HX.out, by rw [show (a :: r').length = p + 1 by rw [HP.out]; rfl]; omega, by rw [show (a :: r').length = p + 1 by rw [HP.out]; rfl]; exact HO.out, hb3⟩, by simp [szOf]⟩
            · have e3 : ((t : Int) == 0) = false := beq_eq_false_iff_ne.2 (by omega)
              have HF := Lib.hid hF
              have HO := Lib.hid ho
              have HQ := Lib.hid hq
              clear hF ho hcell2 hfz2 hl hq
              go_wp2_with fail
              refine ⟨⟨i + 1, x2, t, d', m' :: r', by congr 1; omega, by go_num, by omega, HF.out, hx', by rw [show (m' :: r').length = q + 1 by rw [HQ.out]; rfl]; omega, .inr (by omega), by rw [show (m' :: r').length = q + 1 by rw [HQ.out]; rfl]; exact HO.out, hb⟩, by simp [intOf]; omega⟩
    · have e2 : ¬ (i : Int) < (e : Int) := by omega
      obtain rfl : i = e := by omega
      have h0 := hF.done hm
      subst h0
      obtain rfl : D = x := by omega
      clear hF ho hx hr hD
      go_wp2_with fail
      go_ret
      exact ⟨rfl, hb⟩
end Go.Proofs.YtljkmdmbndjngaaGreat
/-
  How deep a tree is: of the reference.
-/
namespace Go.Proofs.YtljkmdmbndjngaaGreat
set_option linter.unusedVariables false
set_option linter.unusedSimpArgs false
open Go.RowKit

theorem drop_one {α : Type} {l r : List α} {k : Nat} {x : α} (h : x :: r = l.drop k) : l[k]? = some x ∧ r = l.drop (k + 1) := by
  have h1 : (l.drop k)[0]? = some x := by rw [← h]; rfl
  rw [List.getElem?_drop, Nat.add_zero] at h1
  refine ⟨h1, ?_⟩
  rw [← List.drop_drop, ← h]; rfl
set_option maxHeartbeats 3200000 in
theorem rdeep_all (a : Option Addr) (n c : Nat) (f : Nat → Nd) (hn : n ≤ 1000000) : ∀ N p, n - p ≤ N → ∀ (e D : Nat) (W : World), Nq W a n f → Fd (ksF f n) p 1 e D →
    Calls Tryz.prog 31 #[.slice a n c, .int .i64 (p : Int)] W (ValEnd (.int .i64 (D : Int)) W) := by
  intro N
  induction N with
  | zero =>
    intro p hp e D W h hF
    have := hF.lt (by omega)
    rw [ks_len] at this
    omega
  | succ N ih =>
    intro p hp e D W h hF
    have hlt := hF.lt (by omega)
    rw [ks_len] at hlt
    obtain ⟨y, hk, he2, hpe, hen, hu⟩ := tree_at hF.ends
    rw [ks_len] at hen
    obtain ⟨k, q, d1, d2, hk2, h0, g1, _, g2, hD⟩ := hF.inv
    obtain ⟨rfl, rfl⟩ := g2.inv0
    rw [hk] at hk2
    injection hk2 with hk2
    subst hk2
    rw [Int.toNat_natCast] at g1
    have hul := g1.un_len
    have hd1 := g1.deep
    have hD2 : D = 1 + d1 := by omega
    have hy : y ≤ 1000000 := by have := g1.le.1; omega
    have hd1' : d1 ≤ 1000000 := by omega
    have KU := rUnder_is a n c f p W h hn
    rw [hu] at KU
    have HG := Lib.hid g1
    obtain ⟨u, hu2⟩ : ∃ u, u = un (ksF f n) y (p + 1) := ⟨_, rfl⟩
    rw [← hu2] at KU hul
    have HU := Lib.hid hu2
    have IH := Lib.hid ih
    have H := Lib.hid h
    replace KU := Lib.hid KU
    clear hpe hen h0 hd1 hF hk he2 hu g1 g2 h ih hu2 hD
    go_enter Tryz.func31, Tryz.ntmps31
    go_wp2_with fail
    refine KU.out.mono ?_
    rintro e' w1 ⟨a2, c2, rfl, _, _, hpl, hb⟩
    rw [hul]
    have HP := Lib.hid hpl
    clear hpl KU
    go_wp2_with fail
    go_loopw [5, 7] (fun mv jv wr => ∃ (j q x dl : Nat), mv = .int .i64 x ∧ jv = .int .i64 j ∧ j ≤ y ∧ p < q ∧ x ≤ 1000000 ∧ Fd (ksF f n) q (y - j) e dl ∧ d1 = max x dl ∧ un (ksF f n) (y - j) q = u.drop j ∧ Below W.heap.size W wr ∧ Below w1.heap.size w1 wr) (fun _ jv _ => y - (intOf jv).toNat)
    case atStart => exact ⟨0, p + 1, 0, d1, rfl, rfl, by omega, by omega, by omega, HG.out, by omega, by rw [HU.out]; rfl, hb, Below.refl _ _⟩
    case round =>
      clear hb
      obtain ⟨j, q, x, dl, rfl, rfl, hj, hq, hx, hF, hdl, hun, hb, hbb⟩ := hrel
      by_cases hjy : j < y
      · have e3 : (j : Int) < (y : Int) := by omega
        rw [show y - j = (y - (j + 1)) + 1 by omega] at hF hun
        obtain ⟨k, q2, d3, d4, _, _, g1, g2, g3, hd⟩ := hF.inv
        rw [un_cons g2.ends] at hun
        obtain ⟨hun1, hun2⟩ := drop_one hun
        obtain ⟨b, off, rfl, hc⟩ := HP.out (by rw [hul]; omega)
        have cj := hc j q hun1
        have cell := (hbb.cell (World.block_lt_of_cell? w1 _ cj)).trans cj
        have KD := Lib.hid (fun w hw => IH.out q (by omega) q2 (1 + d3) w hw g2)
        have hl2 := g2.le
        have hl2' := hl2.2 (by have := g2.lt (by omega); omega)
        rw [ks_len] at hl2'
        have hdp := g2.deep
        obtain ⟨z, hz⟩ : ∃ z, z = max x (1 + d3) := ⟨_, rfl⟩
        have hz1 : z ≤ 1000000 := by omega
        have hz2 : d1 = max z d4 := by omega
        have hz3 : (x : Int) < 1 + (d3 : Int) → z = 1 + d3 := by omega
        have hz4 : 1 + (d3 : Int) ≤ (x : Int) → z = x := by omega
        have hpq : p < q2 := by omega
        have wj : IntKind.i64.wrap ((j : Int) + 1) = (j : Int) + 1 := wrn (by omega) (by omega)
        have HZ2 := Lib.hid hz2
        have HG3 := Lib.hid g3
        have HUN := Lib.hid hun2
        clear hc cj hF hun hun1 hun2 g1 g2 g3 HG HU hl2 hl2' hdp hz hz2 hdl hd
        go_wp2_with fail
        refine (KD.out _ (H.out.below hb)).mono ?_
        rintro e' w2 ⟨rfl, hb1⟩
        have hb2 := hb.trans (hb1.mono hb.size)
        have hbb2 := hbb.trans (hb1.mono hbb.size)
        clear KD hb1 cell hb hbb
        go_wp2_with fail
        all_goals
          refine ⟨⟨j + 1, q2, z, d4, by congr 1; omega, by go_num, hjy, hpq, hz1, HG3.out, HZ2.out, HUN.out, hb2, hbb2⟩, by simp [intOf]; omega⟩
      · have e3 : ¬ (j : Int) < (y : Int) := by omega
        obtain rfl : j = y := by omega
        rw [Nat.sub_self] at hF
        obtain ⟨_, rfl⟩ := hF.inv0
        obtain rfl : d1 = x := by omega
        have w1 : IntKind.i64.wrap (1 + (d1 : Int)) = 1 + (d1 : Int) := wrn (by omega) (by omega)
        subst hD2
        clear hF hdl hun HG
        go_wp2_with fail
        go_ret
        exact ⟨by congr 1, hb⟩
theorem rDepth_none (a : Option Addr) (n c : Nat) (f : Nat → Nd) (W : World) (h : Nq W a n f) (hn : n ≤ 1000000) (he : eN (ksF f n) 1 0 = none) :
    Calls Tryz.prog 64 #[.slice a n c] W (ValEnd (.int .i64 0) W) := by
  have KE := rEnd_all a n c f hn _ 0 (Nat.le_refl _) W h
  rw [he] at KE
  replace KE := Lib.hid KE
  clear he
  go_enter Tryz.func64, Tryz.ntmps64
  go_wp2_with fail
  refine KE.out.mono ?_
  rintro e w1 ⟨rfl, hb⟩
  unfold endV
  go_wp2_with fail
  go_ret
  exact ⟨rfl, hb⟩
theorem rDepth_some (a : Option Addr) (n c : Nat) (f : Nat → Nd) (e D : Nat) (W : World) (h : Nq W a n f) (hn : n ≤ 1000000) (he : Fd (ksF f n) 0 1 e D) :
    Calls Tryz.prog 64 #[.slice a n c] W (ValEnd (.int .i64 (D : Int)) W) := by
  have KE := rEnd_all a n c f hn _ 0 (Nat.le_refl _) W h
  rw [he.ends] at KE
  replace KE := Lib.hid KE
  have KD := Lib.hid (fun w hw => rdeep_all a n c f hn _ 0 (Nat.le_refl _) e D w hw he)
  have H := Lib.hid h
  clear he h
  go_enter Tryz.func64, Tryz.ntmps64
  go_wp2_with fail
  refine KE.out.mono ?_
  rintro e w1 ⟨rfl, hb⟩
  unfold endV
  go_wp2_with fail
  refine (KD.out _ (H.out.below hb)).mono ?_
  rintro e w2 ⟨rfl, hb1⟩
  replace hb := hb.trans (hb1.mono hb.size)
  go_wp2_with fail
  go_ret
  exact ⟨rfl, hb⟩
end Go.Proofs.YtljkmdmbndjngaaGreat

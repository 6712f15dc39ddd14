import Derived.Test.YtpledghphljfkaaDoorMat
import Derived.Test.YtpledghphljfkaaDoorMau
import Derived.Test.YtpledghphljfkaaDoorMav
import Derived.Test.YtpledghphljfkaaDoorMax
import Derived.Test.YtpledghphljfkaaDoorMaz
import Derived.Test.YtpledghphljfkaaDoorMaq
/-
  The program's seven calls of seek, by their contracts: Up, Down (Ne), Unique, Find (Nf), Where (Ng), Index (Nh), Amend (Ni).
-/
namespace Go.Proofs.YtpledghphljfkaaDoor
set_option linter.unusedVariables false
set_option linter.unusedSimpArgs false
end Go.Proofs.YtpledghphljfkaaDoor
/-
  The example of seek's statements.
-/
namespace Go.Proofs.YtpledghphljfkaaDoor
set_option linter.unusedVariables false
set_option linter.unusedSimpArgs false
open Go.RowKit

theorem three_i64 {x y z : Int} (hx : I64 x) (hy : I64 y) (hz : I64 z) : ∀ j, j < 3 → I64 (([x, y, z] : List Int).getD j 0) := by
  intro j hj
  have h : j = 0 ∨ j = 1 ∨ j = 2 := by omega
  rcases h with rfl | rfl | rfl
  · exact hx
  · exact hy
  · exact hz
theorem up_321 : upK 1 (some ([3], [30, 10, 20])) = (some ([3], [1, 2, 0]), 0) := by
  rw [up_yes 1 (q := ([3], [30, 10, 20])) rfl]
  have h : Ord (fun i => 1 * ([30, 10, 20] : List Int).getD i 0) 3 [1, 2, 0] := by
    refine ⟨?_, fun v => ?_⟩
    · simp [Lf]
    · simp; omega
  show (some ([((3 : Nat) : Int)], intL (orL (fun i => 1 * ([30, 10, 20] : List Int).getD i 0) 3)), (0 : Int)) = _
  rw [orL_is h]
  rfl
theorem wh_021 : whK (some ([3], [0, 2, 1])) = (some ([3], [1, 1, 2]), 0) := by
  rw [wh_yes (q := ([3], [0, 2, 1])) rfl (nears (by simp)), if_neg (by simp), if_neg (by decide)]
  rfl
theorem lw_on {P : World → Prop} {w w' : World} (h : Lv P w) (hb : Below w.heap.size w w')
    (hs : Stb P := by repeat' (first | exact Stb.bel _ | exact Stb.bx | exact Av.stb2 | refine Stb.and ?_ ?_ | exact Stb.triv)) : Lv P w' := ⟨hs _ _ h.out hb⟩
theorem sl_three (w : World) (x y z : Int) : Sl (w.alloc (.cells #[.int .i64 x, .int .i64 y, .int .i64 z] 3)) (some ⟨w.heap.size, 0, none⟩) 3 [x, y, z] := Sl.row (l := [x, y, z]) (heap_alloc_new _ _)
theorem Ints_three (a : Option Addr) (x y z : Int) (W : World) (h : Sl W a 3 [x, y, z]) (hi : ∀ j, j < 3 → I64 (([x, y, z] : List Int).getD j 0)) (ht : WT W) : Calls Tryd.prog 20 #[.slice a 3 3] W (PtEnd [3] ([x, y, z].map S) W) := Ints_pt a 3 3 [x, y, z] W h hi (by omega) ht
set_option maxRecDepth 100000 in
set_option maxHeartbeats 6400000 in
theorem kshown_is (W : World) (hW : WT W) : Calls Tryd.prog 7 #[] W (TrueEnd W) := by
  have hA : Below W.heap.size W (W.alloc (.cells #[.int .i64 30, .int .i64 10, .int .i64 20] 3)) := (Below.refl _ _).alloc (Nat.le_refl _) _
  have h : Lv (fun w => Below W.heap.size W w) (W.alloc (.cells #[.int .i64 30, .int .i64 10, .int .i64 20] 3)) := ⟨hA⟩
  have KW := Lib.hid (fun w (hb : Below W.heap.size W w) => hW.below hb)
  have i1 := three_i64 (x := 30) (y := 10) (z := 20) (by decide) (by decide) (by decide)
  have i2 := three_i64 (x := 0) (y := 2) (z := 1) (by decide) (by decide) (by decide)
  have K1 := Lib.hid (Ints_three _ 30 10 20 _ (sl_three W 30 10 20) i1 (KW.out _ hA))
  have R1 : Rok (some ([3], [30, 10, 20])) := vec_rok (t := 3) (by omega) rfl (fun x hx => small_rok (by simp at hx; omega))
  have R2 : Rok (some ([3], [0, 2, 1])) := vec_rok (t := 3) (by omega) rfl (fun x hx => small_rok (by simp at hx; omega))
  have R3 : Rok (some ([3], [1, 2, 0])) := vec_rok (t := 3) (by omega) rfl (fun x hx => small_rok (by simp at hx; omega))
  have R4 : Rok (some ([3], [1, 1, 2])) := vec_rok (t := 3) (by omega) rfl (fun x hx => small_rok (by simp at hx; omega))
  clear hW hA
  go_enter Tryd.func7, Tryd.ntmps7
  go_wp2_with fail
  with_reducible refine (lw_P h (⟨K1.out, R1⟩)).mono ?_
  clear h
  rintro e w ⟨ae, ne, ce, be, me, de, rfl, h⟩
  have HI := SUp_is h.out.1 (KW.out _ h.out.2)
  rw [up_321] at HI
  go_wp2_with fail
  with_reducible refine (lw_M h (HI)).mono ?_
  clear h
  rintro e w ⟨au, nu, cu, bu, mu, du, rfl, h⟩
  obtain ⟨wu, hwu⟩ : ∃ z, z = w := ⟨_, rfl⟩
  subst hwu
  generalize hwz : wu.alloc (.cells #[.slice au nu cu, .slice bu mu du] 25) = wz at *
  have hA : Below wz.heap.size wz (wz.alloc (.cells #[.int .i64 0, .int .i64 2, .int .i64 1] 3)) := (Below.refl _ _).alloc (Nat.le_refl _) _
  replace h := lw_on h hA
  have K2 := Lib.hid (Ints_three _ 0 2 1 _ (sl_three wz 0 2 1) i2 (KW.out _ h.out.2.2.2))
  clear hA K1
  go_wp2_with fail
  with_reducible refine (lw_P h (⟨K2.out, R2⟩)).mono ?_
  clear h
  rintro e w ⟨af, nf, cf, bf, mf, df, rfl, h⟩
  have HJ := SWhere_is h.out.1 (KW.out _ h.out.2.2.2.2)
  rw [wh_021] at HJ
  go_wp2_with fail
  with_reducible refine (lw_M h (HJ)).mono ?_
  clear h
  rintro e w ⟨av, nv, cv, bv, mv, dv, rfl, h⟩
  obtain ⟨wv, hwv⟩ : ∃ z, z = w := ⟨_, rfl⟩
  subst hwv
  generalize hwy : wv.alloc (.cells #[.slice av nv cv, .slice bv mv dv] 25) = wy at *
  have xu := h.out.2.2.2.1.c0
  have yu := h.out.2.2.2.1.c1
  have xv := h.out.1.c0
  have yv := h.out.1.c1
  have lu := h.out.2.2.2.1.lt
  have lv := h.out.1.lt
  have i3 := three_i64 (x := 1) (y := 2) (z := 0) (by decide) (by decide) (by decide)
  have i4 := three_i64 (x := 1) (y := 1) (z := 2) (by decide) (by decide) (by decide)
  have Q1 : Hid (∀ z g, Below wy.heap.size wy z → z.heap[g]? = some (.cells #[.int .i64 1, .int .i64 2, .int .i64 0] 3 (0, 0)) → Calls Tryd.prog 20 #[.slice (some ⟨g, 0, none⟩) 3 3] z fun e w' => ∃ a n c b m d, e = .returned (.agg #[.slice a n c, .slice b m d]) ∧ Av w' a n c b m d [3] ([1, 2, 0].map S) (some ([3], [1, 2, 0])) ∧ Below wy.heap.size wy w' ∧ Below z.heap.size z w') := Lib.hid (fun z g hz hg => (Ints_three (some ⟨g, 0, none⟩) _ _ _ z (Sl.row (l := [1, 2, 0]) hg) i3 (KW.out z (h.out.2.2.2.2.2.2.trans (hz.mono h.out.2.2.2.2.2.2.size)))).mono fun e w' (h : PtEnd _ _ _ _ _) => by
    obtain ⟨a, n, c, b, m, d, h1, h2, h3, h4⟩ := h
    exact ⟨a, n, c, b, m, d, h1, Av.pt (q := ([3], [1, 2, 0])) h2 h3 R3, hz.trans (h4.mono hz.size), h4⟩)
  have Q2 : Hid (∀ z a0 n0 c0 b0 m0 d0, Below wy.heap.size wy z → Av z a0 n0 c0 b0 m0 d0 [3] ([1, 2, 0].map S) (some ([3], [1, 2, 0])) → Calls Tryd.prog 14 #[.agg #[.slice au nu cu, .slice bu mu du], .agg #[.slice a0 n0 c0, .slice b0 m0 d0]] z fun e w' => e = .returned (.bool true) ∧ Below wy.heap.size wy w') := Lib.hid (fun z a0 n0 c0 b0 m0 d0 hz hv => (VSame_av (h.out.2.2.2.2.1.v.below hz) hv.v (by have := h.out.2.2.2.2.1.n3; omega) (by have := hv.n3; omega) rfl rfl).mono fun e w' k => ⟨k.1, hz.trans (k.2.mono hz.size)⟩)
  have Q3 : Hid (∀ z g, Below wy.heap.size wy z → z.heap[g]? = some (.cells #[.int .i64 1, .int .i64 1, .int .i64 2] 3 (0, 0)) → Calls Tryd.prog 20 #[.slice (some ⟨g, 0, none⟩) 3 3] z fun e w' => ∃ a n c b m d, e = .returned (.agg #[.slice a n c, .slice b m d]) ∧ Av w' a n c b m d [3] ([1, 1, 2].map S) (some ([3], [1, 1, 2])) ∧ Below wy.heap.size wy w' ∧ Below z.heap.size z w') := Lib.hid (fun z g hz hg => (Ints_three (some ⟨g, 0, none⟩) _ _ _ z (Sl.row (l := [1, 1, 2]) hg) i4 (KW.out z (h.out.2.2.2.2.2.2.trans (hz.mono h.out.2.2.2.2.2.2.size)))).mono fun e w' (h : PtEnd _ _ _ _ _) => by
    obtain ⟨a, n, c, b, m, d, h1, h2, h3, h4⟩ := h
    exact ⟨a, n, c, b, m, d, h1, Av.pt (q := ([3], [1, 1, 2])) h2 h3 R4, hz.trans (h4.mono hz.size), h4⟩)
  have Q4 : Hid (∀ z a0 n0 c0 b0 m0 d0, Below wy.heap.size wy z → Av z a0 n0 c0 b0 m0 d0 [3] ([1, 1, 2].map S) (some ([3], [1, 1, 2])) → Calls Tryd.prog 14 #[.agg #[.slice av nv cv, .slice bv mv dv], .agg #[.slice a0 n0 c0, .slice b0 m0 d0]] z fun e w' => e = .returned (.bool true) ∧ Below wy.heap.size wy w') := Lib.hid (fun z a0 n0 c0 b0 m0 d0 hz hv => (VSame_av (h.out.2.1.v.below hz) hv.v (by have := h.out.2.1.n3; omega) (by have := hv.n3; omega) rfl rfl).mono fun e w' k => ⟨k.1, hz.trans (k.2.mono hz.size)⟩)
  have HB := Lib.hid h.out.2.2.2.2.2.2
  have hq : Below wy.heap.size wy wy := Below.refl _ _
  have hqz := hq.size
  go_upto_region 3 with fail
  clear h hwz hwy K2 HI HJ
  go_region_held3 (fun w' => w'.cell? ⟨wu.heap.size, 0, none⟩ = some (.slice au nu cu) ∧ w'.cell? ⟨wu.heap.size, 1, none⟩ = some (.slice bu mu du) ∧ w'.cell? ⟨wv.heap.size, 0, none⟩ = some (.slice av nv cv) ∧ w'.cell? ⟨wv.heap.size, 1, none⟩ = some (.slice bv mv dv))
    (first | exact ⟨(Below.cell (p := ⟨wu.heap.size, 0, none⟩) (by repeat' (first | exact hq | refine Below.drew ?_ | refine below_drewN ?_ _ | refine Below.alloc ?_ ?_ _ | refine Below.setCell ?_ ?_ _ | exact hqz | exact Nat.le_refl _ | omega | (simp; done) | (simp; omega))) lu).trans xu, (Below.cell (p := ⟨wu.heap.size, 1, none⟩) (by repeat' (first | exact hq | refine Below.drew ?_ | refine below_drewN ?_ _ | refine Below.alloc ?_ ?_ _ | refine Below.setCell ?_ ?_ _ | exact hqz | exact Nat.le_refl _ | omega | (simp; done) | (simp; omega))) lu).trans yu, (Below.cell (p := ⟨wv.heap.size, 0, none⟩) (by repeat' (first | exact hq | refine Below.drew ?_ | refine below_drewN ?_ _ | refine Below.alloc ?_ ?_ _ | refine Below.setCell ?_ ?_ _ | exact hqz | exact Nat.le_refl _ | omega | (simp; done) | (simp; omega))) lv).trans xv, (Below.cell (p := ⟨wv.heap.size, 1, none⟩) (by repeat' (first | exact hq | refine Below.drew ?_ | refine below_drewN ?_ _ | refine Below.alloc ?_ ?_ _ | refine Below.setCell ?_ ?_ _ | exact hqz | exact Nat.le_refl _ | omega | (simp; done) | (simp; omega))) lv).trans yv⟩ | fail)
    (first
      | (go_at_call 20; (with_reducible refine (Q1.out _ _ (by repeat' (first | exact hq | refine Below.drew ?_ | refine below_drewN ?_ _ | refine Below.alloc ?_ ?_ _ | refine Below.setCell ?_ ?_ _ | exact hqz | exact Nat.le_refl _ | omega | (simp; done) | (simp; omega))) (by first | exact heap_alloc_new _ _ | exact new_drew _ _ | exact new_past _ _ _ | exact new_pastd _ _ _ | exact new_pastd2 _ _ _ | exact new_pastd3 _ _ _ | exact new_on _ _ _ | exact new_ond _ _ _ | exact new_ond2 _ _ _ | exact new_ond3 _ _ _)).mono ?_); rintro e wa ⟨ai, ni, ci, bi, mi, di, rfl, hav, hq, hr⟩; have hqz := hq.size)
      | (go_at_call 14; (with_reducible refine (Q2.out _ _ _ _ _ _ _ (by repeat' (first | exact hq | refine Below.drew ?_ | refine below_drewN ?_ _ | refine Below.alloc ?_ ?_ _ | refine Below.setCell ?_ ?_ _ | exact hqz | exact Nat.le_refl _ | omega | (simp; done) | (simp; omega))) (by first | exact hav | exact hav.on (by repeat' (first | exact Below.refl _ _ | refine Below.drew ?_ | refine below_drewN ?_ _ | refine Below.alloc ?_ ?_ _ | exact Nat.le_refl _ | (simp; done) | (simp; omega))))).mono ?_); rintro e wb ⟨rfl, hq⟩; have hqz := hq.size)
      | (go_at_call 20; (with_reducible refine (Q3.out _ _ (by repeat' (first | exact hq | refine Below.drew ?_ | refine below_drewN ?_ _ | refine Below.alloc ?_ ?_ _ | refine Below.setCell ?_ ?_ _ | exact hqz | exact Nat.le_refl _ | omega | (simp; done) | (simp; omega))) (by first | exact heap_alloc_new _ _ | exact new_drew _ _ | exact new_past _ _ _ | exact new_pastd _ _ _ | exact new_pastd2 _ _ _ | exact new_pastd3 _ _ _ | exact new_on _ _ _ | exact new_ond _ _ _ | exact new_ond2 _ _ _ | exact new_ond3 _ _ _)).mono ?_); rintro e wa ⟨ai, ni, ci, bi, mi, di, rfl, hbv, hq, hr⟩; have hqz := hq.size)
      | (go_at_call 14; (with_reducible refine (Q4.out _ _ _ _ _ _ _ (by repeat' (first | exact hq | refine Below.drew ?_ | refine below_drewN ?_ _ | refine Below.alloc ?_ ?_ _ | refine Below.setCell ?_ ?_ _ | exact hqz | exact Nat.le_refl _ | omega | (simp; done) | (simp; omega))) (by first | exact hbv | exact hbv.on (by repeat' (first | exact Below.refl _ _ | refine Below.drew ?_ | refine below_drewN ?_ _ | refine Below.alloc ?_ ?_ _ | exact Nat.le_refl _ | (simp; done) | (simp; omega))))).mono ?_); rintro e wb ⟨rfl, hq⟩; have hqz := hq.size)
      | fail)
  all_goals
    go_wp2_with fail
    go_ret
    exact ⟨rfl, HB.out.trans (Below.mono (by repeat' (first | exact hq | refine Below.drew ?_ | refine below_drewN ?_ _ | refine Below.alloc ?_ ?_ _ | refine Below.setCell ?_ ?_ _ | exact hqz | exact Nat.le_refl _ | omega | (simp; done) | (simp; omega))) HB.out.size)⟩
theorem Av.ntt {W : World} {a b : Option Addr} {n c m d : Nat} {o : Option Ar} (h : Av W a n c b m d (TS o).1 (TS o).2 o) : n ≤ 1000000 := by
  cases o with
  | none => have := h.v.s.1; simp [TS] at this; omega
  | some q => have := h.n3; omega
theorem lw_two {a1 b1 a2 b2 : Option Addr} {n1 c1 m1 d1 n2 c2 m2 d2 : Nat} {l1 l2 : List Int} {es1 es2 : List ByteArray} {o1 o2 : Option Ar} (W : World) (h1 : Av W a1 n1 c1 b1 m1 d1 l1 es1 o1) (h2 : Av W a2 n2 c2 b2 m2 d2 l2 es2 o2) :
    Lv (fun w => Bx w (W.heap.size + 1) a2 n2 c2 b2 m2 d2 ∧ Av w a2 n2 c2 b2 m2 d2 l2 es2 o2 ∧ Bx w W.heap.size a1 n1 c1 b1 m1 d1 ∧ Av w a1 n1 c1 b1 m1 d1 l1 es1 o1 ∧ Below W.heap.size W w)
      ((W.alloc (.cells #[.slice a1 n1 c1, .slice b1 m1 d1] 25)).alloc (.cells #[.slice a2 n2 c2, .slice b2 m2 d2] 25)) := by
  have k2 := lw_box (lw_one W h1) (h2.on ((Below.refl _ _).alloc (Nat.le_refl _) (.cells #[.slice a1 n1 c1, .slice b1 m1 d1] 25)))
  simp only [World.size_alloc] at k2
  exact k2
theorem lw_three {a1 b1 a2 b2 a3 b3 : Option Addr} {n1 c1 m1 d1 n2 c2 m2 d2 n3 c3 m3 d3 : Nat} {l1 l2 l3 : List Int} {es1 es2 es3 : List ByteArray} {o1 o2 o3 : Option Ar} (W : World) (h1 : Av W a1 n1 c1 b1 m1 d1 l1 es1 o1) (h2 : Av W a2 n2 c2 b2 m2 d2 l2 es2 o2) (h3 : Av W a3 n3 c3 b3 m3 d3 l3 es3 o3) :
    Lv (fun w => Bx w (W.heap.size + 1 + 1) a3 n3 c3 b3 m3 d3 ∧ Av w a3 n3 c3 b3 m3 d3 l3 es3 o3 ∧ Bx w (W.heap.size + 1) a2 n2 c2 b2 m2 d2 ∧ Av w a2 n2 c2 b2 m2 d2 l2 es2 o2 ∧ Bx w W.heap.size a1 n1 c1 b1 m1 d1 ∧ Av w a1 n1 c1 b1 m1 d1 l1 es1 o1 ∧ Below W.heap.size W w)
      (((W.alloc (.cells #[.slice a1 n1 c1, .slice b1 m1 d1] 25)).alloc (.cells #[.slice a2 n2 c2, .slice b2 m2 d2] 25)).alloc (.cells #[.slice a3 n3 c3, .slice b3 m3 d3] 25)) := by
  have hb : Below W.heap.size W ((W.alloc (.cells #[.slice a1 n1 c1, .slice b1 m1 d1] 25)).alloc (.cells #[.slice a2 n2 c2, .slice b2 m2 d2] 25)) := ((Below.refl _ _).alloc (Nat.le_refl _) _).alloc (by simp) _
  have k2 := lw_box (lw_two W h1 h2) (h3.on hb)
  simp only [World.size_alloc] at k2
  exact k2
end Go.Proofs.YtpledghphljfkaaDoor

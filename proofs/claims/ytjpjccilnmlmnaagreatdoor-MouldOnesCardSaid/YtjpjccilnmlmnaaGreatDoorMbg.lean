import Derived.Test.YtjpjccilnmlmnaaGreatDoorMbf
/-
  The statements' own example.
-/
namespace Go.Proofs.YtjpjccilnmlmnaaGreatDoor
set_option linter.unusedVariables false
set_option linter.unusedSimpArgs false
open Go.RowKit

theorem two_i64 : ∀ j, j < 2 → I64 (([2, 3] : List Int).getD j 0) := by
  intro j hj
  have h : j = 0 ∨ j = 1 := by omega
  rcases h with rfl | rfl <;> (unfold I64; simp)
set_option maxRecDepth 100000 in
set_option maxHeartbeats 6400000 in
theorem mshown_is (W : World) (hW : WT W) : Calls Tryz.prog 5 #[] W (TrueEnd W) := by
  have h : Lv (fun w => Below W.heap.size W w) W := ⟨Below.refl _ _⟩
  have KW := Lib.hid (fun w (hb : Below W.heap.size W w) => hW.below hb)
  have KS := Lib.hid (fun w => (show Calls Tryz.prog 28 #[.string ⟨#[54]⟩] w (PtEnd [] ([6].map S) w) from by rw [show [6].map S = [⟨#[54]⟩] by simp [S_6m]]; exact Scalar_pt ⟨#[54]⟩ w))
  have R6 : Rok (some ([], [6])) := sc_rok (small_rok (by decide))
  have R2 : Rok (some ([2], [2, 3])) := vec_rok (t := 2) (by omega) rfl (fun x hx => small_rok (by simp at hx; omega))
  clear hW
  go_enter Tryz.func5, Tryz.ntmps5
  go_wp2_with fail
  refine (lw_P h (⟨KS.out W, R6⟩)).mono ?_
  clear h
  rintro e w ⟨ae, ne, ce, be, me, de, rfl, h⟩
  have HI := MIota_is h.out.1 (KW.out _ h.out.2)
  rw [sh_1] at HI
  go_wp2_with fail
  refine (lw_M h (HI)).mono ?_
  clear h
  rintro e w ⟨al, nl, cl, bl, ml, dl, rfl, h⟩
  go_upto_region 2 with fail
  generalize hwz : w.alloc (.cells #[.slice al nl cl, .slice bl ml dl] 25) = wz at *
  have ul := h.out.1.c0
  have vl := h.out.1.c1
  have ll := h.out.1.lt
  have hq : Below wz.heap.size wz wz := Below.refl _ _
  have hqz := hq.size
  have Q1 : Hid (∀ z g, Below wz.heap.size wz z → z.heap[g]? = some (.cells #[.int .i64 2, .int .i64 3] 3 (0, 0)) → Calls Tryz.prog 29 #[.slice (some ⟨g, 0, none⟩) 2 2] z fun e w' => ∃ a n c b m d, e = .returned (.agg #[.slice a n c, .slice b m d]) ∧ Av w' a n c b m d [2] ([2, 3].map S) (some ([2], [2, 3])) ∧ Below wz.heap.size wz w' ∧ Below z.heap.size z w') := Lib.hid (fun z g hz hg => (Ints_pt (some ⟨g, 0, none⟩) 2 2 [2, 3] z (Sl.two hg) two_i64 (by omega) (KW.out z (h.out.2.2.2.trans (hz.mono h.out.2.2.2.size)))).mono fun e w' (h : PtEnd _ _ _ _ _) => by
    obtain ⟨a, n, c, b, m, d, h1, h2, h3, h4⟩ := h
    exact ⟨a, n, c, b, m, d, h1, Av.pt (q := ([2], [2, 3])) h2 h3 R2, hz.trans (h4.mono hz.size), h4⟩)
  have Q2 : Hid (∀ z a0 n0 c0 b0 m0 d0, Below wz.heap.size wz z → Av z a0 n0 c0 b0 m0 d0 [2] ([2, 3].map S) (some ([2], [2, 3])) → Calls Tryz.prog 20 #[.agg #[.slice a0 n0 c0, .slice b0 m0 d0], .agg #[.slice al nl cl, .slice bl ml dl]] z fun e w' => ∃ a n c b m d, e = .returned (.tuple #[.agg #[.slice a n c, .slice b m d], .int .i64 0]) ∧ Av w' a n c b m d (TS (some ([2, 3], [0, 1, 2, 3, 4, 5]))).1 (TS (some ([2, 3], [0, 1, 2, 3, 4, 5]))).2 (some ([2, 3], [0, 1, 2, 3, 4, 5])) ∧ Below wz.heap.size wz w' ∧ Below z.heap.size z w') := Lib.hid (fun z a0 n0 c0 b0 m0 d0 hz hv => by
    have k := MReshape_is hv (h.out.2.1.below hz) (KW.out z (h.out.2.2.2.trans (hz.mono h.out.2.2.2.size)))
    rw [sh_2] at k
    refine k.mono fun e w' h => ?_
    obtain ⟨a, n, c, b, m, d, h1, h2, h3⟩ := h
    exact ⟨a, n, c, b, m, d, h1, h2, hz.trans (h3.mono hz.size), h3⟩)
  go_cut [3, 4] (fun p q wx => MCut (some ([2, 3], [0, 1, 2, 3, 4, 5])) 0 wz p q wx)
  case first =>
    clear h hwz
    go_region_held3 (fun w' => w'.cell? ⟨w.heap.size, 0, none⟩ = some (.slice al nl cl) ∧ w'.cell? ⟨w.heap.size, 1, none⟩ = some (.slice bl ml dl))
      (first | exact ⟨(Below.cell (p := ⟨w.heap.size, 0, none⟩) (by repeat' (first | exact hq | refine Below.drew ?_ | refine below_drewN ?_ _ | refine Below.alloc ?_ ?_ _ | refine Below.setCell ?_ ?_ _ | exact hqz | exact Nat.le_refl _ | omega | (simp; done) | (simp; omega))) ll).trans ul, (Below.cell (p := ⟨w.heap.size, 1, none⟩) (by repeat' (first | exact hq | refine Below.drew ?_ | refine below_drewN ?_ _ | refine Below.alloc ?_ ?_ _ | refine Below.setCell ?_ ?_ _ | exact hqz | exact Nat.le_refl _ | omega | (simp; done) | (simp; omega))) ll).trans vl⟩ | fail)
      (first
        | (go_at_call 29; (with_reducible refine (Q1.out _ _ (by repeat' (first | exact hq | refine Below.drew ?_ | refine below_drewN ?_ _ | refine Below.alloc ?_ ?_ _ | refine Below.setCell ?_ ?_ _ | exact hqz | exact Nat.le_refl _ | omega | (simp; done) | (simp; omega))) (by first | exact heap_alloc_new _ _ | exact new_drew _ _ | exact new_past _ _ _ | exact new_pastd _ _ _ | exact new_pastd2 _ _ _ | exact new_pastd3 _ _ _ | exact new_on _ _ _ | exact new_ond _ _ _ | exact new_ond2 _ _ _ | exact new_ond3 _ _ _)).mono ?_); rintro e wa ⟨ai, ni, ci, bi, mi, di, rfl, hav, hq, hr⟩; have hqz := hq.size; (try (have hZ1 := Bx.on (by first | exact Bz.d _ _ | exact Bz.e _ _ | exact Bz.f _ _ | exact Bz.g _ _ | exact Bz.h _ _ | exact Bz.i _ _ | exact Bz.j _ _ | exact Bz.k _ _ | exact Bz.a _ | exact Bz.b _ | exact Bz.c _ | exact Bz.l _) hr; have y0 := hZ1.c0; have y1 := hZ1.c1; have g0 := hZ1.f 0; have g1 := hZ1.f 1)))
        | (go_at_call 20; (with_reducible refine (Q2.out _ _ _ _ _ _ _ (by repeat' (first | exact hq | refine Below.drew ?_ | refine below_drewN ?_ _ | refine Below.alloc ?_ ?_ _ | refine Below.setCell ?_ ?_ _ | exact hqz | exact Nat.le_refl _ | omega | (simp; done) | (simp; omega))) (hav.on (by repeat' (first | exact Below.refl _ _ | refine Below.drew ?_ | refine below_drewN ?_ _ | refine Below.alloc ?_ ?_ _ | exact Nat.le_refl _ | (simp; done) | (simp; omega))))).mono ?_); rintro e wb ⟨a', n', c', b', m', d', rfl, hv', hq, hr⟩; have hqz := hq.size; (try (have hZ2 := Bx.on (by first | exact Bz.d _ _ | exact Bz.e _ _ | exact Bz.f _ _ | exact Bz.g _ _ | exact Bz.h _ _ | exact Bz.i _ _ | exact Bz.j _ _ | exact Bz.k _ _ | exact Bz.a _ | exact Bz.b _ | exact Bz.c _ | exact Bz.l _) hr; have y0 := hZ2.c0; have y1 := hZ2.c1; have g0 := hZ2.f 0; have g1 := hZ2.f 1)); (try (have hZ2 := Bx.on hZ1 hr; have y0 := hZ2.c0; have y1 := hZ2.c1; have g0 := hZ2.f 0; have g1 := hZ2.f 1)); (try (have hZ2 := Bx.on (Bx.drewN hZ1 _) hr; have y0 := hZ2.c0; have y1 := hZ2.c1; have g0 := hZ2.f 0; have g1 := hZ2.f 1)))
        | fail)
    all_goals
      go_wp2_with fail
      go_meet
      case rel => with_reducible first | exact MCut.new hq hv' | (refine MCut.set hq hv' hZ2 ?_ <;> first | exact Nat.le_refl _ | exact hqz | omega | (simp; done) | (simp; omega))
  case rest =>
    clear hq hqz Q1 Q2 ul vl ll
    obtain ⟨gm, am, nm, cm, bm, mm, dm, rfl, rfl, hX, hA, hbc⟩ := hcut
    replace h := lw_cut h hX hA hbc
    clear hX hA hbc hwz
    have HF := MFlip_is h.out.2.1
    rw [sh_3] at HF
    have xm := h.out.1.c0
    have ym := h.out.1.c1
    go_wp2_with fail
    refine (lw_M h (HF)).mono ?_
    clear h xm ym
    rintro e w ⟨af, nf, cf, bf, mf, df, rfl, h⟩
    go_upto_region 4 with fail
    generalize hwf : w.alloc (.cells #[.slice af nf cf, .slice bf mf df] 25) = wf at *
    have xf := h.out.1.c0
    have yf := h.out.1.c1
    have hI := new_past wf (.cells #[.int .i64 3, .int .i64 2] 3) (.cells #[.string ⟨#[48]⟩, .string ⟨#[51]⟩, .string ⟨#[49]⟩, .string ⟨#[52]⟩, .string ⟨#[50]⟩, .string ⟨#[53]⟩] 9)
    have hS := new_on wf (.cells #[.string ⟨#[48]⟩, .string ⟨#[51]⟩, .string ⟨#[49]⟩, .string ⟨#[52]⟩, .string ⟨#[50]⟩, .string ⟨#[53]⟩] 9) (.cells #[.int .i64 3, .int .i64 2] 3)
    have hbl : Below wf.heap.size wf ((wf.alloc (.cells #[.int .i64 3, .int .i64 2] 3)).alloc (.cells #[.string ⟨#[48]⟩, .string ⟨#[51]⟩, .string ⟨#[49]⟩, .string ⟨#[52]⟩, .string ⟨#[50]⟩, .string ⟨#[53]⟩] 9)) := ((Below.refl _ _).alloc (Nat.le_refl _) _).alloc (by simp) _
    have KQ := Lib.hid (VSame_av (c1 := cf) (d1 := df) (c2 := 2) (d2 := 6) (h.out.2.1.v.below hbl) (⟨Sl.two hI, St.row (l := [⟨#[48]⟩, ⟨#[51]⟩, ⟨#[49]⟩, ⟨#[52]⟩, ⟨#[50]⟩, ⟨#[53]⟩]) hS, by omega⟩ : Vl _ (some ⟨wf.heap.size, 0, none⟩) 2 (some ⟨wf.heap.size + 1, 0, none⟩) 6 [3, 2] [⟨#[48]⟩, ⟨#[51]⟩, ⟨#[49]⟩, ⟨#[52]⟩, ⟨#[50]⟩, ⟨#[53]⟩]) (by have := h.out.2.1.n3; omega) (by omega) rfl (by
      show [0, 3, 1, 4, 2, 5].map S = _
      simp only [List.map, S_0m, S_1m, S_2m, S_3m, S_4m, S_5m]))
    have hB := Lib.hid (h.out.2.2.2.2.2.2.2.trans (hbl.mono h.out.2.2.2.2.2.2.2.size))
    clear hI hS hbl h hwf
    go_wp2_with fail
    with_reducible refine KQ.out.mono ?_
    rintro e wq ⟨rfl, hq⟩
    clear xf yf
    go_wp2_with fail
    go_ret
    exact ⟨rfl, hB.out.trans (hq.mono hB.out.size)⟩
end Go.Proofs.YtjpjccilnmlmnaaGreatDoor

import Derived.Test.YtjpjccilnmlmnaaDoorMbi
/-
  MouldIota at every number.
-/
namespace Go.Proofs.YtjpjccilnmlmnaaDoor
set_option linter.unusedVariables false
set_option linter.unusedSimpArgs false
open Go.RowKit

theorem io_of {t : Nat} (h : t ≤ 4096) : ioM (some ([], [(t : Int)])) = (some ([(t : Int)], upM t), 0) := by
  simp only [ioM, inM_num (nearM_yes.2 (show -1099511627776 ≤ (t : Int) ∧ (t : Int) ≤ 1099511627776 by omega))]
  rw [if_neg (by simp), if_neg (by omega), if_neg (by omega), Int.toNat_natCast]
theorem io_over {t : Nat} (h : 4096 < t) (h2 : t ≤ 65535) : ioM (some ([], [(t : Int)])) = (none, 8) := by
  simp only [ioM, inM_num (nearM_yes.2 (show -1099511627776 ≤ (t : Int) ∧ (t : Int) ≤ 1099511627776 by omega))]
  rw [if_neg (by simp), if_neg (by omega), if_pos (by omega)]
set_option maxRecDepth 100000 in
set_option maxHeartbeats 6400000 in
theorem mi_big {k : Int} {t : Nat} (W : World) (hW : WT W) (hk : 0 ≤ k) (hk2 : k ≤ 65535) (ht : k % 5000 = (t : Int)) (ht2 : k.tmod 5000 = (t : Int)) (ht5 : t ≤ 5000) (h4 : 4096 < t) :
    Calls Tryd.prog 5 #[.int .u16 k] W (TrueEnd W) := by
  have KW := Lib.hid (fun w (hb : Below W.heap.size W w) => hW.below hb)
  have KS := Lib.hid (fun w (hb : Below W.heap.size W w) => mshown_is w (hW.below hb))
  have hwk : wrap64 k = k := w64 (by omega) (by omega)
  have KO := Lib.hid (fun w (hb : Below W.heap.size W w) => Of_any (t : Int) (by omega) (by omega) w (hW.below hb).tab)
  have KC := Lib.hid (fun w => (show Calls Tryd.prog 12 #[.string (S (t : Int))] w (PtEnd [] ([(t : Int)].map S) w) from Scalar_pt (S (t : Int)) w))
  have RS : Rok (some ([], [(t : Int)])) := sc_rok (small_rok (by omega))
  have E1 := Lib.hid (io_over h4 (by omega))
  have h5 : (4096 : Int) < (t : Int) := by omega
  have h : Lv (fun w => Below W.heap.size W w) W := ⟨Below.refl _ _⟩
  clear hW h4
  go_enter Tryd.func5, Tryd.ntmps5
  go_wp2_with fail
  with_reducible refine (lw h (KS.out _ h.out)).mono ?_
  clear h
  rintro e w ⟨rfl, h⟩
  go_wp2_with fail
  with_reducible refine (lw h (KO.out _ h.out)).mono ?_
  clear h
  rintro e w ⟨rfl, h⟩
  go_wp2_with fail
  with_reducible refine (lw_P h (⟨KC.out _, RS⟩)).mono ?_
  clear h
  rintro e w ⟨ae, ne, ce, be, me, de, rfl, h⟩
  go_wp2_with fail
  have HX := MIota_is h.out.1 (KW.out _ h.out.2)
  rw [E1.out] at HX
  with_reducible refine (lw_M h HX).mono ?_
  clear h HX
  rintro e wv ⟨av, nv, cv, bv, mv, dv, rfl, h⟩
  have xv := h.out.1.c0
  have yv := h.out.1.c1
  go_wp2_with fail
  with_reducible refine (lw h (VSame_av h.out.2.1.v (Vl.none_ _) h.out.2.1.nts (by omega) rfl rfl)).mono ?_
  clear h xv yv
  rintro e w ⟨rfl, h⟩
  go_wp2_with fail
  go_ret
  exact ⟨rfl, h.out.2.2.2⟩
set_option maxRecDepth 100000 in
set_option maxHeartbeats 6400000 in
theorem mi_ok {k : Int} {t : Nat} (W : World) (hW : WT W) (hk : 0 ≤ k) (hk2 : k ≤ 65535) (ht : k % 5000 = (t : Int)) (ht2 : k.tmod 5000 = (t : Int)) (ht5 : t ≤ 5000) (h4 : t ≤ 4096) :
    Calls Tryd.prog 5 #[.int .u16 k] W (TrueEnd W) := by
  have KW := Lib.hid (fun w (hb : Below W.heap.size W w) => hW.below hb)
  have KS := Lib.hid (fun w (hb : Below W.heap.size W w) => mshown_is w (hW.below hb))
  have hwk : wrap64 k = k := w64 (by omega) (by omega)
  have KO := Lib.hid (fun w (hb : Below W.heap.size W w) => Of_any (t : Int) (by omega) (by omega) w (hW.below hb).tab)
  have KC := Lib.hid (fun w => (show Calls Tryd.prog 12 #[.string (S (t : Int))] w (PtEnd [] ([(t : Int)].map S) w) from Scalar_pt (S (t : Int)) w))
  have RS : Rok (some ([], [(t : Int)])) := sc_rok (small_rok (by omega))
  have E1 := Lib.hid (io_of h4)
  have E2 := Lib.hid (up_rev t)
  have h5 : ¬ ((4096 : Int) < (t : Int)) := by omega
  have h : Lv (fun w => Below W.heap.size W w) W := ⟨Below.refl _ _⟩
  clear hW
  go_enter Tryd.func5, Tryd.ntmps5
  go_wp2_with fail
  with_reducible refine (lw h (KS.out _ h.out)).mono ?_
  clear h
  rintro e w ⟨rfl, h⟩
  go_wp2_with fail
  with_reducible refine (lw h (KO.out _ h.out)).mono ?_
  clear h
  rintro e w ⟨rfl, h⟩
  go_wp2_with fail
  with_reducible refine (lw_P h (⟨KC.out _, RS⟩)).mono ?_
  clear h
  rintro e w ⟨ae, ne, ce, be, me, de, rfl, h⟩
  go_wp2_with fail
  have HX := MIota_is h.out.1 (KW.out _ h.out.2)
  rw [E1.out] at HX
  with_reducible refine (lw_M h HX).mono ?_
  clear h HX
  rintro e wv ⟨av, nv, cv, bv, mv, dv, rfl, h⟩
  have xv := h.out.1.c0
  have yv := h.out.1.c1
  go_wp2_with fail
  have HX := MReverse_is h.out.2.1
  rw [show reM (some ([(t : Int)], upM t)) = (some ([(t : Int)], (List.range t).map fun i : Nat => ((t - 1 - i : Nat) : Int)), 0) by show (some ([(t : Int)], rvM [(t : Int)] (upM t)), (0 : Int)) = _; rw [E2.out]] at HX
  with_reducible refine (lw_M h HX).mono ?_
  clear h HX xv yv
  rintro e wf ⟨af, nf, cf, bf, mf, df, rfl, h⟩
  go_upto_region 7 with fail
  generalize hwz : wf.alloc (.cells #[.slice af nf cf, .slice bf mf df] 25) = wz at *
  obtain rfl : mv = t := h.out.2.2.2.1.mlen.1.trans (up_len t)
  obtain rfl : mf = mv := h.out.2.1.mlen.1.trans (by simp)
  obtain rfl : nv = 1 := h.out.2.2.2.1.v.s.1.symm.trans rfl
  have xv := h.out.2.2.1.c0
  have yv := h.out.2.2.1.c1
  have xr := h.out.1.c0
  have yr := h.out.1.c1
  have lv := h.out.2.2.1.lt
  have lr := h.out.1.lt
  have HT := Lib.hid (And.intro h.out.2.2.2.1.v.t h.out.2.1.v.t)
  have HS := Lib.hid h.out.2.2.2.1.v.s
  have HB := Lib.hid (h.out.2.2.2.2.2)
  clear h hwz KS KO KC E1 E2 RS
  go_wp2_with fail
  go_loopw [9] (fun i wr => ∃ k : Nat, i = .int .i64 k ∧ k ≤ mf ∧ Below wz.heap.size wz wr) (fun i _ => mf - (intOf i).toNat)
  case atStart => exact ⟨0, rfl, by omega, Below.refl _ _⟩
  case round =>
    obtain ⟨i, rfl, hi, hq⟩ := hrel
    by_cases hlt : i < mf
    · have e2 : (i : Int) < (mf : Int) := by omega
      have e0 : (0 : Int) ≤ (i : Int) := by omega
      obtain ⟨u, hu⟩ : ∃ u, u = mf - 1 - i := ⟨_, rfl⟩
      obtain ⟨t1, ht1⟩ : ∃ t1, t1 = mf - 1 := ⟨_, rfl⟩
      have hw1 : IntKind.i64.wrap ((mf : Int) - 1) = (t1 : Int) := by rw [show (mf : Int) - 1 = (t1 : Int) by omega]; exact IntWalk.i64_in _ (by omega)
      have hw2 : IntKind.i64.wrap ((t1 : Int) - (i : Int)) = (u : Int) := by rw [show (t1 : Int) - (i : Int) = (u : Int) by omega]; exact IntWalk.i64_in _ (by omega)
      obtain ⟨bb, off, rfl, hc⟩ := HT.out.1.2 (by omega)
      obtain ⟨bb2, off2, rfl, hc2⟩ := HT.out.2.2 (by omega)
      have hck := hc i hlt
      have hck2 := hc2 i hlt
      rw [show (TS (some ([(mf : Int)], upM mf))).2.getD i ByteArray.empty = S (i : Int) by
        show ((upM mf).map S).getD i ByteArray.empty = _
        rw [map_getD _ (by rw [up_len]; exact hlt), up_at hlt]] at hck
      rw [show (TS (some ([(mf : Int)], (List.range mf).map fun i : Nat => ((mf - 1 - i : Nat) : Int)))).2.getD i ByteArray.empty = S (u : Int) by
        show (((List.range mf).map fun i : Nat => ((mf - 1 - i : Nat) : Int)).map S).getD i ByteArray.empty = _
        rw [map_getD _ (by simpa using hlt), hu]
        simp [List.getD_eq_getElem?_getD, List.getElem?_range hlt]] at hck2
      have lc := World.block_lt_of_cell? wz _ hck
      have lc2 := World.block_lt_of_cell? wz _ hck2
      have T1 := Lib.hid (fun z (hz : Below wz.heap.size wz z) => (Of_any (i : Int) (by omega) (by omega) z (KW.out z (HB.out.trans (hz.mono HB.out.size))).tab).mono fun e w' (h : _ ∧ _) => (⟨h.1, hz.trans (h.2.mono hz.size)⟩ : e = .returned (.string (S (i : Int))) ∧ Below wz.heap.size wz w'))
      have T2 := Lib.hid (fun z (hz : Below wz.heap.size wz z) => (Of_any (u : Int) (by omega) (by omega) z (KW.out z (HB.out.trans (hz.mono HB.out.size))).tab).mono fun e w' (h : _ ∧ _) => (⟨h.1, hz.trans (h.2.mono hz.size)⟩ : e = .returned (.string (S (u : Int))) ∧ Below wz.heap.size wz w'))
      have hqz := hq.size
      generalize S (i : Int) = si at T1 hck
      generalize S (u : Int) = su at T2 hck2
      clear hc hc2 hu ht1 HT
      go_upto_region 12 with fail
      go_region_held3 (fun w' => w'.cell? ⟨wv.heap.size, 1, none⟩ = some (.slice (some ⟨bb, off, none⟩) mf dv) ∧ w'.cell? ⟨wf.heap.size, 1, none⟩ = some (.slice (some ⟨bb2, off2, none⟩) mf df) ∧ w'.cell? ⟨bb, off + i, none⟩ = some (.string si) ∧ w'.cell? ⟨bb2, off2 + i, none⟩ = some (.string su))
        (first | exact ⟨(Below.cell (p := ⟨wv.heap.size, 1, none⟩) (by repeat' (first | exact hq | refine Below.drew ?_ | refine below_drewN ?_ _ | refine Below.alloc ?_ ?_ _ | refine Below.setCell ?_ ?_ _ | exact hqz | exact Nat.le_refl _ | omega | (simp; done) | (simp; omega))) lv).trans yv, (Below.cell (p := ⟨wf.heap.size, 1, none⟩) (by repeat' (first | exact hq | refine Below.drew ?_ | refine below_drewN ?_ _ | refine Below.alloc ?_ ?_ _ | refine Below.setCell ?_ ?_ _ | exact hqz | exact Nat.le_refl _ | omega | (simp; done) | (simp; omega))) lr).trans yr, (Below.cell (p := ⟨bb, off + i, none⟩) (by repeat' (first | exact hq | refine Below.drew ?_ | refine below_drewN ?_ _ | refine Below.alloc ?_ ?_ _ | refine Below.setCell ?_ ?_ _ | exact hqz | exact Nat.le_refl _ | omega | (simp; done) | (simp; omega))) lc).trans hck, (Below.cell (p := ⟨bb2, off2 + i, none⟩) (by repeat' (first | exact hq | refine Below.drew ?_ | refine below_drewN ?_ _ | refine Below.alloc ?_ ?_ _ | refine Below.setCell ?_ ?_ _ | exact hqz | exact Nat.le_refl _ | omega | (simp; done) | (simp; omega))) lc2).trans hck2⟩ | fail)
        (first
          | (go_at_call 13; (with_reducible refine (T1.out _ (by repeat' (first | exact hq | refine Below.drew ?_ | refine below_drewN ?_ _ | refine Below.alloc ?_ ?_ _ | refine Below.setCell ?_ ?_ _ | exact hqz | exact Nat.le_refl _ | omega | (simp; done) | (simp; omega)))).mono ?_); rintro e wt ⟨rfl, hq⟩; have hqz := hq.size)
          | (go_at_call 13; (with_reducible refine (T2.out _ (by repeat' (first | exact hq | refine Below.drew ?_ | refine below_drewN ?_ _ | refine Below.alloc ?_ ?_ _ | refine Below.setCell ?_ ?_ _ | exact hqz | exact Nat.le_refl _ | omega | (simp; done) | (simp; omega)))).mono ?_); rintro e wt ⟨rfl, hq⟩; have hqz := hq.size)
          | fail)
      go_wp2_with fail
      go_roundw
      case rel => exact ⟨i + 1, by go_num, by omega, hq⟩
      case measure => simp [intOf]; omega
    · have e2 : ¬ (i : Int) < (mf : Int) := by omega
      have xq := (hq.cell (p := ⟨wv.heap.size, 0, none⟩) lv).trans xv
      obtain ⟨bs, os, rfl, hc⟩ := HS.out.2 (by omega)
      have hcs := hc 0 (by omega)
      rw [Nat.add_zero] at hcs
      have hcs2 : wr.cell? ⟨bs, os, none⟩ = some (.int .i64 (mf : Int)) := (hq.cell (p := ⟨bs, os, none⟩) (World.block_lt_of_cell? wz _ hcs)).trans hcs
      have hbe := HB.out.trans (hq.mono HB.out.size)
      clear hc hcs hq xv yv xr yr lv lr HB HS HT KW
      go_wp2_with fail
      go_ret
      exact ⟨rfl, hbe⟩
theorem mi_any (k : Int) (hk : 0 ≤ k) (hk2 : k ≤ 65535) (W : World) (hW : WT W) : Calls Tryd.prog 5 #[.int .u16 k] W (TrueEnd W) := by
  obtain ⟨t, ht⟩ : ∃ t : Nat, k % 5000 = (t : Int) := ⟨(k % 5000).toNat, by omega⟩
  have ht2 : k.tmod 5000 = (t : Int) := by rw [Int.tmod_eq_emod_of_nonneg hk]; exact ht
  by_cases h4 : t ≤ 4096
  · exact mi_ok W hW hk hk2 ht ht2 (by omega) h4
  · exact mi_big W hW hk hk2 ht ht2 (by omega) (by omega)
end Go.Proofs.YtjpjccilnmlmnaaDoor

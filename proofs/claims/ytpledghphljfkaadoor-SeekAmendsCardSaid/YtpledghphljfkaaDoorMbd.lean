import Derived.Test.YtpledghphljfkaaDoorMbc
/-
  SeekAmends at every three arrays.
-/
namespace Go.Proofs.YtpledghphljfkaaDoor
set_option linter.unusedVariables false
set_option linter.unusedSimpArgs false
open Go.RowKit

theorem am_none {o p u x : Option Ar} {e : Int} (h : amK o p u = (x, e)) (he : e ≠ 0) : x = none := by
  cases o with
  | none => rw [show amK none p u = (none, 1) by cases p <;> cases u <;> rfl] at h; cases h; rfl
  | some q =>
  cases p with
  | none => rw [am_1] at h; cases h; rfl
  | some t =>
  cases u with
  | none => rw [am_2] at h; cases h; rfl
  | some r =>
    unfold amK at h
    dsimp only at h
    split at h
    · cases h; rfl
    · split at h
      · cases h; rfl
      · split at h
        · cases h; rfl
        · split at h
          · cases h; rfl
          · cases h; exact absurd rfl he
theorem am_some {o p u x : Option Ar} (h : amK o p u = (x, 0)) : ∃ q t r : Ar, o = some q ∧ p = some t ∧ u = some r ∧ q.1.length = 1 ∧ plE t (q.2.length : Int) = 0 ∧ (r.1 = [] ∨ t.1 = r.1) ∧ x = some (q.1, amS q.2 (natL t.2) (wsL r t.2.length)) := by
  cases o with
  | none => rw [show amK none p u = (none, 1) by cases p <;> cases u <;> rfl] at h; cases h
  | some q =>
  cases p with
  | none => rw [am_1] at h; cases h
  | some t =>
  cases u with
  | none => rw [am_2] at h; cases h
  | some r =>
    unfold amK at h
    dsimp only at h
    split at h
    · cases h
    · rename_i h1
      split at h
      · cases h
      · split at h
        · rename_i hz
          simp only [Prod.mk.injEq] at h
          exact absurd h.2 hz
        · rename_i h3
          split at h
          · cases h
          · rename_i h4
            cases h
            refine ⟨q, t, r, rfl, rfl, rfl, by omega, by omega, ?_, rfl⟩
            by_cases hr : r.1 = []
            · exact .inl hr
            · by_cases ht : t.1 = r.1
              · exact .inr ht
              · exact absurd ⟨hr, ht⟩ h4
set_option maxRecDepth 100000 in
set_option maxHeartbeats 6400000 in
theorem samends_few1 {a1 b1 a2 b2 a3 b3 : Option Addr} {n1 c1 m1 d1 n2 c2 m2 d2 n3 c3 m3 d3 : Nat} {l m k : List Int} {es fs gs : List ByteArray} {o p u : Option Ar} (W : World) (hW : WT W) (h1 : Av W a1 n1 c1 b1 m1 d1 l es o) (h2 : Av W a2 n2 c2 b2 m2 d2 m fs p) (h3 : Av W a3 n3 c3 b3 m3 d3 k gs u) (hf1 : fewB l es = false) :
    Calls Tryd.prog 5 #[.agg #[.slice a1 n1 c1, .slice b1 m1 d1], .agg #[.slice a2 n2 c2, .slice b2 m2 d2], .agg #[.slice a3 n3 c3, .slice b3 m3 d3]] W (TrueEnd W) := by
  have KS := Lib.hid (fun w (hb : Below W.heap.size W w) => kshown_is w (hW.below hb))
  have KF1 := fun w (hb : Below W.heap.size W w) => Few_is (c := c1) (d := d1) w (h1.v.below hb) h1.z
  rw [hf1] at KF1
  replace KF1 := Lib.hid KF1
  have h := lw_three W h1 h2 h3
  clear hW h1 h2 h3 hf1
  go_enter Tryd.func5, Tryd.ntmps5
  go_wp2_with fail
  with_reducible refine (lw h (KS.out _ h.out.2.2.2.2.2.2)).mono ?_
  clear h
  rintro e w ⟨rfl, h⟩
  have xv := h.out.2.2.2.2.1.c0
  have yv := h.out.2.2.2.2.1.c1
  go_wp2_with fail
  with_reducible refine (lw h (KF1.out _ h.out.2.2.2.2.2.2)).mono ?_
  clear h xv yv
  rintro e w ⟨rfl, h⟩
  go_wp2_with fail
  go_ret
  exact ⟨rfl, h.out.2.2.2.2.2.2⟩
set_option maxRecDepth 100000 in
set_option maxHeartbeats 6400000 in
theorem samends_few2 {a1 b1 a2 b2 a3 b3 : Option Addr} {n1 c1 m1 d1 n2 c2 m2 d2 n3 c3 m3 d3 : Nat} {l m k : List Int} {es fs gs : List ByteArray} {o p u : Option Ar} (W : World) (hW : WT W) (h1 : Av W a1 n1 c1 b1 m1 d1 l es o) (h2 : Av W a2 n2 c2 b2 m2 d2 m fs p) (h3 : Av W a3 n3 c3 b3 m3 d3 k gs u) (hf1 : fewB l es = true) (hf2 : fewB m fs = false) :
    Calls Tryd.prog 5 #[.agg #[.slice a1 n1 c1, .slice b1 m1 d1], .agg #[.slice a2 n2 c2, .slice b2 m2 d2], .agg #[.slice a3 n3 c3, .slice b3 m3 d3]] W (TrueEnd W) := by
  have KS := Lib.hid (fun w (hb : Below W.heap.size W w) => kshown_is w (hW.below hb))
  have KF1 := fun w (hb : Below W.heap.size W w) => Few_is (c := c1) (d := d1) w (h1.v.below hb) h1.z
  rw [hf1] at KF1
  replace KF1 := Lib.hid KF1
  have KF2 := fun w (hb : Below W.heap.size W w) => Few_is (c := c2) (d := d2) w (h2.v.below hb) h2.z
  rw [hf2] at KF2
  replace KF2 := Lib.hid KF2
  have h := lw_three W h1 h2 h3
  clear hW h1 h2 h3 hf1 hf2
  go_enter Tryd.func5, Tryd.ntmps5
  go_wp2_with fail
  with_reducible refine (lw h (KS.out _ h.out.2.2.2.2.2.2)).mono ?_
  clear h
  rintro e w ⟨rfl, h⟩
  have xv := h.out.2.2.2.2.1.c0
  have yv := h.out.2.2.2.2.1.c1
  go_wp2_with fail
  with_reducible refine (lw h (KF1.out _ h.out.2.2.2.2.2.2)).mono ?_
  clear h xv yv
  rintro e w ⟨rfl, h⟩
  have xw := h.out.2.2.1.c0
  have yw := h.out.2.2.1.c1
  go_wp2_with fail
  with_reducible refine (lw h (KF2.out _ h.out.2.2.2.2.2.2)).mono ?_
  clear h xw yw
  rintro e w ⟨rfl, h⟩
  go_wp2_with fail
  go_ret
  exact ⟨rfl, h.out.2.2.2.2.2.2⟩
set_option maxRecDepth 100000 in
set_option maxHeartbeats 6400000 in
theorem samends_few3 {a1 b1 a2 b2 a3 b3 : Option Addr} {n1 c1 m1 d1 n2 c2 m2 d2 n3 c3 m3 d3 : Nat} {l m k : List Int} {es fs gs : List ByteArray} {o p u : Option Ar} (W : World) (hW : WT W) (h1 : Av W a1 n1 c1 b1 m1 d1 l es o) (h2 : Av W a2 n2 c2 b2 m2 d2 m fs p) (h3 : Av W a3 n3 c3 b3 m3 d3 k gs u) (hf1 : fewB l es = true) (hf2 : fewB m fs = true) (hf3 : fewB k gs = false) :
    Calls Tryd.prog 5 #[.agg #[.slice a1 n1 c1, .slice b1 m1 d1], .agg #[.slice a2 n2 c2, .slice b2 m2 d2], .agg #[.slice a3 n3 c3, .slice b3 m3 d3]] W (TrueEnd W) := by
  have KS := Lib.hid (fun w (hb : Below W.heap.size W w) => kshown_is w (hW.below hb))
  have KF1 := fun w (hb : Below W.heap.size W w) => Few_is (c := c1) (d := d1) w (h1.v.below hb) h1.z
  rw [hf1] at KF1
  replace KF1 := Lib.hid KF1
  have KF2 := fun w (hb : Below W.heap.size W w) => Few_is (c := c2) (d := d2) w (h2.v.below hb) h2.z
  rw [hf2] at KF2
  replace KF2 := Lib.hid KF2
  have KF3 := fun w (hb : Below W.heap.size W w) => Few_is (c := c3) (d := d3) w (h3.v.below hb) h3.z
  rw [hf3] at KF3
  replace KF3 := Lib.hid KF3
  have h := lw_three W h1 h2 h3
  clear hW h1 h2 h3 hf1 hf2 hf3
  go_enter Tryd.func5, Tryd.ntmps5
  go_wp2_with fail
  with_reducible refine (lw h (KS.out _ h.out.2.2.2.2.2.2)).mono ?_
  clear h
  rintro e w ⟨rfl, h⟩
  have xv := h.out.2.2.2.2.1.c0
  have yv := h.out.2.2.2.2.1.c1
  go_wp2_with fail
  with_reducible refine (lw h (KF1.out _ h.out.2.2.2.2.2.2)).mono ?_
  clear h xv yv
  rintro e w ⟨rfl, h⟩
  have xw := h.out.2.2.1.c0
  have yw := h.out.2.2.1.c1
  go_wp2_with fail
  with_reducible refine (lw h (KF2.out _ h.out.2.2.2.2.2.2)).mono ?_
  clear h xw yw
  rintro e w ⟨rfl, h⟩
  have xx := h.out.1.c0
  have yx := h.out.1.c1
  go_wp2_with fail
  with_reducible refine (lw h (KF3.out _ h.out.2.2.2.2.2.2)).mono ?_
  clear h xx yx
  rintro e w ⟨rfl, h⟩
  go_wp2_with fail
  go_ret
  exact ⟨rfl, h.out.2.2.2.2.2.2⟩
set_option maxRecDepth 100000 in
set_option maxHeartbeats 6400000 in
theorem samends_err {a1 b1 a2 b2 a3 b3 : Option Addr} {n1 c1 m1 d1 n2 c2 m2 d2 n3 c3 m3 d3 : Nat} {l m k : List Int} {es fs gs : List ByteArray} {o p u z : Option Ar} {E : Int} (W : World) (hW : WT W) (h1 : Av W a1 n1 c1 b1 m1 d1 l es o) (h2 : Av W a2 n2 c2 b2 m2 d2 m fs p) (h3 : Av W a3 n3 c3 b3 m3 d3 k gs u) (hf1 : fewB l es = true) (hf2 : fewB m fs = true) (hf3 : fewB k gs = true) (hx : amK o p u = (z, E)) (he : E ≠ 0) :
    Calls Tryd.prog 5 #[.agg #[.slice a1 n1 c1, .slice b1 m1 d1], .agg #[.slice a2 n2 c2, .slice b2 m2 d2], .agg #[.slice a3 n3 c3, .slice b3 m3 d3]] W (TrueEnd W) := by
  have KS := Lib.hid (fun w (hb : Below W.heap.size W w) => kshown_is w (hW.below hb))
  have KF1 := fun w (hb : Below W.heap.size W w) => Few_is (c := c1) (d := d1) w (h1.v.below hb) h1.z
  rw [hf1] at KF1
  replace KF1 := Lib.hid KF1
  have KF2 := fun w (hb : Below W.heap.size W w) => Few_is (c := c2) (d := d2) w (h2.v.below hb) h2.z
  rw [hf2] at KF2
  replace KF2 := Lib.hid KF2
  have KF3 := fun w (hb : Below W.heap.size W w) => Few_is (c := c3) (d := d3) w (h3.v.below hb) h3.z
  rw [hf3] at KF3
  replace KF3 := Lib.hid KF3
  have KW := Lib.hid (fun w (hb : Below W.heap.size W w) => hW.below hb)
  have hzn := am_none hx he
  have K1 := Lib.hid (fun w (hb : Below W.heap.size W w) => (by have k := SAmend_is (h1.below hb) (h2.below hb) (h3.below hb) (KW.out w hb); rwa [hx] at k : Calls Tryd.prog 18 #[.agg #[.slice a1 n1 c1, .slice b1 m1 d1], .agg #[.slice a2 n2 c2, .slice b2 m2 d2], .agg #[.slice a3 n3 c3, .slice b3 m3 d3]] w (MEnd (z, E) w)))
  have hE : (E != 0) = true := by simpa using he
  have HZN := Lib.hid (show (TS z).1 = [] ∧ (TS z).2 = [] by rw [hzn]; exact ⟨rfl, rfl⟩)
  clear hx he hzn
  have h := lw_three W h1 h2 h3
  clear hW h1 h2 h3 hf1 hf2 hf3
  go_enter Tryd.func5, Tryd.ntmps5
  go_wp2_with fail
  with_reducible refine (lw h (KS.out _ h.out.2.2.2.2.2.2)).mono ?_
  clear h
  rintro e w ⟨rfl, h⟩
  have xv := h.out.2.2.2.2.1.c0
  have yv := h.out.2.2.2.2.1.c1
  go_wp2_with fail
  with_reducible refine (lw h (KF1.out _ h.out.2.2.2.2.2.2)).mono ?_
  clear h xv yv
  rintro e w ⟨rfl, h⟩
  have xw := h.out.2.2.1.c0
  have yw := h.out.2.2.1.c1
  go_wp2_with fail
  with_reducible refine (lw h (KF2.out _ h.out.2.2.2.2.2.2)).mono ?_
  clear h xw yw
  rintro e w ⟨rfl, h⟩
  have xx := h.out.1.c0
  have yx := h.out.1.c1
  go_wp2_with fail
  with_reducible refine (lw h (KF3.out _ h.out.2.2.2.2.2.2)).mono ?_
  clear h xx yx
  rintro e w ⟨rfl, h⟩
  have xv := h.out.2.2.2.2.1.c0
  have yv := h.out.2.2.2.2.1.c1
  have xw := h.out.2.2.1.c0
  have yw := h.out.2.2.1.c1
  have xx := h.out.1.c0
  have yx := h.out.1.c1
  go_wp2_with fail
  with_reducible refine (lwS_M h (K1.out _ h.out.2.2.2.2.2.2)).mono ?_
  clear h xv yv xw yw xx yx
  rintro e w ⟨az, nz, cz, bz, mz, dz, rfl, h⟩
  have xz := h.out.1.c0
  have yz := h.out.1.c1
  go_wp2_with fail
  with_reducible refine (lwS h (VSame_av h.out.2.1.v (Vl.none_ _) h.out.2.1.ntt (by omega) HZN.out.1 HZN.out.2)).mono ?_
  clear h xz yz
  rintro e w ⟨rfl, h⟩
  go_wp2_with fail
  go_ret
  exact ⟨rfl, h.out.2.2.2.2.2.2.2.2⟩
set_option maxRecDepth 100000 in
set_option maxHeartbeats 6400000 in
theorem samends_yes {a1 b1 a2 b2 a3 b3 : Option Addr} {n1 c1 m1 d1 n2 c2 m2 d2 n3 c3 m3 d3 : Nat} {l m k : List Int} {es fs gs : List ByteArray} {q t r : Ar} (W : World) (hW : WT W) (h1 : Av W a1 n1 c1 b1 m1 d1 l es (some q)) (h2 : Av W a2 n2 c2 b2 m2 d2 m fs (some t)) (h3 : Av W a3 n3 c3 b3 m3 d3 k gs (some r)) (hf1 : fewB l es = true) (hf2 : fewB m fs = true) (hf3 : fewB k gs = true) (hx : amK (some q) (some t) (some r) = (some (q.1, amS q.2 (natL t.2) (wsL r t.2.length)), 0)) (hpl : plE t (q.2.length : Int) = 0) (hs : r.1 = [] ∨ t.1 = r.1) :
    Calls Tryd.prog 5 #[.agg #[.slice a1 n1 c1, .slice b1 m1 d1], .agg #[.slice a2 n2 c2, .slice b2 m2 d2], .agg #[.slice a3 n3 c3, .slice b3 m3 d3]] W (TrueEnd W) := by
  have KS := Lib.hid (fun w (hb : Below W.heap.size W w) => kshown_is w (hW.below hb))
  have KF1 := fun w (hb : Below W.heap.size W w) => Few_is (c := c1) (d := d1) w (h1.v.below hb) h1.z
  rw [hf1] at KF1
  replace KF1 := Lib.hid KF1
  have KF2 := fun w (hb : Below W.heap.size W w) => Few_is (c := c2) (d := d2) w (h2.v.below hb) h2.z
  rw [hf2] at KF2
  replace KF2 := Lib.hid KF2
  have KF3 := fun w (hb : Below W.heap.size W w) => Few_is (c := c3) (d := d3) w (h3.v.below hb) h3.z
  rw [hf3] at KF3
  replace KF3 := Lib.hid KF3
  have KW := Lib.hid (fun w (hb : Below W.heap.size W w) => hW.below hb)
  have hok := plE_ok hpl
  have hm1 := h1.mlen.2.2
  have hml := h1.mlen.1
  have hm2 := h2.mlen.2.2
  have hmt := h2.mlen.1
  have hm3 := h3.mlen.2.2
  have hmr := h3.mlen.1
  rw [← hml] at hok
  have hin := natL_lt (n := m1) (l := t.2) (fun x hx => hok.2 x hx)
  have hm3c : (r.1 = [] ∧ m3 = 1) ∨ (r.1 ≠ [] ∧ m3 = m2) := by
    have g1 := h3.i.rok.2.1
    have g2 := h2.i.rok.2.1
    rw [← hmr] at g1
    rw [← hmt] at g2
    by_cases hr0 : r.1 = []
    · refine .inl ⟨hr0, ?_⟩
      rw [hr0] at g1
      have h5 : ((m3 : Nat) : Int) = 1 := g1
      omega
    · refine .inr ⟨hr0, ?_⟩
      rcases hs with hs | hs
      · exact absurd hs hr0
      · rw [← hs] at g1; omega
  have hwl : (wsL r t.2.length).length = m2 := by
    rw [ws_len (r := r) (n := t.2.length) (fun hr => by
      rcases hm3c with h5 | h5
      · exact absurd h5.1 hr
      · rw [← hmr, ← hmt]; exact h5.2)]
    exact hmt.symm
  have K1 := Lib.hid (fun w (hb : Below W.heap.size W w) => (by have k := SAmend_is (h1.below hb) (h2.below hb) (h3.below hb) (KW.out w hb); rwa [hx] at k : Calls Tryd.prog 18 #[.agg #[.slice a1 n1 c1, .slice b1 m1 d1], .agg #[.slice a2 n2 c2, .slice b2 m2 d2], .agg #[.slice a3 n3 c3, .slice b3 m3 d3]] w (MEnd (some (q.1, amS q.2 (natL t.2) (wsL r t.2.length)), 0) w)))
  have HLT := Lib.hid (show (natL t.2).length = m2 by rw [natL_len]; exact hmt.symm)
  have HWL := Lib.hid hwl
  have HIN := Lib.hid (fun j (hj : j < m2) => (show (natL t.2).getD j 0 < m1 from by
    rw [List.getD_eq_getElem?_getD, List.getElem?_eq_getElem (by rw [natL_len]; omega)]
    exact hin _ (List.getElem_mem _)))
  have HAT := Lib.hid (fun j (hj : j < m2) => natL_at (l := t.2) (fun x hx => (hok.2 x hx).1) (k := j) (by omega))
  have HST := Lib.hid (fun j i (hj : j < m2) => (show (amS q.2 ((natL t.2).take (j + 1)) ((wsL r t.2.length).take (j + 1))).getD i 0 = if (natL t.2).getD j 0 = i then (wsL r t.2.length).getD j 0 else (amS q.2 ((natL t.2).take j) ((wsL r t.2.length).take j)).getD i 0 from by
    have hj2 : j < (natL t.2).length := by rw [natL_len]; omega
    have e := am_at q.2 (l := natL t.2) (ws := wsL r t.2.length) (by rw [natL_len, hwl]; exact hmt.symm) (k := j) hj2 i 0 (by rw [← hml]; exact hin _ (List.getElem_mem _))
    rw [e, List.getD_eq_getElem?_getD (l := natL t.2), List.getElem?_eq_getElem hj2]; rfl))
  have HAL := Lib.hid (show (amS q.2 (natL t.2) (wsL r t.2.length)).length = m1 by rw [am_len]; exact hml.symm)
  have HM3 := Lib.hid hm3c
  have HWS := Lib.hid (fun j (hj : j < m2) => (show (wsL r t.2.length).getD j 0 = r.2.getD (if r.1 = [] then 0 else j) 0 from by
    by_cases hr0 : r.1 = []
    · rw [if_pos hr0, ws_one hr0 (by omega)]
    · rw [if_neg hr0, ws_all hr0]))
  have HNR := Lib.hid hok.1
  have HML := Lib.hid hml
  have HMT := Lib.hid hmt
  have HMR := Lib.hid hmr
  have HE1 := Lib.hid h1.i.2.1
  have HE2 := Lib.hid h2.i.2.1
  have HE3 := Lib.hid h3.i.2.1
  clear hx hpl hs hok hml hmt hmr hin hm3c hwl
  have h := lw_three W h1 h2 h3
  clear hW h1 h2 h3 hf1 hf2 hf3
  go_enter Tryd.func5, Tryd.ntmps5
  go_wp2_with fail
  with_reducible refine (lw h (KS.out _ h.out.2.2.2.2.2.2)).mono ?_
  clear h
  rintro e w ⟨rfl, h⟩
  have xv := h.out.2.2.2.2.1.c0
  have yv := h.out.2.2.2.2.1.c1
  go_wp2_with fail
  with_reducible refine (lw h (KF1.out _ h.out.2.2.2.2.2.2)).mono ?_
  clear h xv yv
  rintro e w ⟨rfl, h⟩
  have xw := h.out.2.2.1.c0
  have yw := h.out.2.2.1.c1
  go_wp2_with fail
  with_reducible refine (lw h (KF2.out _ h.out.2.2.2.2.2.2)).mono ?_
  clear h xw yw
  rintro e w ⟨rfl, h⟩
  have xx := h.out.1.c0
  have yx := h.out.1.c1
  go_wp2_with fail
  with_reducible refine (lw h (KF3.out _ h.out.2.2.2.2.2.2)).mono ?_
  clear h xx yx
  rintro e w ⟨rfl, h⟩
  have xv := h.out.2.2.2.2.1.c0
  have yv := h.out.2.2.2.2.1.c1
  have xw := h.out.2.2.1.c0
  have yw := h.out.2.2.1.c1
  have xx := h.out.1.c0
  have yx := h.out.1.c1
  go_wp2_with fail
  with_reducible refine (lwS_M h (K1.out _ h.out.2.2.2.2.2.2)).mono ?_
  clear h xv yv xw yw xx yx
  rintro e w ⟨az, nz, cz, bz, mz, dz, rfl, h⟩
  have KA := All_av (c := c2) (d := d2) (s := m) _ (show Vl _ a2 n2 b2 m2 m (t.2.map S) from by have k := h.out.2.2.2.2.2.1.v; rwa [HE2.out] at k) h.out.2.2.2.2.2.1.i.2.2.2 (by omega) (KW.out _ h.out.2.2.2.2.2.2.2.2)
  have xw := h.out.2.2.2.2.1.c0
  have yw := h.out.2.2.2.2.1.c1
  go_wp2_with fail
  with_reducible refine (lwS_al h (And.intro KA HNR.out)).mono ?_
  clear h xw yw
  rintro e w ⟨al, nl, cl, rfl, hnl, h⟩
  obtain rfl : nl = m2 := hnl.trans HMT.out.symm
  clear hnl KA
  obtain ⟨wq, hwq⟩ : ∃ z, z = w := ⟨_, rfl⟩
  subst hwq
  have hmz : m1 = mz := by have k := h.out.2.2.1.mlen.1; exact (k.trans HAL.out).symm
  subst hmz
  have hm3d : ¬ ((m3 : Int) = (nl : Int)) → (m3 : Int) = 1 := fun h5 => by rcases HM3.out with h6 | h6 <;> omega
  have xv := h.out.2.2.2.2.2.2.2.1.c0
  have yv := h.out.2.2.2.2.2.2.2.1.c1
  have xx := h.out.2.2.2.1.c0
  have yx := h.out.2.2.2.1.c1
  have xz := h.out.2.1.c0
  have yz := h.out.2.1.c1
  have HLV := Lib.hid h
  clear h
  have HIXM : Hid (∀ k : Nat, k < nl → (if r.1 = [] then 0 else k) < m3 ∧ (k : Int) % (m3 : Int) = (((if r.1 = [] then 0 else k) : Nat) : Int) ∧ 0 < m3) := Lib.hid fun k hkl => by
    rcases HM3.out with h6 | h6
    · rw [if_pos h6.1, h6.2]; exact ⟨by omega, by omega, by omega⟩
    · rw [if_neg h6.1, h6.2]; exact ⟨hkl, Int.emod_eq_of_lt (by omega) (by omega), by omega⟩
  have hcase : m3 = nl ∨ (m3 = 1 ∧ m3 ≠ nl) := by
    by_cases h5 : m3 = nl
    · exact .inl h5
    · exact .inr ⟨by rcases HM3.out with h6 | h6 <;> omega, h5⟩
  clear hm3d
  rcases hcase with hc1 | ⟨hc1, hc2⟩
  · subst hc1
    go_wp2_with fail
    clear xv yv xx yx xz yz
    go_loopw [12] (fun iv wr => ∃ i : Nat, iv = .int .i64 (i : Int) ∧ i ≤ m1 ∧ Below wq.heap.size wq wr) (fun iv _ => m1 - (intOf iv).toNat)
    case atStart => exact ⟨0, rfl, Nat.zero_le _, Below.refl _ _⟩
    case round =>
      obtain ⟨i, rfl, hi, hb⟩ := hrel
      have CL : Hid (∀ k, k < m3 → ∀ z, Below wq.heap.size wq z → ∃ p o, al = some ⟨p, o, none⟩ ∧ z.cell? ⟨p, o + k, none⟩ = some (.int .i64 (((natL t.2).getD k 0 : Nat) : Int))) := Lib.hid fun k hk z hz => by
        have h := lwS_on HLV.out hz
        obtain ⟨p, o, e, hc⟩ := h.out.1.2 (by omega)
        exact ⟨p, o, e, by rw [hc k hk, HAT.out k hk]⟩
      have CX : Hid (∀ k, k < m3 → ∀ z, Below wq.heap.size wq z → ∃ p o, b3 = some ⟨p, o, none⟩ ∧ z.cell? ⟨p, o + k, none⟩ = some (.string (S (r.2.getD k 0)))) := Lib.hid fun k hk z hz => by
        have h := lwS_on HLV.out hz
        obtain ⟨p, o, e, hc⟩ := h.out.2.2.2.2.1.v.t.2 (by omega)
        have k5 := hc k hk
        rw [HE3.out, getD_S (by rw [← HMR.out]; exact hk)] at k5
        exact ⟨p, o, e, k5⟩
      have CV : Hid (∀ k, k < m1 → ∀ z, Below wq.heap.size wq z → ∃ p o, b1 = some ⟨p, o, none⟩ ∧ z.cell? ⟨p, o + k, none⟩ = some (.string (S (q.2.getD k 0)))) := Lib.hid fun k hk z hz => by
        have h := lwS_on HLV.out hz
        obtain ⟨p, o, e, hc⟩ := h.out.2.2.2.2.2.2.2.2.1.v.t.2 (by omega)
        have k5 := hc k hk
        rw [HE1.out, getD_S (by rw [← HML.out]; exact hk)] at k5
        exact ⟨p, o, e, k5⟩
      have CZ : Hid (∀ k, k < m1 → ∀ z, Below wq.heap.size wq z → ∃ p o, bz = some ⟨p, o, none⟩ ∧ z.cell? ⟨p, o + k, none⟩ = some (.string (S ((amS q.2 (natL t.2) (wsL r t.2.length)).getD k 0)))) := Lib.hid fun k hk z hz => by
        have h := lwS_on HLV.out hz
        obtain ⟨p, o, e, hc⟩ := h.out.2.2.1.v.t.2 (by omega)
        have k5 := hc k hk
        rw [show (TS (some (q.1, amS q.2 (natL t.2) (wsL r t.2.length)))).2 = (amS q.2 (natL t.2) (wsL r t.2.length)).map S from rfl, getD_S (by rw [HAL.out]; exact hk)] at k5
        exact ⟨p, o, e, k5⟩
      have YV : Hid (∀ z, Below wq.heap.size wq z → z.cell? ⟨W.heap.size, 1, none⟩ = some (.slice b1 m1 d1) ∧ z.cell? ⟨W.heap.size + 1 + 1, 1, none⟩ = some (.slice b3 m3 d3)) := Lib.hid fun z hz => by
        have h := lwS_on HLV.out hz
        exact ⟨h.out.2.2.2.2.2.2.2.1.c1, h.out.2.2.2.1.c1⟩
      have YZ := Lib.hid (fun z (hz : Below wq.heap.size wq z) => (lwS_on HLV.out hz).out)
      obtain ⟨yv, yx⟩ := YV.out _ hb
      by_cases hil : i < m1
      · have e3 : (i : Int) < (m1 : Int) := by omega
        obtain ⟨pv, ov, rfl, cv⟩ := CV.out i hil _ hb
        obtain ⟨s0, hs0⟩ : ∃ s0, s0 = S (q.2.getD i 0) := ⟨_, rfl⟩
        rw [← hs0] at cv
        have HS0 := Lib.hid hs0
        have HB := Lib.hid hb
        clear hb hs0
        go_wp2_with fail
        clear cv yv yx
        go_loopw [13, 14] (fun sv kv wz => ∃ (k : Nat) (s : ByteArray), sv = .string s ∧ kv = .int .i64 (k : Int) ∧ k ≤ m3 ∧ Hid (s = S ((amS q.2 ((natL t.2).take k) ((wsL r t.2.length).take k)).getD i 0)) ∧ Below wq.heap.size wq wz) (fun _ kv _ => m3 - (intOf kv).toNat)
        case atStart => exact ⟨0, s0, rfl, rfl, Nat.zero_le _, Lib.hid (by rw [List.take_zero, List.take_zero]; exact HS0.out), HB.out⟩
        case round =>
          obtain ⟨k, s, rfl, rfl, hk, HSV, hbz⟩ := hrel
          by_cases hkl : k < m3
          · have e4 : (k : Int) < (m3 : Int) := by omega
            obtain ⟨pl, ol, rfl, cl⟩ := CL.out k hkl _ hbz
            obtain ⟨yv, yx⟩ := YV.out _ hbz
            have hst := HST.out k i hkl
            rw [HWS.out k hkl] at hst
            obtain ⟨p, hp⟩ : ∃ p, p = (natL t.2).getD k 0 := ⟨_, rfl⟩
            rw [← hp] at cl hst
            clear hp
            by_cases hpi : p = i
            · have e5 : ((p : Int) == (i : Int)) = true := by rw [hpi]; exact beq_self_eq_true _
              rw [if_pos hpi] at hst
              obtain ⟨ix, hix⟩ : ∃ ix : Nat, ix = (if r.1 = [] then 0 else k) := ⟨_, rfl⟩
              rw [← hix] at hst
              obtain hixm := HIXM.out k hkl
              rw [← hix] at hixm
              obtain ⟨hix3, hmod, hm30⟩ := hixm
              have hmod2 : (k : Int).tmod (m3 : Int) = (ix : Int) := by rw [Int.tmod_eq_emod_of_nonneg (by omega)]; exact hmod
              have hm3i : (0 : Int) < (m3 : Int) := by omega
              have hm3n : (m3 : Int) ≠ 0 := by omega
              have hix3i : (ix : Int) < (m3 : Int) := by omega
              have hwx : IntKind.i64.wrap (ix : Int) = (ix : Int) := IntWalk.i64_in _ (by omega)
              obtain ⟨px, ox, rfl, cx⟩ := CX.out ix hix3 _ hbz
              obtain ⟨s1, hs1⟩ : ∃ s1, s1 = S (r.2.getD ix 0) := ⟨_, rfl⟩
              rw [← hs1] at cx
              have HN : Hid (s1 = S ((amS q.2 ((natL t.2).take (k + 1)) ((wsL r t.2.length).take (k + 1))).getD i 0)) := Lib.hid (by rw [hst]; exact hs1)
              have HBZ := Lib.hid hbz
              clear hst hs1 hbz hix
              go_wp2_with fail
              go_quiet (fail)
              go_wp2_with fail
              go_roundw
              case rel => exact ⟨k + 1, s1, rfl, by go_num, by omega, HN, HBZ.out.trans (below_drewN (Below.refl wr.heap.size wr) nq |>.mono HBZ.out.size)⟩
              case measure => simp [intOf]; omega
            · have e5 : ((p : Int) == (i : Int)) = false := beq_eq_false_iff_ne.2 (by omega)
              rw [if_neg hpi] at hst
              have HN : Hid (s = S ((amS q.2 ((natL t.2).take (k + 1)) ((wsL r t.2.length).take (k + 1))).getD i 0)) := Lib.hid (by rw [hst]; exact HSV.out)
              clear hst
              go_wp2_with fail
              go_roundw
              case rel => exact ⟨k + 1, s, rfl, by go_num, by omega, HN, hbz⟩
              case measure => simp [intOf]; omega
          · have e4 : ¬ (k : Int) < (m3 : Int) := by omega
            obtain rfl : k = m3 := by omega
            obtain ⟨pz, oz, rfl, cz⟩ := CZ.out i hil _ hbz
            have y5 := YZ.out _ hbz
            have yz := y5.2.1.c1
            have hsz := HSV.out
            rw [List.take_of_length_le (by rw [HLT.out]; exact Nat.le_refl _), List.take_of_length_le (by rw [HWL.out]; exact Nat.le_refl _)] at hsz
            rw [← hsz] at cz
            have hbs : (s.toList == s.toList) = true := beq_self_eq_true _
            clear hsz HSV y5
            go_wp2_with fail
            go_roundw
            case rel => exact ⟨i + 1, by go_num, by omega, hbz⟩
            case measure => simp [intOf]; omega
      · have e3 : ¬ (i : Int) < (m1 : Int) := by omega
        have h : Lv _ wr := lwS_on HLV.out hb
        clear hb CL CX CV CZ YV YZ
        have xz := h.out.2.1.c0
        have yz := h.out.2.1.c1
        go_wp2_with fail
        with_reducible refine (lwS h (VMay_av h.out.2.2.1)).mono ?_
        clear h xz yz
        rintro e w ⟨rfl, h⟩
        go_wp2_with fail
        go_ret
        exact ⟨rfl, h.out.2.2.2.2.2.2.2.2.2⟩
  · subst hc1
    have hc3 : (1 : Int) ≠ (nl : Int) := by omega
    have hc4 : ((1 : Int) == (nl : Int)) = false := beq_eq_false_iff_ne.2 hc3
    have hc5 : ((1 : Int) != (nl : Int)) = true := by simp; omega
    clear hc2
    go_wp2_with fail
    clear xv yv xx yx xz yz
    go_loopw [12] (fun iv wr => ∃ i : Nat, iv = .int .i64 (i : Int) ∧ i ≤ m1 ∧ Below wq.heap.size wq wr) (fun iv _ => m1 - (intOf iv).toNat)
    case atStart => exact ⟨0, rfl, Nat.zero_le _, Below.refl _ _⟩
    case round =>
      obtain ⟨i, rfl, hi, hb⟩ := hrel
      have CL : Hid (∀ k, k < nl → ∀ z, Below wq.heap.size wq z → ∃ p o, al = some ⟨p, o, none⟩ ∧ z.cell? ⟨p, o + k, none⟩ = some (.int .i64 (((natL t.2).getD k 0 : Nat) : Int))) := Lib.hid fun k hk z hz => by
        have h := lwS_on HLV.out hz
        obtain ⟨p, o, e, hc⟩ := h.out.1.2 (by omega)
        exact ⟨p, o, e, by rw [hc k hk, HAT.out k hk]⟩
      have CX : Hid (∀ k, k < 1 → ∀ z, Below wq.heap.size wq z → ∃ p o, b3 = some ⟨p, o, none⟩ ∧ z.cell? ⟨p, o + k, none⟩ = some (.string (S (r.2.getD k 0)))) := Lib.hid fun k hk z hz => by
        have h := lwS_on HLV.out hz
        obtain ⟨p, o, e, hc⟩ := h.out.2.2.2.2.1.v.t.2 (by omega)
        have k5 := hc k hk
        rw [HE3.out, getD_S (by rw [← HMR.out]; exact hk)] at k5
        exact ⟨p, o, e, k5⟩
      have CV : Hid (∀ k, k < m1 → ∀ z, Below wq.heap.size wq z → ∃ p o, b1 = some ⟨p, o, none⟩ ∧ z.cell? ⟨p, o + k, none⟩ = some (.string (S (q.2.getD k 0)))) := Lib.hid fun k hk z hz => by
        have h := lwS_on HLV.out hz
        obtain ⟨p, o, e, hc⟩ := h.out.2.2.2.2.2.2.2.2.1.v.t.2 (by omega)
        have k5 := hc k hk
        rw [HE1.out, getD_S (by rw [← HML.out]; exact hk)] at k5
        exact ⟨p, o, e, k5⟩
      have CZ : Hid (∀ k, k < m1 → ∀ z, Below wq.heap.size wq z → ∃ p o, bz = some ⟨p, o, none⟩ ∧ z.cell? ⟨p, o + k, none⟩ = some (.string (S ((amS q.2 (natL t.2) (wsL r t.2.length)).getD k 0)))) := Lib.hid fun k hk z hz => by
        have h := lwS_on HLV.out hz
        obtain ⟨p, o, e, hc⟩ := h.out.2.2.1.v.t.2 (by omega)
        have k5 := hc k hk
        rw [show (TS (some (q.1, amS q.2 (natL t.2) (wsL r t.2.length)))).2 = (amS q.2 (natL t.2) (wsL r t.2.length)).map S from rfl, getD_S (by rw [HAL.out]; exact hk)] at k5
        exact ⟨p, o, e, k5⟩
      have YV : Hid (∀ z, Below wq.heap.size wq z → z.cell? ⟨W.heap.size, 1, none⟩ = some (.slice b1 m1 d1) ∧ z.cell? ⟨W.heap.size + 1 + 1, 1, none⟩ = some (.slice b3 1 d3)) := Lib.hid fun z hz => by
        have h := lwS_on HLV.out hz
        exact ⟨h.out.2.2.2.2.2.2.2.1.c1, h.out.2.2.2.1.c1⟩
      have YZ := Lib.hid (fun z (hz : Below wq.heap.size wq z) => (lwS_on HLV.out hz).out)
      obtain ⟨yv, yx⟩ := YV.out _ hb
      by_cases hil : i < m1
      · have e3 : (i : Int) < (m1 : Int) := by omega
        obtain ⟨pv, ov, rfl, cv⟩ := CV.out i hil _ hb
        obtain ⟨s0, hs0⟩ : ∃ s0, s0 = S (q.2.getD i 0) := ⟨_, rfl⟩
        rw [← hs0] at cv
        have HS0 := Lib.hid hs0
        have HB := Lib.hid hb
        clear hb hs0
        go_wp2_with fail
        clear cv yv yx
        go_loopw [13, 14] (fun sv kv wz => ∃ (k : Nat) (s : ByteArray), sv = .string s ∧ kv = .int .i64 (k : Int) ∧ k ≤ nl ∧ Hid (s = S ((amS q.2 ((natL t.2).take k) ((wsL r t.2.length).take k)).getD i 0)) ∧ Below wq.heap.size wq wz) (fun _ kv _ => nl - (intOf kv).toNat)
        case atStart => exact ⟨0, s0, rfl, rfl, Nat.zero_le _, Lib.hid (by rw [List.take_zero, List.take_zero]; exact HS0.out), HB.out⟩
        case round =>
          obtain ⟨k, s, rfl, rfl, hk, HSV, hbz⟩ := hrel
          by_cases hkl : k < nl
          · have e4 : (k : Int) < (nl : Int) := by omega
            obtain ⟨pl, ol, rfl, cl⟩ := CL.out k hkl _ hbz
            obtain ⟨yv, yx⟩ := YV.out _ hbz
            have hst := HST.out k i hkl
            rw [HWS.out k hkl] at hst
            obtain ⟨p, hp⟩ : ∃ p, p = (natL t.2).getD k 0 := ⟨_, rfl⟩
            rw [← hp] at cl hst
            clear hp
            by_cases hpi : p = i
            · have e5 : ((p : Int) == (i : Int)) = true := by rw [hpi]; exact beq_self_eq_true _
              rw [if_pos hpi] at hst
              obtain ⟨ix, hix⟩ : ∃ ix : Nat, ix = (if r.1 = [] then 0 else k) := ⟨_, rfl⟩
              rw [← hix] at hst
              obtain hixm := HIXM.out k hkl
              rw [← hix] at hixm
              obtain ⟨hix3, hmod, hm30⟩ := hixm
              have hmod2 : (k : Int).tmod (1 : Int) = (ix : Int) := by rw [Int.tmod_eq_emod_of_nonneg (by omega)]; exact hmod
              have hm3i : (0 : Int) < (1 : Int) := by omega
              have hm3n : (1 : Int) ≠ 0 := by omega
              have hix3i : (ix : Int) < (1 : Int) := by omega
              have hwx : IntKind.i64.wrap (ix : Int) = (ix : Int) := IntWalk.i64_in _ (by omega)
              obtain ⟨px, ox, rfl, cx⟩ := CX.out ix hix3 _ hbz
              obtain ⟨s1, hs1⟩ : ∃ s1, s1 = S (r.2.getD ix 0) := ⟨_, rfl⟩
              rw [← hs1] at cx
              have HN : Hid (s1 = S ((amS q.2 ((natL t.2).take (k + 1)) ((wsL r t.2.length).take (k + 1))).getD i 0)) := Lib.hid (by rw [hst]; exact hs1)
              have HBZ := Lib.hid hbz
              clear hst hs1 hbz hix
              go_wp2_with fail
              go_quiet (fail)
              go_wp2_with fail
              go_roundw
              case rel => exact ⟨k + 1, s1, rfl, by go_num, by omega, HN, HBZ.out.trans (below_drewN (Below.refl wr.heap.size wr) nq |>.mono HBZ.out.size)⟩
              case measure => simp [intOf]; omega
            · have e5 : ((p : Int) == (i : Int)) = false := beq_eq_false_iff_ne.2 (by omega)
              rw [if_neg hpi] at hst
              have HN : Hid (s = S ((amS q.2 ((natL t.2).take (k + 1)) ((wsL r t.2.length).take (k + 1))).getD i 0)) := Lib.hid (by rw [hst]; exact HSV.out)
              clear hst
              go_wp2_with fail
              go_roundw
              case rel => exact ⟨k + 1, s, rfl, by go_num, by omega, HN, hbz⟩
              case measure => simp [intOf]; omega
          · have e4 : ¬ (k : Int) < (nl : Int) := by omega
            obtain rfl : k = nl := by omega
            obtain ⟨pz, oz, rfl, cz⟩ := CZ.out i hil _ hbz
            have y5 := YZ.out _ hbz
            have yz := y5.2.1.c1
            have hsz := HSV.out
            rw [List.take_of_length_le (by rw [HLT.out]; exact Nat.le_refl _), List.take_of_length_le (by rw [HWL.out]; exact Nat.le_refl _)] at hsz
            rw [← hsz] at cz
            have hbs : (s.toList == s.toList) = true := beq_self_eq_true _
            clear hsz HSV y5
            go_wp2_with fail
            go_roundw
            case rel => exact ⟨i + 1, by go_num, by omega, hbz⟩
            case measure => simp [intOf]; omega
      · have e3 : ¬ (i : Int) < (m1 : Int) := by omega
        have h : Lv _ wr := lwS_on HLV.out hb
        clear hb CL CX CV CZ YV YZ
        have xz := h.out.2.1.c0
        have yz := h.out.2.1.c1
        go_wp2_with fail
        with_reducible refine (lwS h (VMay_av h.out.2.2.1)).mono ?_
        clear h xz yz
        rintro e w ⟨rfl, h⟩
        go_wp2_with fail
        go_ret
        exact ⟨rfl, h.out.2.2.2.2.2.2.2.2.2⟩
theorem samends_any {a1 b1 a2 b2 a3 b3 : Option Addr} {n1 c1 m1 d1 n2 c2 m2 d2 n3 c3 m3 d3 : Nat} {l m k : List Int} {es fs gs : List ByteArray} (W : World) (hW : WT W) (hV : Vl W a1 n1 b1 m1 l es) (hC : Cp n1 c1 m1 d1) (hZ : ∀ j, j < m1 → (es.getD j ByteArray.empty).size ≤ maxLen) (hV2 : Vl W a2 n2 b2 m2 m fs) (hC2 : Cp n2 c2 m2 d2) (hZ2 : ∀ j, j < m2 → (fs.getD j ByteArray.empty).size ≤ maxLen) (hV3 : Vl W a3 n3 b3 m3 k gs) (hC3 : Cp n3 c3 m3 d3) (hZ3 : ∀ j, j < m3 → (gs.getD j ByteArray.empty).size ≤ maxLen) :
    Calls Tryd.prog 5 #[.agg #[.slice a1 n1 c1, .slice b1 m1 d1], .agg #[.slice a2 n2 c2, .slice b2 m2 d2], .agg #[.slice a3 n3 c3, .slice b3 m3 d3]] W (TrueEnd W) := by
  obtain ⟨o, ho⟩ := ais_ex l es
  obtain ⟨p, hp⟩ := ais_ex m fs
  obtain ⟨u, hu⟩ := ais_ex k gs
  rcases Bool.eq_false_or_eq_true (fewB l es) with h | h
  · rcases Bool.eq_false_or_eq_true (fewB m fs) with h2 | h2
    · rcases Bool.eq_false_or_eq_true (fewB k gs) with h3 | h3
      · obtain ⟨x, hx⟩ : ∃ x, x = amK o p u := ⟨_, rfl⟩
        obtain ⟨x, e⟩ := x
        by_cases he : e = 0
        · subst he
          obtain ⟨q, t, r, rfl, rfl, rfl, _, hpl, hs, rfl⟩ := am_some hx.symm
          exact samends_yes W hW ⟨hV, hC, hZ, ho⟩ ⟨hV2, hC2, hZ2, hp⟩ ⟨hV3, hC3, hZ3, hu⟩ h h2 h3 hx.symm hpl hs
        · exact samends_err W hW ⟨hV, hC, hZ, ho⟩ ⟨hV2, hC2, hZ2, hp⟩ ⟨hV3, hC3, hZ3, hu⟩ h h2 h3 hx.symm he
      · exact samends_few3 W hW ⟨hV, hC, hZ, ho⟩ ⟨hV2, hC2, hZ2, hp⟩ ⟨hV3, hC3, hZ3, hu⟩ h h2 h3
    · exact samends_few2 W hW ⟨hV, hC, hZ, ho⟩ ⟨hV2, hC2, hZ2, hp⟩ ⟨hV3, hC3, hZ3, hu⟩ h h2
  · exact samends_few1 W hW ⟨hV, hC, hZ, ho⟩ ⟨hV2, hC2, hZ2, hp⟩ ⟨hV3, hC3, hZ3, hu⟩ h
end Go.Proofs.YtpledghphljfkaaDoor

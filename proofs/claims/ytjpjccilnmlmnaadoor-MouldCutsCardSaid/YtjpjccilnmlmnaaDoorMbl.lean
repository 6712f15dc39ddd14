import Derived.Test.YtjpjccilnmlmnaaDoorMbk
/-
  MouldCuts at every array and number.
-/
namespace Go.Proofs.YtjpjccilnmlmnaaDoor
set_option linter.unusedVariables false
set_option linter.unusedSimpArgs false
open Go.RowKit

set_option maxRecDepth 100000 in
set_option maxHeartbeats 6400000 in
theorem mcuts_few {a1 b1 : Option Addr} {n1 c1 m1 d1 : Nat} {l : List Int} {es : List ByteArray} {o : Option Ar} {k : Int} (W : World) (hW : WT W) (h1 : Av W a1 n1 c1 b1 m1 d1 l es o) (hf : fewB l es = false) :
    Calls Tryd.prog 3 #[.agg #[.slice a1 n1 c1, .slice b1 m1 d1], .int .u8 k] W (TrueEnd W) := by
  have KW := Lib.hid (fun w (hb : Below W.heap.size W w) => hW.below hb)
  have KS := Lib.hid (fun w (hb : Below W.heap.size W w) => mshown_is w (hW.below hb))
  have KF := fun w (hb : Below W.heap.size W w) => Few_is (c := c1) (d := d1) w (h1.v.below hb) h1.z
  rw [hf] at KF
  replace KF := Lib.hid KF
  have h := lw_one W h1
  clear hW h1 hf
  go_enter Tryd.func3, Tryd.ntmps3
  go_wp2_with fail
  with_reducible refine (lw h (KS.out _ h.out.2.2)).mono ?_
  clear h
  rintro e w ⟨rfl, h⟩
  have xv := h.out.1.c0
  have yv := h.out.1.c1
  go_wp2_with fail
  with_reducible refine (lw h (KF.out _ h.out.2.2)).mono ?_
  clear h xv yv
  rintro e w ⟨rfl, h⟩
  go_wp2_with fail
  go_ret
  exact ⟨rfl, h.out.2.2⟩
set_option maxRecDepth 100000 in
set_option maxHeartbeats 6400000 in
theorem mcuts_may {a1 b1 : Option Addr} {n1 c1 m1 d1 : Nat} {l : List Int} {es : List ByteArray} {k : Int} (W : World) (hW : WT W) (h1 : Av W a1 n1 c1 b1 m1 d1 l es none) (hf : fewB l es = true) :
    Calls Tryd.prog 3 #[.agg #[.slice a1 n1 c1, .slice b1 m1 d1], .int .u8 k] W (TrueEnd W) := by
  have KW := Lib.hid (fun w (hb : Below W.heap.size W w) => hW.below hb)
  have KS := Lib.hid (fun w (hb : Below W.heap.size W w) => mshown_is w (hW.below hb))
  have KF := fun w (hb : Below W.heap.size W w) => Few_is (c := c1) (d := d1) w (h1.v.below hb) h1.z
  rw [hf] at KF
  replace KF := Lib.hid KF
  have KM := Lib.hid (fun w (hb : Below W.heap.size W w) => VMay_av (h1.below hb))
  have h := lw_one W h1
  clear hW h1 hf
  go_enter Tryd.func3, Tryd.ntmps3
  go_wp2_with fail
  with_reducible refine (lw h (KS.out _ h.out.2.2)).mono ?_
  clear h
  rintro e w ⟨rfl, h⟩
  have xv := h.out.1.c0
  have yv := h.out.1.c1
  go_wp2_with fail
  with_reducible refine (lw h (KF.out _ h.out.2.2)).mono ?_
  clear h xv yv
  rintro e w ⟨rfl, h⟩
  have xv := h.out.1.c0
  have yv := h.out.1.c1
  go_wp2_with fail
  with_reducible refine (lw h (KM.out _ h.out.2.2)).mono ?_
  clear h xv yv
  rintro e w ⟨rfl, h⟩
  go_wp2_with fail
  go_ret
  exact ⟨rfl, h.out.2.2⟩
set_option maxRecDepth 100000 in
set_option maxHeartbeats 6400000 in
theorem mcuts_ax {a1 b1 : Option Addr} {n1 c1 m1 d1 : Nat} {l : List Int} {es : List ByteArray} {k : Int} {q : Ar} (W : World) (hW : WT W) (h1 : Av W a1 n1 c1 b1 m1 d1 l es (some q)) (hf : fewB l es = true) (h0 : n1 = 0) :
    Calls Tryd.prog 3 #[.agg #[.slice a1 n1 c1, .slice b1 m1 d1], .int .u8 k] W (TrueEnd W) := by
  have KW := Lib.hid (fun w (hb : Below W.heap.size W w) => hW.below hb)
  have KS := Lib.hid (fun w (hb : Below W.heap.size W w) => mshown_is w (hW.below hb))
  have KF := fun w (hb : Below W.heap.size W w) => Few_is (c := c1) (d := d1) w (h1.v.below hb) h1.z
  rw [hf] at KF
  replace KF := Lib.hid KF
  have KM := Lib.hid (fun w (hb : Below W.heap.size W w) => VMay_av (h1.below hb))
  have hn0 : (n1 : Int) = 0 := by omega
  have h := lw_one W h1
  clear hW h1 hf h0
  go_enter Tryd.func3, Tryd.ntmps3
  go_wp2_with fail
  with_reducible refine (lw h (KS.out _ h.out.2.2)).mono ?_
  clear h
  rintro e w ⟨rfl, h⟩
  have xv := h.out.1.c0
  have yv := h.out.1.c1
  go_wp2_with fail
  with_reducible refine (lw h (KF.out _ h.out.2.2)).mono ?_
  clear h xv yv
  rintro e w ⟨rfl, h⟩
  have xv := h.out.1.c0
  have yv := h.out.1.c1
  go_wp2_with fail
  with_reducible refine (lw h (KM.out _ h.out.2.2)).mono ?_
  clear h xv yv
  rintro e w ⟨rfl, h⟩
  have xv := h.out.1.c0
  have yv := h.out.1.c1
  go_wp2_with fail
  go_ret
  exact ⟨rfl, h.out.2.2⟩
set_option maxRecDepth 100000 in
set_option maxHeartbeats 6400000 in
theorem mcuts_yes {a1 b1 : Option Addr} {n1 c1 m1 d1 : Nat} {l : List Int} {es : List ByteArray} {k yo zo j ko : Int} {N M nn : Nat} {q A B C D : Ar} {Y O : Option Ar} (W : World) (hW : WT W) (h1 : Av W a1 n1 c1 b1 m1 d1 l es (some q)) (hf : fewB l es = true) (h0 : 0 < n1) (hk : 0 ≤ k) (hk2 : k ≤ 255)
    (hN : N = mN l) (hNb : N ≤ 1099511627776) (hM : M = min N 200) (hn : k % ((M + 1 : Nat) : Int) = (nn : Int)) (hn2 : k.tmod ((M + 1 : Nat) : Int) = (nn : Int)) (hnM : nn ≤ M) (hy : yo = -(nn : Int)) (hz : zo = (N : Int) + 1)
    (qa : tkM (some ([], [(nn : Int)])) (some q) = (some A, 0)) (qb : drM (some ([], [(nn : Int)])) (some q) = (some B, 0)) (qc : tkM (some ([], [yo])) (some q) = (some C, 0)) (qd : drM (some ([], [yo])) (some q) = (some D, 0))
    (qx : jnM (some A) (some B) = (some q, 0)) (qy : jnM (some D) (some C) = (Y, j)) (qo : tkM (some ([], [zo])) (some q) = (O, ko)) (hko : ko ≠ 0) (iA : itV A.1 = (nn : Int)) (iC : itV C.1 = (nn : Int)) (hn0 : nn ≠ 0) (hY : Y = some q) (hj : j = 0) :
    Calls Tryd.prog 3 #[.agg #[.slice a1 n1 c1, .slice b1 m1 d1], .int .u8 k] W (TrueEnd W) := by
  subst hY hj
  have hwk : wrap64 k = k := w64 (by omega) (by omega)
  have hmin : min (N : Int) 200 = (M : Int) := by omega
  have hM2 : M ≤ 200 := by omega
  obtain ⟨P, hP⟩ : ∃ P, P = M + 1 := ⟨_, rfl⟩
  have hwP : IntKind.i64.wrap ((M : Int) + 1) = (P : Int) := by rw [show (M : Int) + 1 = (P : Int) by omega]; exact IntWalk.i64_in _ (by omega)
  rw [← hP] at hn hn2
  have hP0 : ((P : Int) == 0) = false := beq_eq_false_iff_ne.2 (by omega)
  have hPn : (P : Int) ≠ 0 := by omega
  have hwy : IntKind.i64.wrap (-(nn : Int)) = yo := by rw [hy]; exact IntWalk.i64_in _ (by omega)
  have hwz' : IntKind.i64.wrap ((N : Int) + 1) = zo := by rw [← hz]; exact IntWalk.i64_in _ (by omega)
  have b1' := Lib.hid (show (-9223372036854775808 : Int) ≤ (nn : Int) ∧ (nn : Int) ≤ 9223372036854775807 by omega)
  have b2' := Lib.hid (show (-9223372036854775808 : Int) ≤ yo ∧ yo ≤ 9223372036854775807 by omega)
  have b3' := Lib.hid (show (-9223372036854775808 : Int) ≤ zo ∧ zo ≤ 9223372036854775807 by omega)
  have s1' := Lib.hid (small_rok (x := (nn : Int)) (by omega))
  have s2' := Lib.hid (small_rok (x := yo) (by omega))
  have s3' := Lib.hid (small_rok (x := zo) (by omega))
  have hkn : (ko != 0) = true := by simpa using hko
  have HD := Lib.hid (show (TS (some q)).1 = l ∧ (TS (some q)).2 = es from ⟨h1.fst, h1.i.2.1.symm⟩)
  have HI := Lib.hid (And.intro iA iC)
  have QA := Lib.hid qa
  have QB := Lib.hid qb
  have QC := Lib.hid qc
  have QD := Lib.hid qd
  have QX := Lib.hid qx
  have QY := Lib.hid qy
  have QO := Lib.hid qo
  have hn1 : (n1 : Int) ≠ 0 := by omega
  have hn3 := h1.n3
  have hnz : ((nn : Int) == 0) = false := beq_eq_false_iff_ne.2 (by omega)
  have KW := Lib.hid (fun w (hb : Below W.heap.size W w) => hW.below hb)
  have KS := Lib.hid (fun w (hb : Below W.heap.size W w) => mshown_is w (hW.below hb))
  have KO := Lib.hid (fun (x : Int) (hx : -9223372036854775808 ≤ x ∧ x ≤ 9223372036854775807) w (hb : Below W.heap.size W w) => Of_any x hx.1 hx.2 w (hW.below hb).tab)
  have KN := fun w (hb : Below W.heap.size W w) => VMany_av (h1.below hb)
  rw [← hN] at KN
  replace KN := Lib.hid KN
  have KF := fun w (hb : Below W.heap.size W w) => Few_is (c := c1) (d := d1) w (h1.v.below hb) h1.z
  rw [hf] at KF
  replace KF := Lib.hid KF
  have KM := Lib.hid (fun w (hb : Below W.heap.size W w) => VMay_av (h1.below hb))
  have h := lw_one W h1
  clear hW h1 hf h0 hN hM hnM hP hy hz qa qb qc qd qx qy qo hko iA iC hk hn0 hNb
  go_enter Tryd.func3, Tryd.ntmps3
  go_wp2_with fail
  with_reducible refine (lw h (KS.out _ h.out.2.2)).mono ?_
  clear h
  rintro e w ⟨rfl, h⟩
  have xv := h.out.1.c0
  have yv := h.out.1.c1
  go_wp2_with fail
  with_reducible refine (lw h (KF.out _ h.out.2.2)).mono ?_
  clear h xv yv
  rintro e w ⟨rfl, h⟩
  have xv := h.out.1.c0
  have yv := h.out.1.c1
  go_wp2_with fail
  with_reducible refine (lw h (KM.out _ h.out.2.2)).mono ?_
  clear h xv yv
  rintro e w ⟨rfl, h⟩
  have xv := h.out.1.c0
  have yv := h.out.1.c1
  go_wp2_with fail
  with_reducible refine (lw h (KN.out _ h.out.2.2)).mono ?_
  clear h xv yv
  rintro e w ⟨rfl, h⟩
  go_upto_region 6 with fail
  obtain ⟨wz, hwz⟩ : ∃ z, z = w := ⟨_, rfl⟩
  rw [← hwz] at h ⊢
  have uv := h.out.1.c0
  have vv := h.out.1.c1
  have lv := h.out.1.lt
  have hq : Below wz.heap.size wz wz := Below.refl _ _
  have hqz := hq.size
  have Q1 : Hid (∀ z, Below wz.heap.size wz z → Calls Tryd.prog 13 #[.int .i64 (nn : Int)] z fun e w' => e = .returned (.string (S (nn : Int))) ∧ Below wz.heap.size wz w' ∧ Below z.heap.size z w') := Lib.hid (fun z hz => (KO.out (nn : Int) b1'.out z (h.out.2.2.trans (hz.mono h.out.2.2.size))).mono fun e w' h => ⟨h.1, hz.trans (h.2.mono hz.size), h.2⟩)
  have Q2 : Hid (∀ z, Below wz.heap.size wz z → Calls Tryd.prog 12 #[.string (S (nn : Int))] z fun e w' => ∃ a n c b m d, e = .returned (.agg #[.slice a n c, .slice b m d]) ∧ Av w' a n c b m d [] ([(nn : Int)].map S) (some ([], [(nn : Int)])) ∧ Below wz.heap.size wz w' ∧ Below z.heap.size z w') := Lib.hid (fun z hz => (Scalar_pt (S (nn : Int)) z).mono fun e w' (h : PtEnd _ _ _ _ _) => by
    obtain ⟨a, n, c, b, m, d, h1, h2, h3, h4⟩ := h
    exact ⟨a, n, c, b, m, d, h1, Av.pt (q := ([], [(nn : Int)])) h2 h3 (sc_rok s1'.out), hz.trans (h4.mono hz.size), h4⟩)
  have Q3 : Hid (∀ z a0 n0 c0 b0 m0 d0, Below wz.heap.size wz z → Av z a0 n0 c0 b0 m0 d0 [] ([(nn : Int)].map S) (some ([], [(nn : Int)])) → Calls Tryd.prog 11 #[.agg #[.slice a0 n0 c0, .slice b0 m0 d0], .agg #[.slice a1 n1 c1, .slice b1 m1 d1]] z fun e w' => ∃ a n c b m d, e = .returned (.tuple #[.agg #[.slice a n c, .slice b m d], .int .i64 0]) ∧ Av w' a n c b m d (TS (some A)).1 (TS (some A)).2 (some A) ∧ Below wz.heap.size wz w' ∧ Below z.heap.size z w') := Lib.hid (fun z a0 n0 c0 b0 m0 d0 hz hv => by
    have k := MTake_is hv (h.out.2.1.below hz) (KW.out z (h.out.2.2.trans (hz.mono h.out.2.2.size)))
    rw [QA.out] at k
    refine k.mono fun e w' h => ?_
    obtain ⟨a, n, c, b, m, d, h1, h2, h3⟩ := h
    exact ⟨a, n, c, b, m, d, h1, h2, hz.trans (h3.mono hz.size), h3⟩)
  go_cut [8, 9] (fun p q wx => MCut (some A) 0 wz p q wx)
  case first =>
    clear h hwz
    go_region_held3 (fun w' => w'.cell? ⟨W.heap.size, 0, none⟩ = some (.slice a1 n1 c1) ∧ w'.cell? ⟨W.heap.size, 1, none⟩ = some (.slice b1 m1 d1))
      (first | exact ⟨(Below.cell (p := ⟨W.heap.size, 0, none⟩) (by repeat' (first | exact hq | refine Below.drew ?_ | refine below_drewN ?_ _ | refine Below.alloc ?_ ?_ _ | refine Below.setCell ?_ ?_ _ | exact hqz | exact Nat.le_refl _ | omega | (simp; done) | (simp; omega))) lv).trans uv, (Below.cell (p := ⟨W.heap.size, 1, none⟩) (by repeat' (first | exact hq | refine Below.drew ?_ | refine below_drewN ?_ _ | refine Below.alloc ?_ ?_ _ | refine Below.setCell ?_ ?_ _ | exact hqz | exact Nat.le_refl _ | omega | (simp; done) | (simp; omega))) lv).trans vv⟩ | fail)
      (first
        | (go_at_call 13; (with_reducible refine (Q1.out _ (by repeat' (first | exact hq | refine Below.drew ?_ | refine below_drewN ?_ _ | refine Below.alloc ?_ ?_ _ | refine Below.setCell ?_ ?_ _ | exact hqz | exact Nat.le_refl _ | omega | (simp; done) | (simp; omega)))).mono ?_); rintro e wa ⟨rfl, hq, hr⟩; have hqz := hq.size; (try (have hZ1 := Bx.on (by first | exact Bz.d _ _ | exact Bz.e _ _ | exact Bz.f _ _ | exact Bz.g _ _ | exact Bz.h _ _ | exact Bz.i _ _ | exact Bz.j _ _ | exact Bz.k _ _ | exact Bz.a _ | exact Bz.b _ | exact Bz.c _ | exact Bz.l _) hr; have y0 := hZ1.c0; have y1 := hZ1.c1; have g0 := hZ1.f 0; have g1 := hZ1.f 1)))
        | (go_at_call 12; (with_reducible refine (Q2.out _ (by repeat' (first | exact hq | refine Below.drew ?_ | refine below_drewN ?_ _ | refine Below.alloc ?_ ?_ _ | refine Below.setCell ?_ ?_ _ | exact hqz | exact Nat.le_refl _ | omega | (simp; done) | (simp; omega)))).mono ?_); rintro e wa2 ⟨ai, ni, ci, bi, mi, di, rfl, hav, hq, hr⟩; have hqz := hq.size; (try (have hZ2 := Bx.on (by first | exact Bz.d _ _ | exact Bz.e _ _ | exact Bz.f _ _ | exact Bz.g _ _ | exact Bz.h _ _ | exact Bz.i _ _ | exact Bz.j _ _ | exact Bz.k _ _ | exact Bz.a _ | exact Bz.b _ | exact Bz.c _ | exact Bz.l _) hr; have y0 := hZ2.c0; have y1 := hZ2.c1; have g0 := hZ2.f 0; have g1 := hZ2.f 1)); (try (have hZ2 := Bx.on hZ1 hr; have y0 := hZ2.c0; have y1 := hZ2.c1; have g0 := hZ2.f 0; have g1 := hZ2.f 1)); (try (have hZ2 := Bx.on (Bx.drewN hZ1 _) hr; have y0 := hZ2.c0; have y1 := hZ2.c1; have g0 := hZ2.f 0; have g1 := hZ2.f 1)))
        | (go_at_call 11; (with_reducible refine (Q3.out _ _ _ _ _ _ _ (by repeat' (first | exact hq | refine Below.drew ?_ | refine below_drewN ?_ _ | refine Below.alloc ?_ ?_ _ | refine Below.setCell ?_ ?_ _ | exact hqz | exact Nat.le_refl _ | omega | (simp; done) | (simp; omega))) (hav.on (by repeat' (first | exact Below.refl _ _ | refine Below.drew ?_ | refine below_drewN ?_ _ | refine Below.alloc ?_ ?_ _ | exact Nat.le_refl _ | (simp; done) | (simp; omega))))).mono ?_); rintro e wb ⟨a', n', c', b', m', d', rfl, hv', hq, hr⟩; have hqz := hq.size; (try (have hZ3 := Bx.on (by first | exact Bz.d _ _ | exact Bz.e _ _ | exact Bz.f _ _ | exact Bz.g _ _ | exact Bz.h _ _ | exact Bz.i _ _ | exact Bz.j _ _ | exact Bz.k _ _ | exact Bz.a _ | exact Bz.b _ | exact Bz.c _ | exact Bz.l _) hr; have y0 := hZ3.c0; have y1 := hZ3.c1; have g0 := hZ3.f 0; have g1 := hZ3.f 1)); (try (have hZ3 := Bx.on hZ1 hr; have y0 := hZ3.c0; have y1 := hZ3.c1; have g0 := hZ3.f 0; have g1 := hZ3.f 1)); (try (have hZ3 := Bx.on (Bx.drewN hZ1 _) hr; have y0 := hZ3.c0; have y1 := hZ3.c1; have g0 := hZ3.f 0; have g1 := hZ3.f 1)); (try (have hZ3 := Bx.on hZ2 hr; have y0 := hZ3.c0; have y1 := hZ3.c1; have g0 := hZ3.f 0; have g1 := hZ3.f 1)); (try (have hZ3 := Bx.on (Bx.drewN hZ2 _) hr; have y0 := hZ3.c0; have y1 := hZ3.c1; have g0 := hZ3.f 0; have g1 := hZ3.f 1)))
        | fail)
    all_goals
      go_wp2_with fail
      go_meet
      case rel => with_reducible first | exact MCut.new hq hv' | (refine MCut.set hq hv' hZ3 ?_ <;> first | exact Nat.le_refl _ | exact hqz | omega | (simp; done) | (simp; omega))
  case rest =>
    clear hq hqz Q1 Q2 Q3 uv vv lv
    obtain ⟨ga, aa, na, ca, ba, ma, da, rfl, rfl, hX, hA, hbc⟩ := hcut
    replace h := lw_cut h hX hA hbc
    clear hX hA hbc hwz
    go_upto_region 7 with fail
    generalize hwz : wc = wz at *
    have uv := h.out.2.2.1.c0
    have vv := h.out.2.2.1.c1
    have lv := h.out.2.2.1.lt
    have hq : Below wz.heap.size wz wz := Below.refl _ _
    have hqz := hq.size
    have Q1 : Hid (∀ z, Below wz.heap.size wz z → Calls Tryd.prog 13 #[.int .i64 (nn : Int)] z fun e w' => e = .returned (.string (S (nn : Int))) ∧ Below wz.heap.size wz w' ∧ Below z.heap.size z w') := Lib.hid (fun z hz => (KO.out (nn : Int) b1'.out z (h.out.2.2.2.2.trans (hz.mono h.out.2.2.2.2.size))).mono fun e w' h => ⟨h.1, hz.trans (h.2.mono hz.size), h.2⟩)
    have Q2 : Hid (∀ z, Below wz.heap.size wz z → Calls Tryd.prog 12 #[.string (S (nn : Int))] z fun e w' => ∃ a n c b m d, e = .returned (.agg #[.slice a n c, .slice b m d]) ∧ Av w' a n c b m d [] ([(nn : Int)].map S) (some ([], [(nn : Int)])) ∧ Below wz.heap.size wz w' ∧ Below z.heap.size z w') := Lib.hid (fun z hz => (Scalar_pt (S (nn : Int)) z).mono fun e w' (h : PtEnd _ _ _ _ _) => by
      obtain ⟨a, n, c, b, m, d, h1, h2, h3, h4⟩ := h
      exact ⟨a, n, c, b, m, d, h1, Av.pt (q := ([], [(nn : Int)])) h2 h3 (sc_rok s1'.out), hz.trans (h4.mono hz.size), h4⟩)
    have Q3 : Hid (∀ z a0 n0 c0 b0 m0 d0, Below wz.heap.size wz z → Av z a0 n0 c0 b0 m0 d0 [] ([(nn : Int)].map S) (some ([], [(nn : Int)])) → Calls Tryd.prog 14 #[.agg #[.slice a0 n0 c0, .slice b0 m0 d0], .agg #[.slice a1 n1 c1, .slice b1 m1 d1]] z fun e w' => ∃ a n c b m d, e = .returned (.tuple #[.agg #[.slice a n c, .slice b m d], .int .i64 0]) ∧ Av w' a n c b m d (TS (some B)).1 (TS (some B)).2 (some B) ∧ Below wz.heap.size wz w' ∧ Below z.heap.size z w') := Lib.hid (fun z a0 n0 c0 b0 m0 d0 hz hv => by
      have k := MDrop_is hv (h.out.2.2.2.1.below hz) (KW.out z (h.out.2.2.2.2.trans (hz.mono h.out.2.2.2.2.size)))
      rw [QB.out] at k
      refine k.mono fun e w' h => ?_
      obtain ⟨a, n, c, b, m, d, h1, h2, h3⟩ := h
      exact ⟨a, n, c, b, m, d, h1, h2, hz.trans (h3.mono hz.size), h3⟩)
    go_cut [10, 11] (fun p q wx => MCut (some B) 0 wz p q wx)
    case first =>
      clear h hwz
      go_region_held3 (fun w' => w'.cell? ⟨W.heap.size, 0, none⟩ = some (.slice a1 n1 c1) ∧ w'.cell? ⟨W.heap.size, 1, none⟩ = some (.slice b1 m1 d1))
        (first | exact ⟨(Below.cell (p := ⟨W.heap.size, 0, none⟩) (by repeat' (first | exact hq | refine Below.drew ?_ | refine below_drewN ?_ _ | refine Below.alloc ?_ ?_ _ | refine Below.setCell ?_ ?_ _ | exact hqz | exact Nat.le_refl _ | omega | (simp; done) | (simp; omega))) lv).trans uv, (Below.cell (p := ⟨W.heap.size, 1, none⟩) (by repeat' (first | exact hq | refine Below.drew ?_ | refine below_drewN ?_ _ | refine Below.alloc ?_ ?_ _ | refine Below.setCell ?_ ?_ _ | exact hqz | exact Nat.le_refl _ | omega | (simp; done) | (simp; omega))) lv).trans vv⟩ | fail)
        (first
          | (go_at_call 13; (with_reducible refine (Q1.out _ (by repeat' (first | exact hq | refine Below.drew ?_ | refine below_drewN ?_ _ | refine Below.alloc ?_ ?_ _ | refine Below.setCell ?_ ?_ _ | exact hqz | exact Nat.le_refl _ | omega | (simp; done) | (simp; omega)))).mono ?_); rintro e wa ⟨rfl, hq, hr⟩; have hqz := hq.size; (try (have hZ1 := Bx.on (by first | exact Bz.d _ _ | exact Bz.e _ _ | exact Bz.f _ _ | exact Bz.g _ _ | exact Bz.h _ _ | exact Bz.i _ _ | exact Bz.j _ _ | exact Bz.k _ _ | exact Bz.a _ | exact Bz.b _ | exact Bz.c _ | exact Bz.l _) hr; have y0 := hZ1.c0; have y1 := hZ1.c1; have g0 := hZ1.f 0; have g1 := hZ1.f 1)))
          | (go_at_call 12; (with_reducible refine (Q2.out _ (by repeat' (first | exact hq | refine Below.drew ?_ | refine below_drewN ?_ _ | refine Below.alloc ?_ ?_ _ | refine Below.setCell ?_ ?_ _ | exact hqz | exact Nat.le_refl _ | omega | (simp; done) | (simp; omega)))).mono ?_); rintro e wa2 ⟨ai, ni, ci, bi, mi, di, rfl, hav, hq, hr⟩; have hqz := hq.size; (try (have hZ2 := Bx.on (by first | exact Bz.d _ _ | exact Bz.e _ _ | exact Bz.f _ _ | exact Bz.g _ _ | exact Bz.h _ _ | exact Bz.i _ _ | exact Bz.j _ _ | exact Bz.k _ _ | exact Bz.a _ | exact Bz.b _ | exact Bz.c _ | exact Bz.l _) hr; have y0 := hZ2.c0; have y1 := hZ2.c1; have g0 := hZ2.f 0; have g1 := hZ2.f 1)); (try (have hZ2 := Bx.on hZ1 hr; have y0 := hZ2.c0; have y1 := hZ2.c1; have g0 := hZ2.f 0; have g1 := hZ2.f 1)); (try (have hZ2 := Bx.on (Bx.drewN hZ1 _) hr; have y0 := hZ2.c0; have y1 := hZ2.c1; have g0 := hZ2.f 0; have g1 := hZ2.f 1)))
          | (go_at_call 14; (with_reducible refine (Q3.out _ _ _ _ _ _ _ (by repeat' (first | exact hq | refine Below.drew ?_ | refine below_drewN ?_ _ | refine Below.alloc ?_ ?_ _ | refine Below.setCell ?_ ?_ _ | exact hqz | exact Nat.le_refl _ | omega | (simp; done) | (simp; omega))) (hav.on (by repeat' (first | exact Below.refl _ _ | refine Below.drew ?_ | refine below_drewN ?_ _ | refine Below.alloc ?_ ?_ _ | exact Nat.le_refl _ | (simp; done) | (simp; omega))))).mono ?_); rintro e wb ⟨a', n', c', b', m', d', rfl, hv', hq, hr⟩; have hqz := hq.size; (try (have hZ3 := Bx.on (by first | exact Bz.d _ _ | exact Bz.e _ _ | exact Bz.f _ _ | exact Bz.g _ _ | exact Bz.h _ _ | exact Bz.i _ _ | exact Bz.j _ _ | exact Bz.k _ _ | exact Bz.a _ | exact Bz.b _ | exact Bz.c _ | exact Bz.l _) hr; have y0 := hZ3.c0; have y1 := hZ3.c1; have g0 := hZ3.f 0; have g1 := hZ3.f 1)); (try (have hZ3 := Bx.on hZ1 hr; have y0 := hZ3.c0; have y1 := hZ3.c1; have g0 := hZ3.f 0; have g1 := hZ3.f 1)); (try (have hZ3 := Bx.on (Bx.drewN hZ1 _) hr; have y0 := hZ3.c0; have y1 := hZ3.c1; have g0 := hZ3.f 0; have g1 := hZ3.f 1)); (try (have hZ3 := Bx.on hZ2 hr; have y0 := hZ3.c0; have y1 := hZ3.c1; have g0 := hZ3.f 0; have g1 := hZ3.f 1)); (try (have hZ3 := Bx.on (Bx.drewN hZ2 _) hr; have y0 := hZ3.c0; have y1 := hZ3.c1; have g0 := hZ3.f 0; have g1 := hZ3.f 1)))
          | fail)
      all_goals
        go_wp2_with fail
        go_meet
        case rel => with_reducible first | exact MCut.new hq hv' | (refine MCut.set hq hv' hZ3 ?_ <;> first | exact Nat.le_refl _ | exact hqz | omega | (simp; done) | (simp; omega))
    case rest =>
      clear hq hqz Q1 Q2 Q3 uv vv lv
      obtain ⟨gb2, ab2, nb2, cb2, bb2, mb2, db2, rfl, rfl, hX, hA, hbc⟩ := hcut
      replace h := lw_cut h hX hA hbc
      clear hX hA hbc hwz
      go_upto_region 8 with fail
      generalize hwz : wc = wz at *
      have uv := h.out.2.2.2.2.1.c0
      have vv := h.out.2.2.2.2.1.c1
      have lv := h.out.2.2.2.2.1.lt
      have hq : Below wz.heap.size wz wz := Below.refl _ _
      have hqz := hq.size
      have Q1 : Hid (∀ z, Below wz.heap.size wz z → Calls Tryd.prog 13 #[.int .i64 yo] z fun e w' => e = .returned (.string (S yo)) ∧ Below wz.heap.size wz w' ∧ Below z.heap.size z w') := Lib.hid (fun z hz => (KO.out yo b2'.out z (h.out.2.2.2.2.2.2.trans (hz.mono h.out.2.2.2.2.2.2.size))).mono fun e w' h => ⟨h.1, hz.trans (h.2.mono hz.size), h.2⟩)
      have Q2 : Hid (∀ z, Below wz.heap.size wz z → Calls Tryd.prog 12 #[.string (S yo)] z fun e w' => ∃ a n c b m d, e = .returned (.agg #[.slice a n c, .slice b m d]) ∧ Av w' a n c b m d [] ([yo].map S) (some ([], [yo])) ∧ Below wz.heap.size wz w' ∧ Below z.heap.size z w') := Lib.hid (fun z hz => (Scalar_pt (S yo) z).mono fun e w' (h : PtEnd _ _ _ _ _) => by
        obtain ⟨a, n, c, b, m, d, h1, h2, h3, h4⟩ := h
        exact ⟨a, n, c, b, m, d, h1, Av.pt (q := ([], [yo])) h2 h3 (sc_rok s2'.out), hz.trans (h4.mono hz.size), h4⟩)
      have Q3 : Hid (∀ z a0 n0 c0 b0 m0 d0, Below wz.heap.size wz z → Av z a0 n0 c0 b0 m0 d0 [] ([yo].map S) (some ([], [yo])) → Calls Tryd.prog 11 #[.agg #[.slice a0 n0 c0, .slice b0 m0 d0], .agg #[.slice a1 n1 c1, .slice b1 m1 d1]] z fun e w' => ∃ a n c b m d, e = .returned (.tuple #[.agg #[.slice a n c, .slice b m d], .int .i64 0]) ∧ Av w' a n c b m d (TS (some C)).1 (TS (some C)).2 (some C) ∧ Below wz.heap.size wz w' ∧ Below z.heap.size z w') := Lib.hid (fun z a0 n0 c0 b0 m0 d0 hz hv => by
        have k := MTake_is hv (h.out.2.2.2.2.2.1.below hz) (KW.out z (h.out.2.2.2.2.2.2.trans (hz.mono h.out.2.2.2.2.2.2.size)))
        rw [QC.out] at k
        refine k.mono fun e w' h => ?_
        obtain ⟨a, n, c, b, m, d, h1, h2, h3⟩ := h
        exact ⟨a, n, c, b, m, d, h1, h2, hz.trans (h3.mono hz.size), h3⟩)
      go_cut [12, 13] (fun p q wx => MCut (some C) 0 wz p q wx)
      case first =>
        clear h hwz
        go_region_held3 (fun w' => w'.cell? ⟨W.heap.size, 0, none⟩ = some (.slice a1 n1 c1) ∧ w'.cell? ⟨W.heap.size, 1, none⟩ = some (.slice b1 m1 d1))
          (first | exact ⟨(Below.cell (p := ⟨W.heap.size, 0, none⟩) (by repeat' (first | exact hq | refine Below.drew ?_ | refine below_drewN ?_ _ | refine Below.alloc ?_ ?_ _ | refine Below.setCell ?_ ?_ _ | exact hqz | exact Nat.le_refl _ | omega | (simp; done) | (simp; omega))) lv).trans uv, (Below.cell (p := ⟨W.heap.size, 1, none⟩) (by repeat' (first | exact hq | refine Below.drew ?_ | refine below_drewN ?_ _ | refine Below.alloc ?_ ?_ _ | refine Below.setCell ?_ ?_ _ | exact hqz | exact Nat.le_refl _ | omega | (simp; done) | (simp; omega))) lv).trans vv⟩ | fail)
          (first
            | (go_at_call 13; (with_reducible refine (Q1.out _ (by repeat' (first | exact hq | refine Below.drew ?_ | refine below_drewN ?_ _ | refine Below.alloc ?_ ?_ _ | refine Below.setCell ?_ ?_ _ | exact hqz | exact Nat.le_refl _ | omega | (simp; done) | (simp; omega)))).mono ?_); rintro e wa ⟨rfl, hq, hr⟩; have hqz := hq.size; (try (have hZ1 := Bx.on (by first | exact Bz.d _ _ | exact Bz.e _ _ | exact Bz.f _ _ | exact Bz.g _ _ | exact Bz.h _ _ | exact Bz.i _ _ | exact Bz.j _ _ | exact Bz.k _ _ | exact Bz.a _ | exact Bz.b _ | exact Bz.c _ | exact Bz.l _) hr; have y0 := hZ1.c0; have y1 := hZ1.c1; have g0 := hZ1.f 0; have g1 := hZ1.f 1)))
            | (go_at_call 12; (with_reducible refine (Q2.out _ (by repeat' (first | exact hq | refine Below.drew ?_ | refine below_drewN ?_ _ | refine Below.alloc ?_ ?_ _ | refine Below.setCell ?_ ?_ _ | exact hqz | exact Nat.le_refl _ | omega | (simp; done) | (simp; omega)))).mono ?_); rintro e wa2 ⟨ai, ni, ci, bi, mi, di, rfl, hav, hq, hr⟩; have hqz := hq.size; (try (have hZ2 := Bx.on (by first | exact Bz.d _ _ | exact Bz.e _ _ | exact Bz.f _ _ | exact Bz.g _ _ | exact Bz.h _ _ | exact Bz.i _ _ | exact Bz.j _ _ | exact Bz.k _ _ | exact Bz.a _ | exact Bz.b _ | exact Bz.c _ | exact Bz.l _) hr; have y0 := hZ2.c0; have y1 := hZ2.c1; have g0 := hZ2.f 0; have g1 := hZ2.f 1)); (try (have hZ2 := Bx.on hZ1 hr; have y0 := hZ2.c0; have y1 := hZ2.c1; have g0 := hZ2.f 0; have g1 := hZ2.f 1)); (try (have hZ2 := Bx.on (Bx.drewN hZ1 _) hr; have y0 := hZ2.c0; have y1 := hZ2.c1; have g0 := hZ2.f 0; have g1 := hZ2.f 1)))
            | (go_at_call 11; (with_reducible refine (Q3.out _ _ _ _ _ _ _ (by repeat' (first | exact hq | refine Below.drew ?_ | refine below_drewN ?_ _ | refine Below.alloc ?_ ?_ _ | refine Below.setCell ?_ ?_ _ | exact hqz | exact Nat.le_refl _ | omega | (simp; done) | (simp; omega))) (hav.on (by repeat' (first | exact Below.refl _ _ | refine Below.drew ?_ | refine below_drewN ?_ _ | refine Below.alloc ?_ ?_ _ | exact Nat.le_refl _ | (simp; done) | (simp; omega))))).mono ?_); rintro e wb ⟨a', n', c', b', m', d', rfl, hv', hq, hr⟩; have hqz := hq.size; (try (have hZ3 := Bx.on (by first | exact Bz.d _ _ | exact Bz.e _ _ | exact Bz.f _ _ | exact Bz.g _ _ | exact Bz.h _ _ | exact Bz.i _ _ | exact Bz.j _ _ | exact Bz.k _ _ | exact Bz.a _ | exact Bz.b _ | exact Bz.c _ | exact Bz.l _) hr; have y0 := hZ3.c0; have y1 := hZ3.c1; have g0 := hZ3.f 0; have g1 := hZ3.f 1)); (try (have hZ3 := Bx.on hZ1 hr; have y0 := hZ3.c0; have y1 := hZ3.c1; have g0 := hZ3.f 0; have g1 := hZ3.f 1)); (try (have hZ3 := Bx.on (Bx.drewN hZ1 _) hr; have y0 := hZ3.c0; have y1 := hZ3.c1; have g0 := hZ3.f 0; have g1 := hZ3.f 1)); (try (have hZ3 := Bx.on hZ2 hr; have y0 := hZ3.c0; have y1 := hZ3.c1; have g0 := hZ3.f 0; have g1 := hZ3.f 1)); (try (have hZ3 := Bx.on (Bx.drewN hZ2 _) hr; have y0 := hZ3.c0; have y1 := hZ3.c1; have g0 := hZ3.f 0; have g1 := hZ3.f 1)))
            | fail)
        all_goals
          go_wp2_with fail
          go_meet
          case rel => with_reducible first | exact MCut.new hq hv' | (refine MCut.set hq hv' hZ3 ?_ <;> first | exact Nat.le_refl _ | exact hqz | omega | (simp; done) | (simp; omega))
      case rest =>
        clear hq hqz Q1 Q2 Q3 uv vv lv
        obtain ⟨gc2, ac2, nc2, cc2, bc2, mc2, dc2, rfl, rfl, hX, hA, hbc⟩ := hcut
        replace h := lw_cut h hX hA hbc
        clear hX hA hbc hwz
        go_upto_region 9 with fail
        generalize hwz : wc = wz at *
        have uv := h.out.2.2.2.2.2.2.1.c0
        have vv := h.out.2.2.2.2.2.2.1.c1
        have lv := h.out.2.2.2.2.2.2.1.lt
        have hq : Below wz.heap.size wz wz := Below.refl _ _
        have hqz := hq.size
        have Q1 : Hid (∀ z, Below wz.heap.size wz z → Calls Tryd.prog 13 #[.int .i64 yo] z fun e w' => e = .returned (.string (S yo)) ∧ Below wz.heap.size wz w' ∧ Below z.heap.size z w') := Lib.hid (fun z hz => (KO.out yo b2'.out z (h.out.2.2.2.2.2.2.2.2.trans (hz.mono h.out.2.2.2.2.2.2.2.2.size))).mono fun e w' h => ⟨h.1, hz.trans (h.2.mono hz.size), h.2⟩)
        have Q2 : Hid (∀ z, Below wz.heap.size wz z → Calls Tryd.prog 12 #[.string (S yo)] z fun e w' => ∃ a n c b m d, e = .returned (.agg #[.slice a n c, .slice b m d]) ∧ Av w' a n c b m d [] ([yo].map S) (some ([], [yo])) ∧ Below wz.heap.size wz w' ∧ Below z.heap.size z w') := Lib.hid (fun z hz => (Scalar_pt (S yo) z).mono fun e w' (h : PtEnd _ _ _ _ _) => by
          obtain ⟨a, n, c, b, m, d, h1, h2, h3, h4⟩ := h
          exact ⟨a, n, c, b, m, d, h1, Av.pt (q := ([], [yo])) h2 h3 (sc_rok s2'.out), hz.trans (h4.mono hz.size), h4⟩)
        have Q3 : Hid (∀ z a0 n0 c0 b0 m0 d0, Below wz.heap.size wz z → Av z a0 n0 c0 b0 m0 d0 [] ([yo].map S) (some ([], [yo])) → Calls Tryd.prog 14 #[.agg #[.slice a0 n0 c0, .slice b0 m0 d0], .agg #[.slice a1 n1 c1, .slice b1 m1 d1]] z fun e w' => ∃ a n c b m d, e = .returned (.tuple #[.agg #[.slice a n c, .slice b m d], .int .i64 0]) ∧ Av w' a n c b m d (TS (some D)).1 (TS (some D)).2 (some D) ∧ Below wz.heap.size wz w' ∧ Below z.heap.size z w') := Lib.hid (fun z a0 n0 c0 b0 m0 d0 hz hv => by
          have k := MDrop_is hv (h.out.2.2.2.2.2.2.2.1.below hz) (KW.out z (h.out.2.2.2.2.2.2.2.2.trans (hz.mono h.out.2.2.2.2.2.2.2.2.size)))
          rw [QD.out] at k
          refine k.mono fun e w' h => ?_
          obtain ⟨a, n, c, b, m, d, h1, h2, h3⟩ := h
          exact ⟨a, n, c, b, m, d, h1, h2, hz.trans (h3.mono hz.size), h3⟩)
        go_cut [14, 15] (fun p q wx => MCut (some D) 0 wz p q wx)
        case first =>
          clear h hwz
          go_region_held3 (fun w' => w'.cell? ⟨W.heap.size, 0, none⟩ = some (.slice a1 n1 c1) ∧ w'.cell? ⟨W.heap.size, 1, none⟩ = some (.slice b1 m1 d1))
            (first | exact ⟨(Below.cell (p := ⟨W.heap.size, 0, none⟩) (by repeat' (first | exact hq | refine Below.drew ?_ | refine below_drewN ?_ _ | refine Below.alloc ?_ ?_ _ | refine Below.setCell ?_ ?_ _ | exact hqz | exact Nat.le_refl _ | omega | (simp; done) | (simp; omega))) lv).trans uv, (Below.cell (p := ⟨W.heap.size, 1, none⟩) (by repeat' (first | exact hq | refine Below.drew ?_ | refine below_drewN ?_ _ | refine Below.alloc ?_ ?_ _ | refine Below.setCell ?_ ?_ _ | exact hqz | exact Nat.le_refl _ | omega | (simp; done) | (simp; omega))) lv).trans vv⟩ | fail)
            (first
              | (go_at_call 13; (with_reducible refine (Q1.out _ (by repeat' (first | exact hq | refine Below.drew ?_ | refine below_drewN ?_ _ | refine Below.alloc ?_ ?_ _ | refine Below.setCell ?_ ?_ _ | exact hqz | exact Nat.le_refl _ | omega | (simp; done) | (simp; omega)))).mono ?_); rintro e wa ⟨rfl, hq, hr⟩; have hqz := hq.size; (try (have hZ1 := Bx.on (by first | exact Bz.d _ _ | exact Bz.e _ _ | exact Bz.f _ _ | exact Bz.g _ _ | exact Bz.h _ _ | exact Bz.i _ _ | exact Bz.j _ _ | exact Bz.k _ _ | exact Bz.a _ | exact Bz.b _ | exact Bz.c _ | exact Bz.l _) hr; have y0 := hZ1.c0; have y1 := hZ1.c1; have g0 := hZ1.f 0; have g1 := hZ1.f 1)))
              | (go_at_call 12; (with_reducible refine (Q2.out _ (by repeat' (first | exact hq | refine Below.drew ?_ | refine below_drewN ?_ _ | refine Below.alloc ?_ ?_ _ | refine Below.setCell ?_ ?_ _ | exact hqz | exact Nat.le_refl _ | omega | (simp; done) | (simp; omega)))).mono ?_); rintro e wa2 ⟨ai, ni, ci, bi, mi, di, rfl, hav, hq, hr⟩; have hqz := hq.size; (try (have hZ2 := Bx.on (by first | exact Bz.d _ _ | exact Bz.e _ _ | exact Bz.f _ _ | exact Bz.g _ _ | exact Bz.h _ _ | exact Bz.i _ _ | exact Bz.j _ _ | exact Bz.k _ _ | exact Bz.a _ | exact Bz.b _ | exact Bz.c _ | exact Bz.l _) hr; have y0 := hZ2.c0; have y1 := hZ2.c1; have g0 := hZ2.f 0; have g1 := hZ2.f 1)); (try (have hZ2 := Bx.on hZ1 hr; have y0 := hZ2.c0; have y1 := hZ2.c1; have g0 := hZ2.f 0; have g1 := hZ2.f 1)); (try (have hZ2 := Bx.on (Bx.drewN hZ1 _) hr; have y0 := hZ2.c0; have y1 := hZ2.c1; have g0 := hZ2.f 0; have g1 := hZ2.f 1)))
              | (go_at_call 14; (with_reducible refine (Q3.out _ _ _ _ _ _ _ (by repeat' (first | exact hq | refine Below.drew ?_ | refine below_drewN ?_ _ | refine Below.alloc ?_ ?_ _ | refine Below.setCell ?_ ?_ _ | exact hqz | exact Nat.le_refl _ | omega | (simp; done) | (simp; omega))) (hav.on (by repeat' (first | exact Below.refl _ _ | refine Below.drew ?_ | refine below_drewN ?_ _ | refine Below.alloc ?_ ?_ _ | exact Nat.le_refl _ | (simp; done) | (simp; omega))))).mono ?_); rintro e wb ⟨a', n', c', b', m', d', rfl, hv', hq, hr⟩; have hqz := hq.size; (try (have hZ3 := Bx.on (by first | exact Bz.d _ _ | exact Bz.e _ _ | exact Bz.f _ _ | exact Bz.g _ _ | exact Bz.h _ _ | exact Bz.i _ _ | exact Bz.j _ _ | exact Bz.k _ _ | exact Bz.a _ | exact Bz.b _ | exact Bz.c _ | exact Bz.l _) hr; have y0 := hZ3.c0; have y1 := hZ3.c1; have g0 := hZ3.f 0; have g1 := hZ3.f 1)); (try (have hZ3 := Bx.on hZ1 hr; have y0 := hZ3.c0; have y1 := hZ3.c1; have g0 := hZ3.f 0; have g1 := hZ3.f 1)); (try (have hZ3 := Bx.on (Bx.drewN hZ1 _) hr; have y0 := hZ3.c0; have y1 := hZ3.c1; have g0 := hZ3.f 0; have g1 := hZ3.f 1)); (try (have hZ3 := Bx.on hZ2 hr; have y0 := hZ3.c0; have y1 := hZ3.c1; have g0 := hZ3.f 0; have g1 := hZ3.f 1)); (try (have hZ3 := Bx.on (Bx.drewN hZ2 _) hr; have y0 := hZ3.c0; have y1 := hZ3.c1; have g0 := hZ3.f 0; have g1 := hZ3.f 1)))
              | fail)
          all_goals
            go_wp2_with fail
            go_meet
            case rel => with_reducible first | exact MCut.new hq hv' | (refine MCut.set hq hv' hZ3 ?_ <;> first | exact Nat.le_refl _ | exact hqz | omega | (simp; done) | (simp; omega))
        case rest =>
          clear hq hqz Q1 Q2 Q3 uv vv lv
          obtain ⟨gd2, ad2, nd2, cd2, bd2, md2, dd2, rfl, rfl, hX, hA, hbc⟩ := hcut
          replace h := lw_cut h hX hA hbc
          clear hX hA hbc hwz
          have xa := h.out.2.2.2.2.2.2.1.c0
          have ya := h.out.2.2.2.2.2.2.1.c1
          have xb2 := h.out.2.2.2.2.1.c0
          have yb2 := h.out.2.2.2.2.1.c1
          go_wp2_with fail
          have HX := MJoin_is h.out.2.2.2.2.2.2.2.1 h.out.2.2.2.2.2.1
          rw [QX.out] at HX
          with_reducible refine (lw_M h HX).mono ?_
          clear h HX xa ya xb2 yb2
          rintro e wx ⟨ax, nx, cx, bx, mx, dx, rfl, h⟩
          have xd2 := h.out.2.2.1.c0
          have yd2 := h.out.2.2.1.c1
          have xc2 := h.out.2.2.2.2.1.c0
          have yc2 := h.out.2.2.2.2.1.c1
          go_wp2_with fail
          have HX := MJoin_is h.out.2.2.2.1 h.out.2.2.2.2.2.1
          rw [QY.out] at HX
          with_reducible refine (lw_M2 h HX).mono ?_
          clear h HX xd2 yd2 xc2 yc2
          rintro e wy ⟨ay, ny, cy, by', my, dy, rfl, hp, h⟩
          have HLT := Lib.hid (And.intro hp.out.2.2.2.2.2.2.2.2.2.2.1.lt (And.intro hp.out.2.2.2.2.2.2.2.2.1.lt (And.intro hp.out.2.2.2.2.1.lt hp.out.1.lt)))
          clear hp
          go_upto_region 12 with fail
          go_upto_region 12 with fail
          generalize hwz : wy.alloc (.cells #[.slice ay ny cy, .slice by' my dy] 25) = wz at *
          have uv := h.out.2.2.2.2.2.2.2.2.2.2.2.2.1.c0
          have vv := h.out.2.2.2.2.2.2.2.2.2.2.2.2.1.c1
          have lv := h.out.2.2.2.2.2.2.2.2.2.2.2.2.1.lt
          have hq : Below wz.heap.size wz wz := Below.refl _ _
          have hqz := hq.size
          have Q1 : Hid (∀ z, Below wz.heap.size wz z → Calls Tryd.prog 13 #[.int .i64 zo] z fun e w' => e = .returned (.string (S zo)) ∧ Below wz.heap.size wz w' ∧ Below z.heap.size z w') := Lib.hid (fun z hz => (KO.out zo b3'.out z (h.out.2.2.2.2.2.2.2.2.2.2.2.2.2.2.trans (hz.mono h.out.2.2.2.2.2.2.2.2.2.2.2.2.2.2.size))).mono fun e w' h => ⟨h.1, hz.trans (h.2.mono hz.size), h.2⟩)
          have Q2 : Hid (∀ z, Below wz.heap.size wz z → Calls Tryd.prog 12 #[.string (S zo)] z fun e w' => ∃ a n c b m d, e = .returned (.agg #[.slice a n c, .slice b m d]) ∧ Av w' a n c b m d [] ([zo].map S) (some ([], [zo])) ∧ Below wz.heap.size wz w' ∧ Below z.heap.size z w') := Lib.hid (fun z hz => (Scalar_pt (S zo) z).mono fun e w' (h : PtEnd _ _ _ _ _) => by
            obtain ⟨a, n, c, b, m, d, h1, h2, h3, h4⟩ := h
            exact ⟨a, n, c, b, m, d, h1, Av.pt (q := ([], [zo])) h2 h3 (sc_rok s3'.out), hz.trans (h4.mono hz.size), h4⟩)
          have Q3 : Hid (∀ z a0 n0 c0 b0 m0 d0, Below wz.heap.size wz z → Av z a0 n0 c0 b0 m0 d0 [] ([zo].map S) (some ([], [zo])) → Calls Tryd.prog 11 #[.agg #[.slice a0 n0 c0, .slice b0 m0 d0], .agg #[.slice a1 n1 c1, .slice b1 m1 d1]] z fun e w' => ∃ a n c b m d, e = .returned (.tuple #[.agg #[.slice a n c, .slice b m d], .int .i64 ko]) ∧ Av w' a n c b m d (TS O).1 (TS O).2 O ∧ Below wz.heap.size wz w' ∧ Below z.heap.size z w') := Lib.hid (fun z a0 n0 c0 b0 m0 d0 hz hv => by
            have k := MTake_is hv (h.out.2.2.2.2.2.2.2.2.2.2.2.2.2.1.below hz) (KW.out z (h.out.2.2.2.2.2.2.2.2.2.2.2.2.2.2.trans (hz.mono h.out.2.2.2.2.2.2.2.2.2.2.2.2.2.2.size)))
            rw [QO.out] at k
            refine k.mono fun e w' h => ?_
            obtain ⟨a, n, c, b, m, d, h1, h2, h3⟩ := h
            exact ⟨a, n, c, b, m, d, h1, h2, hz.trans (h3.mono hz.size), h3⟩)
          go_cut [20, 21] (fun p q wx => MCut O ko wz p q wx)
          case first =>
            clear h hwz
            go_region_held3 (fun w' => w'.cell? ⟨W.heap.size, 0, none⟩ = some (.slice a1 n1 c1) ∧ w'.cell? ⟨W.heap.size, 1, none⟩ = some (.slice b1 m1 d1))
              (first | exact ⟨(Below.cell (p := ⟨W.heap.size, 0, none⟩) (by repeat' (first | exact hq | refine Below.drew ?_ | refine below_drewN ?_ _ | refine Below.alloc ?_ ?_ _ | refine Below.setCell ?_ ?_ _ | exact hqz | exact Nat.le_refl _ | omega | (simp; done) | (simp; omega))) lv).trans uv, (Below.cell (p := ⟨W.heap.size, 1, none⟩) (by repeat' (first | exact hq | refine Below.drew ?_ | refine below_drewN ?_ _ | refine Below.alloc ?_ ?_ _ | refine Below.setCell ?_ ?_ _ | exact hqz | exact Nat.le_refl _ | omega | (simp; done) | (simp; omega))) lv).trans vv⟩ | fail)
              (first
                | (go_at_call 13; (with_reducible refine (Q1.out _ (by repeat' (first | exact hq | refine Below.drew ?_ | refine below_drewN ?_ _ | refine Below.alloc ?_ ?_ _ | refine Below.setCell ?_ ?_ _ | exact hqz | exact Nat.le_refl _ | omega | (simp; done) | (simp; omega)))).mono ?_); rintro e wa ⟨rfl, hq, hr⟩; have hqz := hq.size; (try (have hZ1 := Bx.on (by first | exact Bz.d _ _ | exact Bz.e _ _ | exact Bz.f _ _ | exact Bz.g _ _ | exact Bz.h _ _ | exact Bz.i _ _ | exact Bz.j _ _ | exact Bz.k _ _ | exact Bz.a _ | exact Bz.b _ | exact Bz.c _ | exact Bz.l _) hr; have y0 := hZ1.c0; have y1 := hZ1.c1; have g0 := hZ1.f 0; have g1 := hZ1.f 1)))
                | (go_at_call 12; (with_reducible refine (Q2.out _ (by repeat' (first | exact hq | refine Below.drew ?_ | refine below_drewN ?_ _ | refine Below.alloc ?_ ?_ _ | refine Below.setCell ?_ ?_ _ | exact hqz | exact Nat.le_refl _ | omega | (simp; done) | (simp; omega)))).mono ?_); rintro e wa2 ⟨ai, ni, ci, bi, mi, di, rfl, hav, hq, hr⟩; have hqz := hq.size; (try (have hZ2 := Bx.on (by first | exact Bz.d _ _ | exact Bz.e _ _ | exact Bz.f _ _ | exact Bz.g _ _ | exact Bz.h _ _ | exact Bz.i _ _ | exact Bz.j _ _ | exact Bz.k _ _ | exact Bz.a _ | exact Bz.b _ | exact Bz.c _ | exact Bz.l _) hr; have y0 := hZ2.c0; have y1 := hZ2.c1; have g0 := hZ2.f 0; have g1 := hZ2.f 1)); (try (have hZ2 := Bx.on hZ1 hr; have y0 := hZ2.c0; have y1 := hZ2.c1; have g0 := hZ2.f 0; have g1 := hZ2.f 1)); (try (have hZ2 := Bx.on (Bx.drewN hZ1 _) hr; have y0 := hZ2.c0; have y1 := hZ2.c1; have g0 := hZ2.f 0; have g1 := hZ2.f 1)))
                | (go_at_call 11; (with_reducible refine (Q3.out _ _ _ _ _ _ _ (by repeat' (first | exact hq | refine Below.drew ?_ | refine below_drewN ?_ _ | refine Below.alloc ?_ ?_ _ | refine Below.setCell ?_ ?_ _ | exact hqz | exact Nat.le_refl _ | omega | (simp; done) | (simp; omega))) (hav.on (by repeat' (first | exact Below.refl _ _ | refine Below.drew ?_ | refine below_drewN ?_ _ | refine Below.alloc ?_ ?_ _ | exact Nat.le_refl _ | (simp; done) | (simp; omega))))).mono ?_); rintro e wb ⟨a', n', c', b', m', d', rfl, hv', hq, hr⟩; have hqz := hq.size; (try (have hZ3 := Bx.on (by first | exact Bz.d _ _ | exact Bz.e _ _ | exact Bz.f _ _ | exact Bz.g _ _ | exact Bz.h _ _ | exact Bz.i _ _ | exact Bz.j _ _ | exact Bz.k _ _ | exact Bz.a _ | exact Bz.b _ | exact Bz.c _ | exact Bz.l _) hr; have y0 := hZ3.c0; have y1 := hZ3.c1; have g0 := hZ3.f 0; have g1 := hZ3.f 1)); (try (have hZ3 := Bx.on hZ1 hr; have y0 := hZ3.c0; have y1 := hZ3.c1; have g0 := hZ3.f 0; have g1 := hZ3.f 1)); (try (have hZ3 := Bx.on (Bx.drewN hZ1 _) hr; have y0 := hZ3.c0; have y1 := hZ3.c1; have g0 := hZ3.f 0; have g1 := hZ3.f 1)); (try (have hZ3 := Bx.on hZ2 hr; have y0 := hZ3.c0; have y1 := hZ3.c1; have g0 := hZ3.f 0; have g1 := hZ3.f 1)); (try (have hZ3 := Bx.on (Bx.drewN hZ2 _) hr; have y0 := hZ3.c0; have y1 := hZ3.c1; have g0 := hZ3.f 0; have g1 := hZ3.f 1)))
                | fail)
            all_goals
              go_wp2_with fail
              go_meet
              case rel => with_reducible first | exact MCut.new hq hv' | (refine MCut.set hq hv' hZ3 ?_ <;> first | exact Nat.le_refl _ | exact hqz | omega | (simp; done) | (simp; omega))
          case rest =>
            clear hq hqz Q1 Q2 Q3 uv vv lv
            obtain ⟨go2, ao2, no2, co2, bo2, mo2, do2, rfl, rfl, hX, hA, hbc⟩ := hcut
            replace h := lw_cut h hX hA hbc
            clear hX hA hbc hwz
            have xx := h.out.2.2.2.2.1.c0
            have yx := h.out.2.2.2.2.1.c1
            have xv := h.out.2.2.2.2.2.2.2.2.2.2.2.2.2.2.1.c0
            have yv := h.out.2.2.2.2.2.2.2.2.2.2.2.2.2.2.1.c1
            go_wp2_with fail
            with_reducible refine (lw h (VSame_av h.out.2.2.2.2.2.1.v h.out.2.2.2.2.2.2.2.2.2.2.2.2.2.2.2.1.v (by have := h.out.2.2.2.2.2.1.n3; omega) (by omega) HD.out.1 HD.out.2)).mono ?_
            clear h xx yx xv yv
            rintro e w ⟨rfl, h⟩
            have xyo := h.out.2.2.1.c0
            have yyo := h.out.2.2.1.c1
            have xv := h.out.2.2.2.2.2.2.2.2.2.2.2.2.2.2.1.c0
            have yv := h.out.2.2.2.2.2.2.2.2.2.2.2.2.2.2.1.c1
            go_wp2_with fail
            with_reducible refine (lw h (VSame_av h.out.2.2.2.1.v h.out.2.2.2.2.2.2.2.2.2.2.2.2.2.2.2.1.v (by have := h.out.2.2.2.1.n3; omega) (by omega) HD.out.1 HD.out.2)).mono ?_
            clear h xyo yyo xv yv
            rintro e w ⟨rfl, h⟩
            have xa := h.out.2.2.2.2.2.2.2.2.2.2.2.2.1.c0
            have ya := h.out.2.2.2.2.2.2.2.2.2.2.2.2.1.c1
            go_wp2_with fail
            have HX := VMany_av h.out.2.2.2.2.2.2.2.2.2.2.2.2.2.1
            rw [h.out.2.2.2.2.2.2.2.2.2.2.2.2.2.1.items.2.1] at HX
            rw [show itV (TS (some A)).1 = (nn : Int) from HI.out.1] at HX
            with_reducible refine (lw h HX).mono ?_
            clear h HX xa ya
            rintro e w ⟨rfl, h⟩
            have xc2 := h.out.2.2.2.2.2.2.2.2.1.c0
            have yc2 := h.out.2.2.2.2.2.2.2.2.1.c1
            go_wp2_with fail
            have HX := VMany_av h.out.2.2.2.2.2.2.2.2.2.1
            rw [h.out.2.2.2.2.2.2.2.2.2.1.items.2.1] at HX
            rw [show itV (TS (some C)).1 = (nn : Int) from HI.out.2] at HX
            with_reducible refine (lw h HX).mono ?_
            clear h HX xc2 yc2
            rintro e w ⟨rfl, h⟩
            go_wp2_with fail
            go_ret
            exact ⟨rfl, h.out.2.2.2.2.2.2.2.2.2.2.2.2.2.2.2.2⟩
end Go.Proofs.YtjpjccilnmlmnaaDoor

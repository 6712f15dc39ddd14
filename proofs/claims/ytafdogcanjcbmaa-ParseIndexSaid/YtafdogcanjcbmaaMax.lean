import Derived.Test.YtafdogcanjcbmaaMaw
/-
  ParseIndex, at every two texts.
-/
namespace Go.Proofs.Ytafdogcanjcbmaa
set_option linter.unusedVariables false
set_option linter.unusedSimpArgs false
open Go.RowKit

/-- What Parse tells of a text: an error, or a tree. -/
theorem parse_cases (s : ByteArray) (hs : s.size ≤ 256) : (∃ p q, (q = 10 ∨ q = 2) ∧ ∀ W, Calls Try.prog 10 #[.string s] W (FlEnd p q W)) ∨
    (∃ ts X d, Run numB s.data.toList 0 ts none ∧ Ln numT (pks ts) (some X) [] ∧ Dp X 1 d ∧ Fw X ∧ X.length ≤ 256 ∧ ∀ W, Calls Try.prog 10 #[.string s] W (PkEnd X W)) := by
  obtain ⟨ts, e, hrun⟩ := Run.any numB s.data.toList 0
  cases e with
  | some q => exact .inl ⟨q, 2, .inr rfl, fun W => Parse_bad s hs ts q hrun W⟩
  | none =>
    obtain ⟨x, r, hR⟩ := Ln.any numT (pks ts)
    have k1 := fun W => Parse_ok s hs ts hrun hR W
    cases ht : told x r with
    | none => exact .inl ⟨_, 2, .inr rfl, fun W => (k1 W).mono fun e W' h => h.none ht⟩
    | some X =>
      have hfew := told_few hs hrun hR ht
      obtain ⟨rfl, rfl⟩ := told_some ht
      have hbr := (run_few hs hrun).2.1
      obtain ⟨d, hd⟩ := hR.tree hbr
      by_cases h40 : 40 < d
      · refine .inl ⟨0, 10, .inl rfl, fun W => (k1 W).mono ?_⟩
        rintro e W' ⟨hb, ⟨h1, _⟩ | ⟨Y, d2, h1, h2, ⟨_, h3⟩ | ⟨h3, _⟩⟩⟩
        · cases h1
        · exact ⟨h3, hb⟩
        · injection h1 with h1
          subst h1
          have := (hd.det h2).2
          omega
      · exact .inr ⟨ts, X, d, hrun, hR, hd, ⟨by omega, hR.ns (P := fun _ => True) (fun _ _ => trivial) hbr⟩, hfew, fun W => (k1 W).mono fun e W' h => h.tree hd (by omega)⟩
/-- A tree's head in memory. -/
theorem head_cell {X : List Tn} (hpos : 0 < X.length) : ∃ (k0 : Int) (xm : Nat), k0 = (X[0]'hpos).k ∧ X.length = xm + 1 ∧ ∀ w a n c, Nx w a n c X → ∃ b off, a = some ⟨b, off, none⟩ ∧ w.cell? ⟨b, off, none⟩ = some (.int .i64 k0) ∧ n = xm + 1 := by
  refine ⟨_, X.length - 1, rfl, by omega, fun w a n c h => ?_⟩
  obtain ⟨hn, b, off, rfl, hc⟩ := h.kinds hpos
  have := hc 0 hpos
  rw [Nat.zero_mul, Nat.add_zero] at this
  exact ⟨b, off, rfl, this, by omega⟩
theorem is_expr {ts : List Tk} {X : List Tn} (hR : Ln numT (pks ts) (some X) []) (hpos : 0 < X.length) (h : ¬ (5 ≤ (X[0]'hpos).k ∧ (X[0]'hpos).k ≤ 7)) : Rd' numT .expr (ts.map Tk.pk) (some X) [] := by
  refine hR.expr fun n Y hY => ?_
  have h0 : (X[0]'hpos).k = n.k := by
    subst hY
    rfl
  omega
set_option maxHeartbeats 6400000 in
set_option maxRecDepth 10000 in
theorem index_any (s m : ByteArray) (hs : s.size ≤ 4611686018427387903) (hm : m.size ≤ 4611686018427387903) (W : World) : Calls Try.prog 8 #[.string s, .string m] W (TrueEnd W) := by
  have KS := Lib.hid (fun w => shown_is w)
  have hz0 : (0 : Int) ≤ (s.size : Int) := Int.natCast_nonneg _
  have hz1 : (0 : Int) ≤ (m.size : Int) := Int.natCast_nonneg _
  by_cases hz : 200 < s.size + m.size
  · have e1 : (200 : Int) < (s.size : Int) + (m.size : Int) := by omega
    clear hz
    go_enter Try.func8, Try.ntmps8
    go_wp2_with fail
    refine (KS.out _).mono ?_
    rintro e w1 ⟨rfl, hb1⟩
    go_wp2_with fail
    go_ret
    exact ⟨rfl, hb1⟩
  have e1 : ¬ (200 : Int) < (s.size : Int) + (m.size : Int) := by omega
  have anyB : ∃ p q, ∀ W, Calls Try.prog 10 #[.string m] W (SlEnd p q W) := by
    rcases parse_cases m (by omega) with ⟨p, q, _, h⟩ | ⟨ts, X, d, _, _, _, _, _, h⟩
    · exact ⟨p, q, fun W => (h W).mono fun _ _ h => h.sl⟩
    · exact ⟨0, 0, fun W => (h W).mono fun _ _ ⟨a, n, c, he, _, hb⟩ => ⟨a, n, c, he, hb⟩⟩
  rcases parse_cases s (by omega) with ⟨p, q, hq, k1⟩ | ⟨ts, X, dx, hrun, hR, hdx, fX, lX, k1⟩
  · obtain ⟨p2, q2, k2⟩ := anyB
    have K1 := Lib.hid k1
    have K2 := Lib.hid k2
    clear k1 k2 hz
    rcases hq with rfl | rfl
    all_goals
      go_enter Try.func8, Try.ntmps8
      go_wp2_with fail
      refine (KS.out _).mono ?_
      rintro e w0 ⟨rfl, hb0⟩
      have HB0 := Lib.hid hb0
      clear hb0
      go_wp2_with fail
      refine (K1.out _).mono ?_
      rintro e w1 ⟨rfl, hb1⟩
      have HB1 := Lib.hid (HB0.out.trans (hb1.mono HB0.out.size))
      clear hb1 HB0
      go_wp2_with fail
      refine (K2.out _).mono ?_
      rintro e w2 ⟨a2, n2, c2, rfl, hb2⟩
      have HB2 := Lib.hid (HB1.out.trans (hb2.mono HB1.out.size))
      clear hb2 HB1
      go_wp2_with fail
      go_ret
      exact ⟨rfl, HB2.out⟩
  clear anyB
  have K1 := Lib.hid k1
  clear k1
  rcases parse_cases m (by omega) with ⟨p2, q2, hq, k2⟩ | ⟨us, Y, dy, hrun2, hR2, hdy, fY, lY, k2⟩
  · have K2 := Lib.hid k2
    clear k2 hz hrun hR hdx fX lX
    rcases hq with rfl | rfl
    all_goals
      go_enter Try.func8, Try.ntmps8
      go_wp2_with fail
      refine (KS.out _).mono ?_
      rintro e w0 ⟨rfl, hb0⟩
      have HB0 := Lib.hid hb0
      clear hb0
      go_wp2_with fail
      refine (K1.out _).mono ?_
      rintro e w1 ⟨a1, n1, c1, rfl, hN1, hb1⟩
      have HB1 := Lib.hid (HB0.out.trans (hb1.mono HB0.out.size))
      clear hb1 HB0 hN1
      go_wp2_with fail
      refine (K2.out _).mono ?_
      rintro e w2 ⟨rfl, hb2⟩
      have HB2 := Lib.hid (HB1.out.trans (hb2.mono HB1.out.size))
      clear hb2 HB1
      go_wp2_with fail
      go_ret
      exact ⟨rfl, HB2.out⟩
  have K2 := Lib.hid k2
  clear k2
  have px := dp_pos hdx
  have py := dp_pos hdy
  obtain ⟨kx, xm, hkx, hxl, hk1⟩ := head_cell px
  obtain ⟨ky, ym, hky, hyl, hk2⟩ := head_cell py
  have HK1 := Lib.hid hk1
  have HK2 := Lib.hid hk2
  have i1 : (0 : Int) < (xm : Int) + 1 := by omega
  have i2 : (0 : Int) < (ym : Int) + 1 := by omega
  have j1 : ((xm : Int) + 1 == 0) = false := beq_eq_false_iff_ne.2 (by omega)
  have j2 : ((ym : Int) + 1 == 0) = false := beq_eq_false_iff_ne.2 (by omega)
  have HXL := Lib.hid (⟨by omega, by omega⟩ : X.length ≤ 1000 ∧ Y.length ≤ 1000)
  have HDX := Lib.hid hdx
  have HDY := Lib.hid hdy
  clear hk1 hk2
  by_cases hx : 5 ≤ kx ∧ kx ≤ 7
  · obtain ⟨g1, g2⟩ := hx
    clear hz hrun hR hdx fX lX hrun2 hR2 hdy fY lY hkx hky hxl hyl
    go_enter Try.func8, Try.ntmps8
    go_wp2_with fail
    refine (KS.out _).mono ?_
    rintro e w0 ⟨rfl, hb0⟩
    have HB0 := Lib.hid hb0
    clear hb0
    go_wp2_with fail
    refine (K1.out _).mono ?_
    rintro e w1 ⟨a1, n1, c1, rfl, hN1, hb1⟩
    have HB1 := Lib.hid (HB0.out.trans (hb1.mono HB0.out.size))
    have HX1 := Lib.hid ((Nxs.nil w1).cons hN1)
    clear hb1 hN1 HB0
    go_wp2_with fail
    refine (K2.out _).mono ?_
    rintro e w2 ⟨a2, n2, c2, rfl, hN2, hb2⟩
    have HB2 := Lib.hid (HB1.out.trans (hb2.mono HB1.out.size))
    have HX2 := Lib.hid ((HX1.out.below hb2).cons hN2)
    obtain ⟨b2, off2, rfl, hc2, hn2⟩ := HK2.out _ _ _ _ hN2
    obtain ⟨b1, off1, rfl, hc1, hn1⟩ := HK1.out _ _ _ _ (HX2.out.get (a := a1) (n := n1) (c := c1) (X := X) (by simp))
    subst hn1 hn2
    clear hb2 hN2 HX1 HB1
    go_wp2_with fail
    go_ret
    exact ⟨rfl, HB2.out⟩
  have gx : ¬ (5 : Int) ≤ kx ∨ (5 ≤ kx ∧ ¬ kx ≤ 7) := by omega
  by_cases hy : 5 ≤ ky ∧ ky ≤ 7
  · obtain ⟨h1, h2⟩ := hy
    clear hz hrun hR hdx fX lX hrun2 hR2 hdy fY lY hkx hky hxl hyl hx
    rcases gx with g1 | ⟨g1, g2⟩
    all_goals
      go_enter Try.func8, Try.ntmps8
      go_wp2_with fail
      refine (KS.out _).mono ?_
      rintro e w0 ⟨rfl, hb0⟩
      have HB0 := Lib.hid hb0
      clear hb0
      go_wp2_with fail
      refine (K1.out _).mono ?_
      rintro e w1 ⟨a1, n1, c1, rfl, hN1, hb1⟩
      have HB1 := Lib.hid (HB0.out.trans (hb1.mono HB0.out.size))
      have HX1 := Lib.hid ((Nxs.nil w1).cons hN1)
      clear hb1 hN1 HB0
      go_wp2_with fail
      refine (K2.out _).mono ?_
      rintro e w2 ⟨a2, n2, c2, rfl, hN2, hb2⟩
      have HB2 := Lib.hid (HB1.out.trans (hb2.mono HB1.out.size))
      have HX2 := Lib.hid ((HX1.out.below hb2).cons hN2)
      obtain ⟨b2, off2, rfl, hc2, hn2⟩ := HK2.out _ _ _ _ hN2
      obtain ⟨b1, off1, rfl, hc1, hn1⟩ := HK1.out _ _ _ _ (HX2.out.get (a := a1) (n := n1) (c := c1) (X := X) (by simp))
      subst hn1 hn2
      clear hb2 hN2 HX1 HB1
      go_wp2_with fail
      go_ret
      exact ⟨rfl, HB2.out⟩
  have gy : ¬ (5 : Int) ≤ ky ∨ (5 ≤ ky ∧ ¬ ky ≤ 7) := by omega
  by_cases h36 : 36 < dx ∨ 36 < dy
  · have hmx : ((dy : Int) ≤ (dx : Int) ∧ (36 : Int) < (dx : Int)) ∨ (¬ (dy : Int) ≤ (dx : Int) ∧ (36 : Int) < (dy : Int)) := by omega
    clear hz hrun hR hdx fX lX hrun2 hR2 hdy fY lY hkx hky hxl hyl hx hy h36
    rcases gx with g1 | ⟨g1, g2⟩ <;> rcases gy with g3 | ⟨g3, g4⟩ <;> rcases hmx with ⟨m1, m2⟩ | ⟨m1, m2⟩
    all_goals
      go_enter Try.func8, Try.ntmps8
      go_wp2_with fail
      refine (KS.out _).mono ?_
      rintro e w0 ⟨rfl, hb0⟩
      have HB0 := Lib.hid hb0
      clear hb0
      go_wp2_with fail
      refine (K1.out _).mono ?_
      rintro e w1 ⟨a1, n1, c1, rfl, hN1, hb1⟩
      have HB1 := Lib.hid (HB0.out.trans (hb1.mono HB0.out.size))
      have HX1 := Lib.hid ((Nxs.nil w1).cons hN1)
      clear hb1 hN1 HB0
      go_wp2_with fail
      refine (K2.out _).mono ?_
      rintro e w2 ⟨a2, n2, c2, rfl, hN2, hb2⟩
      have HB2 := Lib.hid (HB1.out.trans (hb2.mono HB1.out.size))
      have HX2 := Lib.hid ((HX1.out.below hb2).cons hN2)
      obtain ⟨b2, off2, rfl, hc2, hn2⟩ := HK2.out _ _ _ _ hN2
      obtain ⟨b1, off1, rfl, hc1, hn1⟩ := HK1.out _ _ _ _ (HX2.out.get (a := a1) (n := n1) (c := c1) (X := X) (by simp))
      subst hn1 hn2
      clear hb2 hN2 HX1 HB1
      have KD1 := Lib.hid (depth_nx (w := w2) HXL.out.1 (HX2.out.get (a := some ⟨b1, off1, none⟩) (n := xm + 1) (c := c1) (X := X) (by simp)) HDX.out)
      go_wp2_with fail
      refine KD1.out.mono ?_
      rintro e w3 ⟨rfl, hb3⟩
      have HB3 := Lib.hid (HB2.out.trans (hb3.mono HB2.out.size))
      have HX3 := Lib.hid (HX2.out.below hb3)
      clear hb3 HB2 HX2 KD1
      have KD2 := Lib.hid (depth_nx (w := w3) HXL.out.2 (HX3.out.get (a := some ⟨b2, off2, none⟩) (n := ym + 1) (c := c2) (X := Y) (by simp)) HDY.out)
      go_wp2_with fail
      refine KD2.out.mono ?_
      rintro e w4 ⟨rfl, hb4⟩
      have HB4 := Lib.hid (HB3.out.trans (hb4.mono HB3.out.size))
      have HX4 := Lib.hid (HX3.out.below hb4)
      clear hb4 HB3 HX3 KD2
      go_wp2_with fail
      go_ret
      exact ⟨rfl, HB4.out⟩
  have hmx : (dy : Int) ≤ (dx : Int) ∨ ¬ (dy : Int) ≤ (dx : Int) := by omega
  have m3 : ¬ (36 : Int) < (dx : Int) := by omega
  have m4 : ¬ (36 : Int) < (dy : Int) := by omega
  have hlx := is_expr hR px (by rw [← hkx]; exact hx)
  have hly := is_expr hR2 py (by rw [← hky]; exact hy)
  obtain ⟨u3, r3, q3⟩ := in_two hrun hlx hrun2 hly (by decide)
  rw [show numT [49] = [49] by decide] at q3
  have z1 : ((⟨#[49, 43, 113, 91]⟩ : ByteArray) ++ s).size ≤ 256 := by rw [ByteArray.size_append, show (⟨#[49, 43, 113, 91]⟩ : ByteArray).size = 4 from rfl]; omega
  have z2 : ((⟨#[49, 43, 113, 91]⟩ : ByteArray) ++ s ++ ⟨#[93, 91]⟩).size ≤ 256 := by rw [ByteArray.size_append, ByteArray.size_append, show (⟨#[49, 43, 113, 91]⟩ : ByteArray).size = 4 from rfl, show (⟨#[93, 91]⟩ : ByteArray).size = 2 from rfl]; omega
  have z3 : ((⟨#[49, 43, 113, 91]⟩ : ByteArray) ++ s ++ ⟨#[93, 91]⟩ ++ m).size ≤ 256 := by rw [ByteArray.size_append, ByteArray.size_append, ByteArray.size_append, show (⟨#[49, 43, 113, 91]⟩ : ByteArray).size = 4 from rfl, show (⟨#[93, 91]⟩ : ByteArray).size = 2 from rfl]; omega
  have z4 : ((⟨#[49, 43, 113, 91]⟩ : ByteArray) ++ s ++ ⟨#[93, 91]⟩ ++ m ++ ⟨#[93]⟩).size ≤ 256 := by rw [ByteArray.size_append, ByteArray.size_append, ByteArray.size_append, ByteArray.size_append, show (⟨#[49, 43, 113, 91]⟩ : ByteArray).size = 4 from rfl, show (⟨#[93, 91]⟩ : ByteArray).size = 2 from rfl, show (⟨#[93]⟩ : ByteArray).size = 1 from rfl]; omega
  have K3 := Lib.hid (fun W => Parse_put z4 (by rw [cat3, cat3]; simpa using r3) q3 (dp_two rfl (dp_leaf (.inl rfl)) (dp_two rfl (dp_two rfl (dp_leaf (.inr rfl)) hdx) hdy)) (by omega) W)
  have HF := Lib.hid (⟨fX, fY, ⟨by simp, fun t ht => by rcases List.mem_singleton.1 ht with rfl; decide⟩, ⟨by simp, fun t ht => by rcases List.mem_singleton.1 ht with rfl; exact Nat.zero_le _⟩⟩ : Fw X ∧ Fw Y ∧ Fw [(⟨1, [], [], [], [[49]]⟩ : Tn)] ∧ Fw [(⟨2, [], [], [113], []⟩ : Tn)])
  have HL := Lib.hid (⟨lX, lY⟩ : X.length ≤ 256 ∧ Y.length ≤ 256)
  clear hz hrun hR hdx fX lX hrun2 hR2 hdy fY lY hkx hky hxl hyl hx hy h36 hlx hly r3 q3
  rcases gx with g1 | ⟨g1, g2⟩ <;> rcases gy with g3 | ⟨g3, g4⟩ <;> rcases hmx with m1 | m1
  all_goals
    go_enter Try.func8, Try.ntmps8
    go_wp2_with fail
    refine (KS.out _).mono ?_
    rintro e w0 ⟨rfl, hb0⟩
    have HB0 := Lib.hid hb0
    clear hb0
    go_wp2_with fail
    refine (K1.out _).mono ?_
    rintro e w1 ⟨a1, n1, c1, rfl, hN1, hb1⟩
    have HB1 := Lib.hid (HB0.out.trans (hb1.mono HB0.out.size))
    have HX1 := Lib.hid ((Nxs.nil w1).cons hN1)
    clear hb1 hN1 HB0
    go_wp2_with fail
    refine (K2.out _).mono ?_
    rintro e w2 ⟨a2, n2, c2, rfl, hN2, hb2⟩
    have HB2 := Lib.hid (HB1.out.trans (hb2.mono HB1.out.size))
    have HX2 := Lib.hid ((HX1.out.below hb2).cons hN2)
    obtain ⟨b2, off2, rfl, hc2, hn2⟩ := HK2.out _ _ _ _ hN2
    obtain ⟨b1, off1, rfl, hc1, hn1⟩ := HK1.out _ _ _ _ (HX2.out.get (a := a1) (n := n1) (c := c1) (X := X) (by simp))
    subst hn1 hn2
    clear hb2 hN2 HX1 HB1
    have KD1 := Lib.hid (depth_nx (w := w2) HXL.out.1 (HX2.out.get (a := some ⟨b1, off1, none⟩) (n := xm + 1) (c := c1) (X := X) (by simp)) HDX.out)
    go_wp2_with fail
    refine KD1.out.mono ?_
    rintro e w3 ⟨rfl, hb3⟩
    have HB3 := Lib.hid (HB2.out.trans (hb3.mono HB2.out.size))
    have HX3 := Lib.hid (HX2.out.below hb3)
    clear hb3 HB2 HX2 KD1
    have KD2 := Lib.hid (depth_nx (w := w3) HXL.out.2 (HX3.out.get (a := some ⟨b2, off2, none⟩) (n := ym + 1) (c := c2) (X := Y) (by simp)) HDY.out)
    go_wp2_with fail
    refine KD2.out.mono ?_
    rintro e w4 ⟨rfl, hb4⟩
    have HB4 := Lib.hid (HB3.out.trans (hb4.mono HB3.out.size))
    have HX4 := Lib.hid (HX3.out.below hb4)
    clear hb4 HB3 HX3 KD2
    go_wp2_with fail
    refine (K3.out _).mono ?_
    rintro e w5 ⟨a5, n5, c5, rfl, hN5, hb5⟩
    have HB5 := Lib.hid (HB4.out.trans (hb5.mono HB4.out.size))
    have HX5 := Lib.hid ((HX4.out.below hb5).cons hN5)
    clear hb5 hN5 HB4 HX4
    have hb6 := box_below w5 (.cells #[.string ⟨#[49]⟩] 9)
    have hSt : St (w5.alloc (.cells #[.string ⟨#[49]⟩] 9)) (some ⟨w5.heap.size, 0, none⟩) 1 [⟨#[49]⟩] := ⟨rfl, fun _ => ⟨w5.heap.size, 0, rfl, fun j hj => by
      obtain rfl : j = 0 := by omega
      exact (Bk.new 9 w5 [.string ⟨#[49]⟩]).p0⟩⟩
    have hsz6 : (w5.alloc (.cells #[.string ⟨#[49]⟩] 9)).heap.size = w5.heap.size + 1 := by simp
    have hnm := nx_one (w := w5.alloc (.cells #[.string ⟨#[49]⟩] 9)) (d := litD (some ⟨w5.heap.size, 0, none⟩) 1 1 [⟨#[49]⟩]) (cs := #[.int .i64 1, .string ⟨#[]⟩, .string ⟨#[]⟩, .string ⟨#[]⟩, .slice (some ⟨w5.heap.size, 0, none⟩) 1 1]) rfl (litD_on hSt (Nat.le_refl _) (by unfold maxLen; omega) (fun s hs => by rcases List.mem_singleton.1 hs with rfl; decide))
    rw [hsz6, show tnOf (litD (some ⟨w5.heap.size, 0, none⟩) 1 1 [⟨#[49]⟩]) = (⟨1, [], [], [], [[49]]⟩ : Tn) from rfl] at hnm
    have hal := hb6.alloc hb6.size (.cells #[.int .i64 1, .string ⟨#[]⟩, .string ⟨#[]⟩, .string ⟨#[]⟩, .slice (some ⟨w5.heap.size, 0, none⟩) 1 1] 34)
    have HX6 := Lib.hid (show Nxs ((w5.alloc (.cells #[.string ⟨#[49]⟩] 9)).alloc (.cells #[.int .i64 1, .string ⟨#[]⟩, .string ⟨#[]⟩, .string ⟨#[]⟩, .slice (some ⟨w5.heap.size, 0, none⟩) 1 1] 34)) _ from (HX5.out.below hal).cons hnm)
    have HB6 := Lib.hid (HB5.out.trans (hal.mono HB5.out.size))
    clear hnm hal hb6 hSt hsz6 HX5 HB5
    go_upto_region 10 with fail
    generalize ((w5.alloc (.cells #[.string ⟨#[49]⟩] 9)).alloc (.cells #[.int .i64 1, .string ⟨#[]⟩, .string ⟨#[]⟩, .string ⟨#[]⟩, .slice (some ⟨w5.heap.size, 0, none⟩) 1 1] 34)) = w6 at *
    have hnm := nx_one (w := w6) (d := nameN ⟨#[113]⟩) (cs := #[.int .i64 2, .string ⟨#[]⟩, .string ⟨#[]⟩, .string ⟨#[113]⟩, .slice none 0 0]) rfl (nameN_on ⟨#[113]⟩ w6 (by decide))
    rw [show tnOf (nameN ⟨#[113]⟩) = (⟨2, [], [], [113], []⟩ : Tn) from rfl] at hnm
    have hal := box_below w6 (.cells #[.int .i64 2, .string ⟨#[]⟩, .string ⟨#[]⟩, .string ⟨#[113]⟩, .slice none 0 0] 34)
    have HX7 := Lib.hid (show Nxs (w6.alloc (.cells #[.int .i64 2, .string ⟨#[]⟩, .string ⟨#[]⟩, .string ⟨#[113]⟩, .slice none 0 0] 34)) _ from (HX6.out.below hal).cons hnm)
    have HB7 := Lib.hid (HB6.out.trans (hal.mono HB6.out.size))
    clear hnm hal HX6 HB6
    go_upto_region 11 with fail
    generalize w6.alloc (.cells #[.int .i64 2, .string ⟨#[]⟩, .string ⟨#[]⟩, .string ⟨#[113]⟩, .slice none 0 0] 34) = w7 at *
    go_wp2_with fail
    refine (Node_nx2 w7 8 ⟨#[]⟩ ⟨#[]⟩ ⟨#[]⟩ (by decide) (by decide) (by decide) (by decide) (HX7.out.get (X := [(⟨2, [], [], [113], []⟩ : Tn)]) (List.mem_cons_self)) (HX7.out.get (a := some ⟨b1, off1, none⟩) (n := xm + 1) (c := c1) (X := X) (by simp)) HF.out.2.2.2 HF.out.1 (by have := HL.out; show 1 + X.length ≤ _; omega)).mono ?_
    rintro e w8 ⟨a8, n8, c8, rfl, hN8, hb8⟩
    have HX8 := Lib.hid ((HX7.out.below hb8).cons hN8)
    have HB8 := Lib.hid (HB7.out.trans (hb8.mono HB7.out.size))
    have HF8 := Lib.hid (show Fw (⟨8, [], [], [], []⟩ :: ([⟨2, [], [], [113], []⟩] ++ X)) from ⟨by have := HL.out; simp; omega, fun t ht => by
      rcases List.mem_cons.1 ht with rfl | ht
      · exact Nat.zero_le _
      · rcases List.mem_append.1 ht with ht | ht
        · exact HF.out.2.2.2.2 t ht
        · exact HF.out.1.2 t ht⟩)
    clear hb8 hN8 HX7 HB7
    go_wp2_with fail
    refine (Node_nx2 w8 8 ⟨#[]⟩ ⟨#[]⟩ ⟨#[]⟩ (by decide) (by decide) (by decide) (by decide) (HX8.out.get (X := ⟨8, [], [], [], []⟩ :: ([⟨2, [], [], [113], []⟩] ++ X)) (List.mem_cons_self)) (HX8.out.get (a := some ⟨b2, off2, none⟩) (n := ym + 1) (c := c2) (X := Y) (by simp)) HF8.out HF.out.2.1 (by have := HL.out; simp; omega)).mono ?_
    rintro e w9 ⟨a9, n9, c9, rfl, hN9, hb9⟩
    have HX9 := Lib.hid ((HX8.out.below hb9).cons hN9)
    have HB9 := Lib.hid (HB8.out.trans (hb9.mono HB8.out.size))
    have HF9 := Lib.hid (show Fw (⟨8, [], [], [], []⟩ :: ((⟨8, [], [], [], []⟩ :: ([⟨2, [], [], [113], []⟩] ++ X)) ++ Y)) from ⟨by have := HL.out; simp; omega, fun t ht => by
      rcases List.mem_cons.1 ht with rfl | ht
      · exact Nat.zero_le _
      · rcases List.mem_append.1 ht with ht | ht
        · exact HF8.out.2 t ht
        · exact HF.out.2.1.2 t ht⟩)
    clear hb9 hN9 HX8 HB8
    go_wp2_with fail
    refine (Node_nx2 w9 4 ⟨#[43]⟩ ⟨#[]⟩ ⟨#[]⟩ (by decide) (by decide) (by decide) (by decide) (HX9.out.get (X := [(⟨1, [], [], [], [[49]]⟩ : Tn)]) (by simp)) (HX9.out.get (a := a9) (n := n9) (c := c9) (X := ⟨8, [], [], [], []⟩ :: ((⟨8, [], [], [], []⟩ :: ([⟨2, [], [], [113], []⟩] ++ X)) ++ Y)) (List.mem_cons_self)) HF.out.2.2.1 HF9.out (by have := HL.out; simp; omega)).mono ?_
    rintro e w10 ⟨a10, n10, c10, rfl, hN10, hb10⟩
    have HX10 := Lib.hid ((HX9.out.below hb10).cons hN10)
    have HB10 := Lib.hid (HB9.out.trans (hb10.mono HB9.out.size))
    clear hb10 hN10 HX9 HB9
    go_wp2_with fail
    refine (same_nx (X := ⟨4, [43], [], [], []⟩ :: ([⟨1, [], [], [], [[49]]⟩] ++ (⟨8, [], [], [], []⟩ :: ((⟨8, [], [], [], []⟩ :: ([⟨2, [], [], [113], []⟩] ++ X)) ++ Y)))) (by have := HL.out; simp; omega) (HX10.out.get (a := a5) (n := n5) (c := c5) (by simp)) (HX10.out.get (a := a10) (n := n10) (c := c10) (List.mem_cons_self))).mono ?_
    rintro e w11 ⟨rfl, hb11⟩
    have HB11 := Lib.hid (HB10.out.trans (hb11.mono HB10.out.size))
    clear hb11 HX10 HB10
    go_wp2_with fail
    go_ret
    exact ⟨rfl, HB11.out⟩
end Go.Proofs.Ytafdogcanjcbmaa

/-
  TypedNarrow at every typed array.
-/
import Derived.Test.YtdehcdnbalbdbaaDoorTl
import Derived.Deep.RegionHeld3
import Derived.Deep.DeepCutAuto
namespace Go.Proofs.YtdehcdnbalbdbaaDoor
open Go.RowKit

/-- What behind the first narrowing is kept: a box with the narrow array in it. -/
def NarCut (w3 : World) (w : Int) (l : List Int) (s : ByteArray) (p q : Value) (wx : World) : Prop :=
  ∃ g a n c, p = .pointer (some ⟨g, 0, none⟩) ∧ q = .bool true ∧ Tx 29 wx g w a n c s ∧ Sl wx a n l ∧ n ≤ 20 ∧ Below w3.heap.size w3 wx
theorem NarCut.new {w3 wb : World} {w : Int} {l : List Int} {s : ByteArray} {a : Option Addr} {n c B : Nat} (hb : Below w3.heap.size w3 wb) (hs : Fs wb B a n l) (hn : n ≤ 20) :
    NarCut w3 w l s (.pointer (some ⟨wb.heap.size, 0, none⟩)) (.bool true) (wb.alloc (.cells #[.int .i64 w, .slice a n c, .string s] 29)) :=
  ⟨_, a, n, c, rfl, rfl, Tx.new _ _ _ _ _ _ _, hs.1.below (box_below _ _), hn, hb.alloc hb.size _⟩
theorem NarCut.set {w3 wb : World} {w : Int} {l : List Int} {s : ByteArray} {a : Option Addr} {n c B g : Nat} (hb : Below w3.heap.size w3 wb) (hs : Fs wb B a n l) (hn : n ≤ 20) (hZ : Tx 29 wb g 0 none 0 0 ⟨#[]⟩) (hg : g < B) (h3 : w3.heap.size ≤ g) :
    NarCut w3 w l s (.pointer (some ⟨g, 0, none⟩)) (.bool true) (((wb.setCell ⟨g, 0, none⟩ (.int .i64 w)).setCell ⟨g, 1, none⟩ (.slice a n c)).setCell ⟨g, 2, none⟩ (.string s)) :=
  ⟨_, a, n, c, rfl, rfl, hZ.set _ _ _ _ _, fs_box (W := w3) hs hg _ _ _, hn, below_made3 hb h3 _ _ _⟩
def NarNo (w3 : World) (p q : Value) (wx : World) : Prop :=
  ∃ g, p = .pointer (some ⟨g, 0, none⟩) ∧ q = .bool false ∧ Tx 29 wx g 0 none 0 0 ⟨#[]⟩ ∧ Below w3.heap.size w3 wx
theorem NarNo.new {w3 wb : World} (hb : Below w3.heap.size w3 wb) : NarNo w3 (.pointer (some ⟨wb.heap.size, 0, none⟩)) (.bool false) (wb.alloc (.cells #[.int .i64 0, .slice none 0 0, .string ⟨#[]⟩] 29)) :=
  ⟨_, rfl, rfl, Tx.new _ _ _ _ _ _ _, hb.alloc hb.size _⟩
theorem NarNo.same {w3 wb : World} {g : Nat} (hb : Below w3.heap.size w3 wb) (hZ : Tx 29 wb g 0 none 0 0 ⟨#[]⟩) : NarNo w3 (.pointer (some ⟨g, 0, none⟩)) (.bool false) wb :=
  ⟨_, rfl, rfl, hZ, hb⟩
theorem NarNo.set {w3 wb : World} {g : Nat} (hb : Below w3.heap.size w3 wb) (hZ : Tx 29 wb g 0 none 0 0 ⟨#[]⟩) (h3 : w3.heap.size ≤ g) : NarNo w3 (.pointer (some ⟨g, 0, none⟩)) (.bool false) (((wb.setCell ⟨g, 0, none⟩ (.int .i64 0)).setCell ⟨g, 1, none⟩ (.slice none 0 0)).setCell ⟨g, 2, none⟩ (.string ⟨#[]⟩)) :=
  ⟨_, rfl, rfl, hZ.set _ _ _ _ _, below_made3 hb h3 _ _ _⟩
theorem calls_two {f : FuncId} {args : Array Value} {wb w : World} {v : Ending} (hb : Below wb.heap.size wb w) (h : Calls Tryd.prog f args w fun e W' => e = v ∧ Below w.heap.size w W') : Calls Tryd.prog f args w fun e W' => e = v ∧ Below wb.heap.size wb W' ∧ Below w.heap.size w W' :=
  h.mono fun _ _ ⟨h1, h2⟩ => ⟨h1, hb.trans (h2.mono hb.size), h2⟩

set_option maxRecDepth 10000 in
set_option maxHeartbeats 6400000 in
theorem narrow_yes8 {w : Int} {a : Option Addr} {n c b m : Nat} {l : List Int} {s : ByteArray} {k j : Int} (W : World) (hl : Sl W a n l) (hn : n ≤ 20) (hs : s.size ≤ 2400) (ht : WT W) (hk1 : k % 4 = 0) (hk2 : k.tmod 4 = 0) (hk0 : 0 ≤ k) (hk3 : k ≤ 255) (hj0 : 0 ≤ j) (hj1 : j ≤ 255)
    (hM : MayT w l s b m) (hfa : ∀ i, i < m → Fit (el s b i) 8) :
    Calls Tryd.prog 6 #[.agg #[.int .i64 w, .slice a n c, .string s], .int .u8 k, .int .u8 j] W (TrueEnd W) := by
  have hsm : s.size ≤ maxLen := by unfold maxLen; omega
  have hb2 : Bw 8 1 := .inl ⟨rfl, rfl⟩
  have KF := fun w' (hb : Below W.heap.size W w') => few_is (w := w) (a := a) (n := n) (c := c) w' hsm (by omega)
  rw [decide_eq_true hs, decide_eq_true hn] at KF
  have hbw := hM.bw
  have hmm := hM.le
  have hfx : ∀ i, i < m → el (Eb 1 (el s b) m) 1 i = el s b i := fun i hi => el_encs hb2 hi (hfa i hi)
  have hM2 : MayT 8 l (Eb 1 (el s b) m) 1 m := ⟨hb2, hM.e, Eb_size _ _ _, hM.pr, hM.le⟩
  have hsm2 : (Eb 1 (el s b) m).size ≤ maxLen := Eb_small hb2.le.2.1 hmm
  have hback : Eb b (el (Eb 1 (el s b) m) 1) m = s := by rw [Eb_congr hfx]; exact Eb_el hM.sz
  have KT := fun w' (hbl : Below W.heap.size W w') => TTo_fs (w2 := 8) (c := c) w' (hl.below hbl) hn (ht.below hbl).wid hsm hM hb2 hfa
  have KT2 := fun w' (hbl : Below W.heap.size W w') a' n' c' (hs1 : Sl w' a' n' l) (hn : n' ≤ 20) => TTo_yes (w2 := w) (c := c') w' hs1 hn (ht.below hbl).wid hsm2 hM2 hbw (fun i hi => by rw [hfx i hi]; exact el_fit hbw hM.sz hi)
  rw [hback] at KT2
  have KM := fun w' (hbl : Below W.heap.size W w') => TMany_is (w := w) (c := c) (s := s) w' (hl.below hbl) (ht.below hbl).wid hsm
  rw [hM.tm] at KM
  have KM2 := fun w' (hbl : Below W.heap.size W w') a' n' c' (hs1 : Sl w' a' n' l) => TMany_is (w := 8) (s := Eb 1 (el s b) m) (c := c') w' hs1 (ht.below hbl).wid hsm2
  rw [hM2.tm] at KM2
  have KY2 := fun w' (hbl : Below W.heap.size W w') a' n' c' (hs1 : Sl w' a' n' l) => TMay_is (w := 8) (s := Eb 1 (el s b) m) (c := c') w' hs1 (ht.below hbl).wid hsm2
  rw [hM2.yes] at KY2
  have KS := fun w' (hbl : Below W.heap.size W w') a' n' c' (hs1 : Sl w' a' n' l) (hn : n' ≤ 1000000) => same_yes (w := w) (c1 := c') (c2 := c) (s := s) w' hs1 (hl.below hbl) hn
  have KA : ∃ (i : Nat) (v : Int) (p : Bool), (∀ q : Int, q = max (m : Int) 1 → j.tmod q = (i : Int) ∧ j % q = (i : Int)) ∧ p = decide (0 < (m : Int)) ∧ (∀ w', Below W.heap.size W w' → Calls Tryd.prog 16 #[.agg #[.int .i64 w, .slice a n c, .string s], .int .i64 (i : Int)] w' (AtEnd v p w')) ∧
      (∀ w', Below W.heap.size W w' → ∀ a' n' c', Sl w' a' n' l → Calls Tryd.prog 16 #[.agg #[.int .i64 8, .slice a' n' c', .string (Eb 1 (el s b) m)], .int .i64 (i : Int)] w' (AtEnd v p w')) := by
    by_cases h0 : m = 0
    · subst h0
      refine ⟨0, 0, false, ?_, by decide, fun w' hbl => TAt_no w' (hl.below hbl) (ht.below hbl).wid hsm (.inr (by rw [hM.tm]; decide)), fun w' hbl a' n' c' hs1 => TAt_no w' hs1 (ht.below hbl).wid hsm2 (.inr (by rw [hM2.tm]; decide))⟩
      intro q hq
      have hq : q = 1 := hq
      subst hq
      rw [Int.tmod_eq_emod_of_nonneg hj0]
      omega
    · have hi : (j % (m : Int)).toNat < m := by
        have := Int.emod_lt_of_pos j (show (0 : Int) < m by omega)
        omega
      refine ⟨(j % (m : Int)).toNat, el s b (j % (m : Int)).toNat, true, ?_, (decide_eq_true (by omega)).symm, fun w' hbl => TAt_yes w' (hl.below hbl) (ht.below hbl).wid hsm hM hi, fun w' hbl a' n' c' hs1 => ?_⟩
      · intro q hq
        have hq : q = m := by omega
        subst hq
        rw [Int.tmod_eq_emod_of_nonneg hj0]
        have := Int.emod_nonneg j (show (m : Int) ≠ 0 by omega)
        omega
      · have := TAt_yes (c := c') w' hs1 (ht.below hbl).wid hsm2 hM2 hi
        rwa [hfx _ hi] at this
  obtain ⟨i, v, p, hi, hp, KA1, KA2⟩ := KA
  generalize Eb 1 (el s b) m = s2 at KT KT2 KM2 KY2 KA2
  obtain ⟨qm, hqm⟩ : ∃ qm : Int, qm = max (m : Int) 1 := ⟨_, rfl⟩
  obtain ⟨hi1, hi2⟩ := hi qm hqm
  have hqm0 : qm ≠ 0 := by omega
  have HQM := Lib.hid hqm
  have HP := Lib.hid hp
  have HI := Lib.hid (And.intro hi1 hi2)
  replace KT := Lib.hid KT
  replace KT2 := Lib.hid KT2
  replace KM := Lib.hid KM
  replace KM2 := Lib.hid KM2
  replace KY2 := Lib.hid KY2
  replace KS := Lib.hid KS
  replace KA1 := Lib.hid KA1
  replace KA2 := Lib.hid KA2
  replace KF := Lib.hid KF
  have HW := Lib.hid ht
  have hA := Tx.new 33 W w a n c s
  have hb0 := box_below W (.cells #[.int .i64 w, .slice a n c, .string s] 33)
  clear hl hn hs ht hsm hM hfa hb2 hbw hmm hfx hM2 hsm2 hback hqm hi hp hi1 hi2
  go_enter Tryd.func6, Tryd.ntmps6
  go_wp2_with fail
  refine (shown_is _ (HW.out.below hb0)).mono ?_
  rintro e w1 ⟨rfl, hb⟩
  have hA1 := hA.on hb
  have hb1 := hb0.trans (hb.mono hb0.size)
  clear hA hb0 hb
  have x0 := hA1.c0
  have x1 := hA1.c1
  have x2 := hA1.c2
  go_wp2_with fail
  refine (KF.out _ hb1).mono ?_
  rintro e w2 ⟨rfl, hb⟩
  have hA2 := (hA1.on hb).alloc (.cells #[.int .i64 8, .int .i64 16, .int .i64 32, .int .i64 64] 3)
  have hb2 := (hb1.trans (hb.mono hb1.size)).alloc (Nat.le_trans hb1.size hb.size) (.cells #[.int .i64 8, .int .i64 16, .int .i64 32, .int .i64 64] 3)
  have lc : (w2.alloc (.cells #[.int .i64 8, .int .i64 16, .int .i64 32, .int .i64 64] 3)).cell? ⟨w2.heap.size, 0, none⟩ = some (.int .i64 8) := by rw [cell_of_row _ _ 0 _ _ _ (heap_alloc_new w2 _)]; rfl
  have l2 : w2.heap.size < (w2.alloc (.cells #[.int .i64 8, .int .i64 16, .int .i64 32, .int .i64 64] 3)).heap.size := by simp
  clear hA1 hb1 hb x0 x1 x2
  go_upto_region 5 with fail
  generalize w2.alloc (.cells #[.int .i64 8, .int .i64 16, .int .i64 32, .int .i64 64] 3) = w3 at hA2 hb2 lc l2 ⊢
  have x0 := hA2.c0
  have x1 := hA2.c1
  have x2 := hA2.c2
  have l0 : W.heap.size < w3.heap.size := hA2.lt
  have KQ1 := Lib.hid (fun w' (hb : Below w3.heap.size w3 w') => calls_two (v := .returned (.agg #[.int .i64 w, .slice a n c, .string s])) hb (made_is (w := w) (a := a) (n := n) (c := c) (s := s) w'))
  have hq : Below w3.heap.size w3 w3 := Below.refl _ _
  have hqz := hq.size
  have KQ2 := Lib.hid (fun w' (hb : Below w3.heap.size w3 w') => (KT.out w' (hb2.trans (hb.mono hb2.size))).mono (R' := fun e W' => ∃ aw nw cw, e = .returned (.tuple #[.agg #[.int .i64 8, .slice aw nw cw, .string s2], .bool true]) ∧ Fs W' w'.heap.size aw nw l ∧ nw ≤ 20 ∧ Below w3.heap.size w3 W' ∧ Below w'.heap.size w' W') (fun e W' ⟨aw, nw, cw, h1, h2, h3, h4⟩ => ⟨aw, nw, cw, h1, h2, h3, hb.trans (h4.mono hb.size), h4⟩))
  go_cut [9, 10] (fun p q wx => NarCut w3 8 l s2 p q wx)
  case first =>
    go_region_held3 (fun w' => w'.cell? ⟨W.heap.size, 0, none⟩ = some (.int .i64 w) ∧ w'.cell? ⟨W.heap.size, 1, none⟩ = some (.slice a n c) ∧ w'.cell? ⟨W.heap.size, 2, none⟩ = some (.string s) ∧ w'.cell? ⟨w2.heap.size, 0, none⟩ = some (.int .i64 8))
      (first | exact ⟨(Below.cell (p := ⟨W.heap.size, 0, none⟩) (by repeat' (first | exact hq | refine Below.drew ?_ | refine below_drewN ?_ _ | refine Below.alloc ?_ ?_ _ | refine Below.setCell ?_ ?_ _ | exact hqz | exact Nat.le_refl _ | omega | (simp; done) | (simp; omega))) l0).trans x0, (Below.cell (p := ⟨W.heap.size, 1, none⟩) (by repeat' (first | exact hq | refine Below.drew ?_ | refine below_drewN ?_ _ | refine Below.alloc ?_ ?_ _ | refine Below.setCell ?_ ?_ _ | exact hqz | exact Nat.le_refl _ | omega | (simp; done) | (simp; omega))) l0).trans x1, (Below.cell (p := ⟨W.heap.size, 2, none⟩) (by repeat' (first | exact hq | refine Below.drew ?_ | refine below_drewN ?_ _ | refine Below.alloc ?_ ?_ _ | refine Below.setCell ?_ ?_ _ | exact hqz | exact Nat.le_refl _ | omega | (simp; done) | (simp; omega))) l0).trans x2, (Below.cell (p := ⟨w2.heap.size, 0, none⟩) (by repeat' (first | exact hq | refine Below.drew ?_ | refine below_drewN ?_ _ | refine Below.alloc ?_ ?_ _ | refine Below.setCell ?_ ?_ _ | exact hqz | exact Nat.le_refl _ | omega | (simp; done) | (simp; omega))) l2).trans lc⟩ | fail)
      (first
        | (go_at_call 15; (with_reducible refine (KQ1.out _ (by repeat' (first | exact hq | refine Below.drew ?_ | refine below_drewN ?_ _ | refine Below.alloc ?_ ?_ _ | refine Below.setCell ?_ ?_ _ | exact hqz | exact Nat.le_refl _ | omega | (simp; done) | (simp; omega)))).mono ?_); rintro e wa ⟨rfl, hq, hr⟩; have hqz := hq.size; (try (have hZa := Tx.on (t := 29) (w := 0) (a := none) (n := 0) (c := 0) (s := ⟨#[]⟩) (by first | exact Tx.new _ _ _ _ _ _ _ | exact Tx.drewN (Tx.new _ _ _ _ _ _ _) _) hr; have z0 := hZa.c0; have z1 := hZa.c1; have z2 := hZa.c2; have g0 := hZa.f 0; have g1 := hZa.f 1; have g2 := hZa.f 2)))
        | (go_at_call 20; (with_reducible refine (KQ2.out _ (by repeat' (first | exact hq | refine Below.drew ?_ | refine below_drewN ?_ _ | refine Below.alloc ?_ ?_ _ | refine Below.setCell ?_ ?_ _ | exact hqz | exact Nat.le_refl _ | omega | (simp; done) | (simp; omega)))).mono ?_); rintro e wb ⟨aw, nw, cw, rfl, hSw, hnw, hq, hr⟩; have hqz := hq.size; (try (have hZb := Tx.on (t := 29) (w := 0) (a := none) (n := 0) (c := 0) (s := ⟨#[]⟩) (by first | exact Tx.new _ _ _ _ _ _ _ | exact Tx.drewN (Tx.new _ _ _ _ _ _ _) _) hr; have z0 := hZb.c0; have z1 := hZb.c1; have z2 := hZb.c2; have g0 := hZb.f 0; have g1 := hZb.f 1; have g2 := hZb.f 2)); (try (have hZb := Tx.on hZa hr; have z0 := hZb.c0; have z1 := hZb.c1; have z2 := hZb.c2; have g0 := hZb.f 0; have g1 := hZb.f 1; have g2 := hZb.f 2))))
    all_goals
      go_wp2_with fail
      go_meet
      case rel => with_reducible first | exact NarCut.new hq hSw hnw | (refine NarCut.set hq hSw hnw hZb ?_ ?_ <;> first | exact hZa.lt | exact Nat.le_refl _ | exact hqz | omega | (simp; done) | (simp; omega))
  case rest =>
    obtain ⟨g, aw, nw, cw, rfl, rfl, hX, hSx, hnw, hbc⟩ := hcut
    have hA4 := hA2.on hbc
    have hb4 := hb2.trans (hbc.mono hb2.size)
    clear hA2 hb2 hbc lc l2 l0 hq hqz x0 x1 x2 KQ1 KQ2
    have x0 := hX.c0
    have x1 := hX.c1
    have x2 := hX.c2
    have y0 := hA4.c0
    go_wp2_with fail
    refine (KT2.out _ hb4 _ _ _ hSx hnw).mono ?_
    rintro e wd ⟨ab, nb, cb, rfl, hSb, hnb, hb⟩
    have hbl := box_below wd (.cells #[.int .i64 w, .slice ab nb cb, .string s] 29)
    have hA5 := (hA4.on hb).on hbl
    have hX5 := (hX.on hb).on hbl
    have hSx5 := (hSx.below hb).below hbl
    have hB5 := Tx.new 29 wd w ab nb cb s
    have hSb5 := hSb.below hbl
    have hb5 := (hb4.trans (hb.mono hb4.size)).alloc (Nat.le_trans hb4.size hb.size) (.cells #[.int .i64 w, .slice ab nb cb, .string s] 29)
    clear hA4 hX hSx hSb hb4 hb hbl x0 x1 x2 y0
    have x0 := hX5.c0
    have x1 := hX5.c1
    have x2 := hX5.c2
    go_wp2_with fail
    refine (KM2.out _ hb5 _ _ _ hSx5).mono ?_
    rintro e we ⟨rfl, hb⟩
    have hA6 := hA5.on hb
    have hX6 := hX5.on hb
    have hSx6 := hSx5.below hb
    have hB6 := hB5.on hb
    have hSb6 := hSb5.below hb
    have hb6 := hb5.trans (hb.mono hb5.size)
    clear hA5 hX5 hSx5 hB5 hSb5 hb5 hb x0 x1 x2
    have x0 := hB6.c0
    have x1 := hB6.c1
    have x2 := hB6.c2
    have y0 := hA6.c0
    have y1 := hA6.c1
    have y2 := hA6.c2
    go_wp2_with fail
    refine (KS.out _ hb6 _ _ _ hSb6 (by omega)).mono ?_
    rintro e wf ⟨rfl, hb⟩
    have hA7 := hA6.on hb
    have hX7 := hX6.on hb
    have hSx7 := hSx6.below hb
    have hb7 := hb6.trans (hb.mono hb6.size)
    clear hA6 hX6 hSx6 hB6 hSb6 hb6 hb x0 x1 x2 y0 y1 y2
    have y0 := hA7.c0
    have y1 := hA7.c1
    have y2 := hA7.c2
    go_wp2_with fail
    refine (made_is wf).mono ?_
    rintro e wg ⟨rfl, hb⟩
    have hA8 := hA7.on hb
    have hX8 := hX7.on hb
    have hSx8 := hSx7.below hb
    have hb8 := hb7.trans (hb.mono hb7.size)
    clear hA7 hX7 hSx7 hb7 hb y0 y1 y2
    go_wp2_with fail
    refine (KM.out _ hb8).mono ?_
    rintro e wh ⟨rfl, hb⟩
    have hA9 := hA8.on hb
    have hX9 := hX8.on hb
    have hSx9 := hSx8.below hb
    have hb9 := hb8.trans (hb.mono hb8.size)
    clear hA8 hX8 hSx8 hb8 hb
    have x0 := hX9.c0
    have x1 := hX9.c1
    have x2 := hX9.c2
    go_wp2_with fail
    refine (KY2.out _ hb9 _ _ _ hSx9).mono ?_
    rintro e wi ⟨rfl, hb⟩
    have hAa := hA9.on hb
    have hXa := hX9.on hb
    have hSxa := hSx9.below hb
    have hba := hb9.trans (hb.mono hb9.size)
    clear hA9 hX9 hSx9 hb9 hb x0 x1 x2
    have y0 := hAa.c0
    have y1 := hAa.c1
    have y2 := hAa.c2
    have hqm := HQM.out.symm
    obtain ⟨hi1, hi2⟩ := HI.out
    go_wp2_with fail
    refine (made_is wi).mono ?_
    rintro e wj ⟨rfl, hb⟩
    have hXb := hXa.on hb
    have hSxb := hSxa.below hb
    have hbb := hba.trans (hb.mono hba.size)
    clear hAa hXa hSxa hba hb y0 y1 y2 hqm hi1 hi2
    go_wp2_with fail
    refine (KA1.out _ hbb).mono ?_
    rintro e wk ⟨rfl, hb⟩
    have hXc := hXb.on hb
    have hSxc := hSxb.below hb
    have hbk := hbb.trans (hb.mono hbb.size)
    clear hXb hSxb hbb hb
    have x0 := hXc.c0
    have x1 := hXc.c1
    have x2 := hXc.c2
    go_wp2_with fail
    refine (KA2.out _ hbk _ _ _ hSxc).mono ?_
    rintro e wl ⟨rfl, hb⟩
    have hbl := hbk.trans (hb.mono hbk.size)
    clear hXc hSxc hbk hb x0 x1 x2
    by_cases h0 : (0 : Int) < (m : Int)
    · obtain rfl : p = true := HP.out.trans (decide_eq_true h0)
      go_wp2_with fail
      go_ret
      refine ⟨?_, hbl⟩
      show Ending.returned (.bool (decide (0 < m))) = _
      rw [decide_eq_true (by omega)]
    · obtain rfl : p = false := HP.out.trans (decide_eq_false h0)
      go_wp2_with fail
      go_ret
      refine ⟨?_, hbl⟩
      show Ending.returned (.bool (!decide (0 < m))) = _
      rw [decide_eq_false (by omega)]; rfl
set_option maxRecDepth 10000 in
set_option maxHeartbeats 6400000 in
theorem narrow_no8 {w : Int} {a : Option Addr} {n c b m : Nat} {l : List Int} {s : ByteArray} {k j : Int} (W : World) (hl : Sl W a n l) (hn : n ≤ 20) (hs : s.size ≤ 2400) (ht : WT W) (hk1 : k % 4 = 0) (hk2 : k.tmod 4 = 0) (hk0 : 0 ≤ k) (hk3 : k ≤ 255) (hj0 : 0 ≤ j) (hj1 : j ≤ 255)
    (KT : ∀ w', Below W.heap.size W w' → Calls Tryd.prog 20 #[.agg #[.int .i64 w, .slice a n c, .string s], .int .i64 8] w' (TzEnd (.bool false) w')) :
    Calls Tryd.prog 6 #[.agg #[.int .i64 w, .slice a n c, .string s], .int .u8 k, .int .u8 j] W (TrueEnd W) := by
  have hsm : s.size ≤ maxLen := by unfold maxLen; omega
  have hb2 : Bw 8 1 := .inl ⟨rfl, rfl⟩
  have KF := fun w' (hb : Below W.heap.size W w') => few_is (w := w) (a := a) (n := n) (c := c) w' hsm (by omega)
  rw [decide_eq_true hs, decide_eq_true hn] at KF
  replace KF := Lib.hid KF
  have HW := Lib.hid ht
  have hA := Tx.new 33 W w a n c s
  have hb0 := box_below W (.cells #[.int .i64 w, .slice a n c, .string s] 33)
  clear hl hn hs ht hsm hb2
  go_enter Tryd.func6, Tryd.ntmps6
  go_wp2_with fail
  refine (shown_is _ (HW.out.below hb0)).mono ?_
  rintro e w1 ⟨rfl, hb⟩
  have hA1 := hA.on hb
  have hb1 := hb0.trans (hb.mono hb0.size)
  clear hA hb0 hb
  have x0 := hA1.c0
  have x1 := hA1.c1
  have x2 := hA1.c2
  go_wp2_with fail
  refine (KF.out _ hb1).mono ?_
  rintro e w2 ⟨rfl, hb⟩
  have hA2 := (hA1.on hb).alloc (.cells #[.int .i64 8, .int .i64 16, .int .i64 32, .int .i64 64] 3)
  have hb2 := (hb1.trans (hb.mono hb1.size)).alloc (Nat.le_trans hb1.size hb.size) (.cells #[.int .i64 8, .int .i64 16, .int .i64 32, .int .i64 64] 3)
  have lc : (w2.alloc (.cells #[.int .i64 8, .int .i64 16, .int .i64 32, .int .i64 64] 3)).cell? ⟨w2.heap.size, 0, none⟩ = some (.int .i64 8) := by rw [cell_of_row _ _ 0 _ _ _ (heap_alloc_new w2 _)]; rfl
  have l2 : w2.heap.size < (w2.alloc (.cells #[.int .i64 8, .int .i64 16, .int .i64 32, .int .i64 64] 3)).heap.size := by simp
  clear hA1 hb1 hb x0 x1 x2
  go_upto_region 5 with fail
  generalize w2.alloc (.cells #[.int .i64 8, .int .i64 16, .int .i64 32, .int .i64 64] 3) = w3 at hA2 hb2 lc l2 ⊢
  have x0 := hA2.c0
  have x1 := hA2.c1
  have x2 := hA2.c2
  have l0 : W.heap.size < w3.heap.size := hA2.lt
  have KQ1 := Lib.hid (fun w' (hb : Below w3.heap.size w3 w') => calls_two (v := .returned (.agg #[.int .i64 w, .slice a n c, .string s])) hb (made_is (w := w) (a := a) (n := n) (c := c) (s := s) w'))
  have hq : Below w3.heap.size w3 w3 := Below.refl _ _
  have hqz := hq.size
  have KQ2 := Lib.hid (fun w' (hb : Below w3.heap.size w3 w') => calls_two (v := .returned (.tuple #[.agg #[.int .i64 0, .slice none 0 0, .string ⟨#[]⟩], .bool false])) hb (KT w' (hb2.trans (hb.mono hb2.size))))
  go_cut [9, 10] (fun p q wx => NarNo w3 p q wx)
  case first =>
    go_region_held3 (fun w' => w'.cell? ⟨W.heap.size, 0, none⟩ = some (.int .i64 w) ∧ w'.cell? ⟨W.heap.size, 1, none⟩ = some (.slice a n c) ∧ w'.cell? ⟨W.heap.size, 2, none⟩ = some (.string s) ∧ w'.cell? ⟨w2.heap.size, 0, none⟩ = some (.int .i64 8))
      (first | exact ⟨(Below.cell (p := ⟨W.heap.size, 0, none⟩) (by repeat' (first | exact hq | refine Below.drew ?_ | refine below_drewN ?_ _ | refine Below.alloc ?_ ?_ _ | refine Below.setCell ?_ ?_ _ | exact hqz | exact Nat.le_refl _ | omega | (simp; done) | (simp; omega))) l0).trans x0, (Below.cell (p := ⟨W.heap.size, 1, none⟩) (by repeat' (first | exact hq | refine Below.drew ?_ | refine below_drewN ?_ _ | refine Below.alloc ?_ ?_ _ | refine Below.setCell ?_ ?_ _ | exact hqz | exact Nat.le_refl _ | omega | (simp; done) | (simp; omega))) l0).trans x1, (Below.cell (p := ⟨W.heap.size, 2, none⟩) (by repeat' (first | exact hq | refine Below.drew ?_ | refine below_drewN ?_ _ | refine Below.alloc ?_ ?_ _ | refine Below.setCell ?_ ?_ _ | exact hqz | exact Nat.le_refl _ | omega | (simp; done) | (simp; omega))) l0).trans x2, (Below.cell (p := ⟨w2.heap.size, 0, none⟩) (by repeat' (first | exact hq | refine Below.drew ?_ | refine below_drewN ?_ _ | refine Below.alloc ?_ ?_ _ | refine Below.setCell ?_ ?_ _ | exact hqz | exact Nat.le_refl _ | omega | (simp; done) | (simp; omega))) l2).trans lc⟩ | fail)
      (first
        | (go_at_call 15; (with_reducible refine (KQ1.out _ (by repeat' (first | exact hq | refine Below.drew ?_ | refine below_drewN ?_ _ | refine Below.alloc ?_ ?_ _ | refine Below.setCell ?_ ?_ _ | exact hqz | exact Nat.le_refl _ | omega | (simp; done) | (simp; omega)))).mono ?_); rintro e wa ⟨rfl, hq, hr⟩; have hqz := hq.size; (try (have hZa := Tx.on (t := 29) (w := 0) (a := none) (n := 0) (c := 0) (s := ⟨#[]⟩) (by first | exact Tx.new _ _ _ _ _ _ _ | exact Tx.drewN (Tx.new _ _ _ _ _ _ _) _) hr; have z0 := hZa.c0; have z1 := hZa.c1; have z2 := hZa.c2; have g0 := hZa.f 0; have g1 := hZa.f 1; have g2 := hZa.f 2)))
        | (go_at_call 20; (with_reducible refine (KQ2.out _ (by repeat' (first | exact hq | refine Below.drew ?_ | refine below_drewN ?_ _ | refine Below.alloc ?_ ?_ _ | refine Below.setCell ?_ ?_ _ | exact hqz | exact Nat.le_refl _ | omega | (simp; done) | (simp; omega)))).mono ?_); rintro e wb ⟨rfl, hq, hr⟩; have hqz := hq.size; (try (have hZb := Tx.on (t := 29) (w := 0) (a := none) (n := 0) (c := 0) (s := ⟨#[]⟩) (by first | exact Tx.new _ _ _ _ _ _ _ | exact Tx.drewN (Tx.new _ _ _ _ _ _ _) _) hr; have z0 := hZb.c0; have z1 := hZb.c1; have z2 := hZb.c2; have g0 := hZb.f 0; have g1 := hZb.f 1; have g2 := hZb.f 2)); (try (have hZb := Tx.on hZa hr; have z0 := hZb.c0; have z1 := hZb.c1; have z2 := hZb.c2; have g0 := hZb.f 0; have g1 := hZb.f 1; have g2 := hZb.f 2))))
    all_goals
      go_wp2_with fail
      go_meet
      case rel => with_reducible first | exact NarNo.new hq | exact NarNo.same hq hZb | (refine NarNo.set hq hZb ?_ <;> first | exact Nat.le_refl _ | exact hqz | omega | (simp; done) | (simp; omega))
  case rest =>
    obtain ⟨g, rfl, rfl, hX, hbc⟩ := hcut
    have hb4 := hb2.trans (hbc.mono hb2.size)
    have x0 := hX.c0
    have x2 := hX.c2
    clear hA2 hb2 hbc lc l2 l0 hq hqz KQ1 KQ2
    go_wp2_with fail
    go_ret
    exact ⟨rfl, hb4⟩
set_option maxRecDepth 10000 in
set_option maxHeartbeats 6400000 in
theorem narrow_yes16 {w : Int} {a : Option Addr} {n c b m : Nat} {l : List Int} {s : ByteArray} {k j : Int} (W : World) (hl : Sl W a n l) (hn : n ≤ 20) (hs : s.size ≤ 2400) (ht : WT W) (hk1 : k % 4 = 1) (hk2 : k.tmod 4 = 1) (hk0 : 0 ≤ k) (hk3 : k ≤ 255) (hj0 : 0 ≤ j) (hj1 : j ≤ 255)
    (hM : MayT w l s b m) (hfa : ∀ i, i < m → Fit (el s b i) 16) :
    Calls Tryd.prog 6 #[.agg #[.int .i64 w, .slice a n c, .string s], .int .u8 k, .int .u8 j] W (TrueEnd W) := by
  have hsm : s.size ≤ maxLen := by unfold maxLen; omega
  have hb2 : Bw 16 2 := .inr (.inl ⟨rfl, rfl⟩)
  have KF := fun w' (hb : Below W.heap.size W w') => few_is (w := w) (a := a) (n := n) (c := c) w' hsm (by omega)
  rw [decide_eq_true hs, decide_eq_true hn] at KF
  have hbw := hM.bw
  have hmm := hM.le
  have hfx : ∀ i, i < m → el (Eb 2 (el s b) m) 2 i = el s b i := fun i hi => el_encs hb2 hi (hfa i hi)
  have hM2 : MayT 16 l (Eb 2 (el s b) m) 2 m := ⟨hb2, hM.e, Eb_size _ _ _, hM.pr, hM.le⟩
  have hsm2 : (Eb 2 (el s b) m).size ≤ maxLen := Eb_small hb2.le.2.1 hmm
  have hback : Eb b (el (Eb 2 (el s b) m) 2) m = s := by rw [Eb_congr hfx]; exact Eb_el hM.sz
  have KT := fun w' (hbl : Below W.heap.size W w') => TTo_fs (w2 := 16) (c := c) w' (hl.below hbl) hn (ht.below hbl).wid hsm hM hb2 hfa
  have KT2 := fun w' (hbl : Below W.heap.size W w') a' n' c' (hs1 : Sl w' a' n' l) (hn : n' ≤ 20) => TTo_yes (w2 := w) (c := c') w' hs1 hn (ht.below hbl).wid hsm2 hM2 hbw (fun i hi => by rw [hfx i hi]; exact el_fit hbw hM.sz hi)
  rw [hback] at KT2
  have KM := fun w' (hbl : Below W.heap.size W w') => TMany_is (w := w) (c := c) (s := s) w' (hl.below hbl) (ht.below hbl).wid hsm
  rw [hM.tm] at KM
  have KM2 := fun w' (hbl : Below W.heap.size W w') a' n' c' (hs1 : Sl w' a' n' l) => TMany_is (w := 16) (s := Eb 2 (el s b) m) (c := c') w' hs1 (ht.below hbl).wid hsm2
  rw [hM2.tm] at KM2
  have KY2 := fun w' (hbl : Below W.heap.size W w') a' n' c' (hs1 : Sl w' a' n' l) => TMay_is (w := 16) (s := Eb 2 (el s b) m) (c := c') w' hs1 (ht.below hbl).wid hsm2
  rw [hM2.yes] at KY2
  have KS := fun w' (hbl : Below W.heap.size W w') a' n' c' (hs1 : Sl w' a' n' l) (hn : n' ≤ 1000000) => same_yes (w := w) (c1 := c') (c2 := c) (s := s) w' hs1 (hl.below hbl) hn
  have KA : ∃ (i : Nat) (v : Int) (p : Bool), (∀ q : Int, q = max (m : Int) 1 → j.tmod q = (i : Int) ∧ j % q = (i : Int)) ∧ p = decide (0 < (m : Int)) ∧ (∀ w', Below W.heap.size W w' → Calls Tryd.prog 16 #[.agg #[.int .i64 w, .slice a n c, .string s], .int .i64 (i : Int)] w' (AtEnd v p w')) ∧
      (∀ w', Below W.heap.size W w' → ∀ a' n' c', Sl w' a' n' l → Calls Tryd.prog 16 #[.agg #[.int .i64 16, .slice a' n' c', .string (Eb 2 (el s b) m)], .int .i64 (i : Int)] w' (AtEnd v p w')) := by
    by_cases h0 : m = 0
    · subst h0
      refine ⟨0, 0, false, ?_, by decide, fun w' hbl => TAt_no w' (hl.below hbl) (ht.below hbl).wid hsm (.inr (by rw [hM.tm]; decide)), fun w' hbl a' n' c' hs1 => TAt_no w' hs1 (ht.below hbl).wid hsm2 (.inr (by rw [hM2.tm]; decide))⟩
      intro q hq
      have hq : q = 1 := hq
      subst hq
      rw [Int.tmod_eq_emod_of_nonneg hj0]
      omega
    · have hi : (j % (m : Int)).toNat < m := by
        have := Int.emod_lt_of_pos j (show (0 : Int) < m by omega)
        omega
      refine ⟨(j % (m : Int)).toNat, el s b (j % (m : Int)).toNat, true, ?_, (decide_eq_true (by omega)).symm, fun w' hbl => TAt_yes w' (hl.below hbl) (ht.below hbl).wid hsm hM hi, fun w' hbl a' n' c' hs1 => ?_⟩
      · intro q hq
        have hq : q = m := by omega
        subst hq
        rw [Int.tmod_eq_emod_of_nonneg hj0]
        have := Int.emod_nonneg j (show (m : Int) ≠ 0 by omega)
        omega
      · have := TAt_yes (c := c') w' hs1 (ht.below hbl).wid hsm2 hM2 hi
        rwa [hfx _ hi] at this
  obtain ⟨i, v, p, hi, hp, KA1, KA2⟩ := KA
  generalize Eb 2 (el s b) m = s2 at KT KT2 KM2 KY2 KA2
  obtain ⟨qm, hqm⟩ : ∃ qm : Int, qm = max (m : Int) 1 := ⟨_, rfl⟩
  obtain ⟨hi1, hi2⟩ := hi qm hqm
  have hqm0 : qm ≠ 0 := by omega
  have HQM := Lib.hid hqm
  have HP := Lib.hid hp
  have HI := Lib.hid (And.intro hi1 hi2)
  replace KT := Lib.hid KT
  replace KT2 := Lib.hid KT2
  replace KM := Lib.hid KM
  replace KM2 := Lib.hid KM2
  replace KY2 := Lib.hid KY2
  replace KS := Lib.hid KS
  replace KA1 := Lib.hid KA1
  replace KA2 := Lib.hid KA2
  replace KF := Lib.hid KF
  have HW := Lib.hid ht
  have hA := Tx.new 33 W w a n c s
  have hb0 := box_below W (.cells #[.int .i64 w, .slice a n c, .string s] 33)
  clear hl hn hs ht hsm hM hfa hb2 hbw hmm hfx hM2 hsm2 hback hqm hi hp hi1 hi2
  go_enter Tryd.func6, Tryd.ntmps6
  go_wp2_with fail
  refine (shown_is _ (HW.out.below hb0)).mono ?_
  rintro e w1 ⟨rfl, hb⟩
  have hA1 := hA.on hb
  have hb1 := hb0.trans (hb.mono hb0.size)
  clear hA hb0 hb
  have x0 := hA1.c0
  have x1 := hA1.c1
  have x2 := hA1.c2
  go_wp2_with fail
  refine (KF.out _ hb1).mono ?_
  rintro e w2 ⟨rfl, hb⟩
  have hA2 := (hA1.on hb).alloc (.cells #[.int .i64 8, .int .i64 16, .int .i64 32, .int .i64 64] 3)
  have hb2 := (hb1.trans (hb.mono hb1.size)).alloc (Nat.le_trans hb1.size hb.size) (.cells #[.int .i64 8, .int .i64 16, .int .i64 32, .int .i64 64] 3)
  have lc : (w2.alloc (.cells #[.int .i64 8, .int .i64 16, .int .i64 32, .int .i64 64] 3)).cell? ⟨w2.heap.size, 1, none⟩ = some (.int .i64 16) := by rw [cell_of_row _ _ 1 _ _ _ (heap_alloc_new w2 _)]; rfl
  have l2 : w2.heap.size < (w2.alloc (.cells #[.int .i64 8, .int .i64 16, .int .i64 32, .int .i64 64] 3)).heap.size := by simp
  clear hA1 hb1 hb x0 x1 x2
  go_upto_region 5 with fail
  generalize w2.alloc (.cells #[.int .i64 8, .int .i64 16, .int .i64 32, .int .i64 64] 3) = w3 at hA2 hb2 lc l2 ⊢
  have x0 := hA2.c0
  have x1 := hA2.c1
  have x2 := hA2.c2
  have l0 : W.heap.size < w3.heap.size := hA2.lt
  have KQ1 := Lib.hid (fun w' (hb : Below w3.heap.size w3 w') => calls_two (v := .returned (.agg #[.int .i64 w, .slice a n c, .string s])) hb (made_is (w := w) (a := a) (n := n) (c := c) (s := s) w'))
  have hq : Below w3.heap.size w3 w3 := Below.refl _ _
  have hqz := hq.size
  have KQ2 := Lib.hid (fun w' (hb : Below w3.heap.size w3 w') => (KT.out w' (hb2.trans (hb.mono hb2.size))).mono (R' := fun e W' => ∃ aw nw cw, e = .returned (.tuple #[.agg #[.int .i64 16, .slice aw nw cw, .string s2], .bool true]) ∧ Fs W' w'.heap.size aw nw l ∧ nw ≤ 20 ∧ Below w3.heap.size w3 W' ∧ Below w'.heap.size w' W') (fun e W' ⟨aw, nw, cw, h1, h2, h3, h4⟩ => ⟨aw, nw, cw, h1, h2, h3, hb.trans (h4.mono hb.size), h4⟩))
  go_cut [9, 10] (fun p q wx => NarCut w3 16 l s2 p q wx)
  case first =>
    go_region_held3 (fun w' => w'.cell? ⟨W.heap.size, 0, none⟩ = some (.int .i64 w) ∧ w'.cell? ⟨W.heap.size, 1, none⟩ = some (.slice a n c) ∧ w'.cell? ⟨W.heap.size, 2, none⟩ = some (.string s) ∧ w'.cell? ⟨w2.heap.size, 1, none⟩ = some (.int .i64 16))
      (first | exact ⟨(Below.cell (p := ⟨W.heap.size, 0, none⟩) (by repeat' (first | exact hq | refine Below.drew ?_ | refine below_drewN ?_ _ | refine Below.alloc ?_ ?_ _ | refine Below.setCell ?_ ?_ _ | exact hqz | exact Nat.le_refl _ | omega | (simp; done) | (simp; omega))) l0).trans x0, (Below.cell (p := ⟨W.heap.size, 1, none⟩) (by repeat' (first | exact hq | refine Below.drew ?_ | refine below_drewN ?_ _ | refine Below.alloc ?_ ?_ _ | refine Below.setCell ?_ ?_ _ | exact hqz | exact Nat.le_refl _ | omega | (simp; done) | (simp; omega))) l0).trans x1, (Below.cell (p := ⟨W.heap.size, 2, none⟩) (by repeat' (first | exact hq | refine Below.drew ?_ | refine below_drewN ?_ _ | refine Below.alloc ?_ ?_ _ | refine Below.setCell ?_ ?_ _ | exact hqz | exact Nat.le_refl _ | omega | (simp; done) | (simp; omega))) l0).trans x2, (Below.cell (p := ⟨w2.heap.size, 1, none⟩) (by repeat' (first | exact hq | refine Below.drew ?_ | refine below_drewN ?_ _ | refine Below.alloc ?_ ?_ _ | refine Below.setCell ?_ ?_ _ | exact hqz | exact Nat.le_refl _ | omega | (simp; done) | (simp; omega))) l2).trans lc⟩ | fail)
      (first
        | (go_at_call 15; (with_reducible refine (KQ1.out _ (by repeat' (first | exact hq | refine Below.drew ?_ | refine below_drewN ?_ _ | refine Below.alloc ?_ ?_ _ | refine Below.setCell ?_ ?_ _ | exact hqz | exact Nat.le_refl _ | omega | (simp; done) | (simp; omega)))).mono ?_); rintro e wa ⟨rfl, hq, hr⟩; have hqz := hq.size; (try (have hZa := Tx.on (t := 29) (w := 0) (a := none) (n := 0) (c := 0) (s := ⟨#[]⟩) (by first | exact Tx.new _ _ _ _ _ _ _ | exact Tx.drewN (Tx.new _ _ _ _ _ _ _) _) hr; have z0 := hZa.c0; have z1 := hZa.c1; have z2 := hZa.c2; have g0 := hZa.f 0; have g1 := hZa.f 1; have g2 := hZa.f 2)))
        | (go_at_call 20; (with_reducible refine (KQ2.out _ (by repeat' (first | exact hq | refine Below.drew ?_ | refine below_drewN ?_ _ | refine Below.alloc ?_ ?_ _ | refine Below.setCell ?_ ?_ _ | exact hqz | exact Nat.le_refl _ | omega | (simp; done) | (simp; omega)))).mono ?_); rintro e wb ⟨aw, nw, cw, rfl, hSw, hnw, hq, hr⟩; have hqz := hq.size; (try (have hZb := Tx.on (t := 29) (w := 0) (a := none) (n := 0) (c := 0) (s := ⟨#[]⟩) (by first | exact Tx.new _ _ _ _ _ _ _ | exact Tx.drewN (Tx.new _ _ _ _ _ _ _) _) hr; have z0 := hZb.c0; have z1 := hZb.c1; have z2 := hZb.c2; have g0 := hZb.f 0; have g1 := hZb.f 1; have g2 := hZb.f 2)); (try (have hZb := Tx.on hZa hr; have z0 := hZb.c0; have z1 := hZb.c1; have z2 := hZb.c2; have g0 := hZb.f 0; have g1 := hZb.f 1; have g2 := hZb.f 2))))
    all_goals
      go_wp2_with fail
      go_meet
      case rel => with_reducible first | exact NarCut.new hq hSw hnw | (refine NarCut.set hq hSw hnw hZb ?_ ?_ <;> first | exact hZa.lt | exact Nat.le_refl _ | exact hqz | omega | (simp; done) | (simp; omega))
  case rest =>
    obtain ⟨g, aw, nw, cw, rfl, rfl, hX, hSx, hnw, hbc⟩ := hcut
    have hA4 := hA2.on hbc
    have hb4 := hb2.trans (hbc.mono hb2.size)
    clear hA2 hb2 hbc lc l2 l0 hq hqz x0 x1 x2 KQ1 KQ2
    have x0 := hX.c0
    have x1 := hX.c1
    have x2 := hX.c2
    have y0 := hA4.c0
    go_wp2_with fail
    refine (KT2.out _ hb4 _ _ _ hSx hnw).mono ?_
    rintro e wd ⟨ab, nb, cb, rfl, hSb, hnb, hb⟩
    have hbl := box_below wd (.cells #[.int .i64 w, .slice ab nb cb, .string s] 29)
    have hA5 := (hA4.on hb).on hbl
    have hX5 := (hX.on hb).on hbl
    have hSx5 := (hSx.below hb).below hbl
    have hB5 := Tx.new 29 wd w ab nb cb s
    have hSb5 := hSb.below hbl
    have hb5 := (hb4.trans (hb.mono hb4.size)).alloc (Nat.le_trans hb4.size hb.size) (.cells #[.int .i64 w, .slice ab nb cb, .string s] 29)
    clear hA4 hX hSx hSb hb4 hb hbl x0 x1 x2 y0
    have x0 := hX5.c0
    have x1 := hX5.c1
    have x2 := hX5.c2
    go_wp2_with fail
    refine (KM2.out _ hb5 _ _ _ hSx5).mono ?_
    rintro e we ⟨rfl, hb⟩
    have hA6 := hA5.on hb
    have hX6 := hX5.on hb
    have hSx6 := hSx5.below hb
    have hB6 := hB5.on hb
    have hSb6 := hSb5.below hb
    have hb6 := hb5.trans (hb.mono hb5.size)
    clear hA5 hX5 hSx5 hB5 hSb5 hb5 hb x0 x1 x2
    have x0 := hB6.c0
    have x1 := hB6.c1
    have x2 := hB6.c2
    have y0 := hA6.c0
    have y1 := hA6.c1
    have y2 := hA6.c2
    go_wp2_with fail
    refine (KS.out _ hb6 _ _ _ hSb6 (by omega)).mono ?_
    rintro e wf ⟨rfl, hb⟩
    have hA7 := hA6.on hb
    have hX7 := hX6.on hb
    have hSx7 := hSx6.below hb
    have hb7 := hb6.trans (hb.mono hb6.size)
    clear hA6 hX6 hSx6 hB6 hSb6 hb6 hb x0 x1 x2 y0 y1 y2
    have y0 := hA7.c0
    have y1 := hA7.c1
    have y2 := hA7.c2
    go_wp2_with fail
    refine (made_is wf).mono ?_
    rintro e wg ⟨rfl, hb⟩
    have hA8 := hA7.on hb
    have hX8 := hX7.on hb
    have hSx8 := hSx7.below hb
    have hb8 := hb7.trans (hb.mono hb7.size)
    clear hA7 hX7 hSx7 hb7 hb y0 y1 y2
    go_wp2_with fail
    refine (KM.out _ hb8).mono ?_
    rintro e wh ⟨rfl, hb⟩
    have hA9 := hA8.on hb
    have hX9 := hX8.on hb
    have hSx9 := hSx8.below hb
    have hb9 := hb8.trans (hb.mono hb8.size)
    clear hA8 hX8 hSx8 hb8 hb
    have x0 := hX9.c0
    have x1 := hX9.c1
    have x2 := hX9.c2
    go_wp2_with fail
    refine (KY2.out _ hb9 _ _ _ hSx9).mono ?_
    rintro e wi ⟨rfl, hb⟩
    have hAa := hA9.on hb
    have hXa := hX9.on hb
    have hSxa := hSx9.below hb
    have hba := hb9.trans (hb.mono hb9.size)
    clear hA9 hX9 hSx9 hb9 hb x0 x1 x2
    have y0 := hAa.c0
    have y1 := hAa.c1
    have y2 := hAa.c2
    have hqm := HQM.out.symm
    obtain ⟨hi1, hi2⟩ := HI.out
    go_wp2_with fail
    refine (made_is wi).mono ?_
    rintro e wj ⟨rfl, hb⟩
    have hXb := hXa.on hb
    have hSxb := hSxa.below hb
    have hbb := hba.trans (hb.mono hba.size)
    clear hAa hXa hSxa hba hb y0 y1 y2 hqm hi1 hi2
    go_wp2_with fail
    refine (KA1.out _ hbb).mono ?_
    rintro e wk ⟨rfl, hb⟩
    have hXc := hXb.on hb
    have hSxc := hSxb.below hb
    have hbk := hbb.trans (hb.mono hbb.size)
    clear hXb hSxb hbb hb
    have x0 := hXc.c0
    have x1 := hXc.c1
    have x2 := hXc.c2
    go_wp2_with fail
    refine (KA2.out _ hbk _ _ _ hSxc).mono ?_
    rintro e wl ⟨rfl, hb⟩
    have hbl := hbk.trans (hb.mono hbk.size)
    clear hXc hSxc hbk hb x0 x1 x2
    by_cases h0 : (0 : Int) < (m : Int)
    · obtain rfl : p = true := HP.out.trans (decide_eq_true h0)
      go_wp2_with fail
      go_ret
      refine ⟨?_, hbl⟩
      show Ending.returned (.bool (decide (0 < m))) = _
      rw [decide_eq_true (by omega)]
    · obtain rfl : p = false := HP.out.trans (decide_eq_false h0)
      go_wp2_with fail
      go_ret
      refine ⟨?_, hbl⟩
      show Ending.returned (.bool (!decide (0 < m))) = _
      rw [decide_eq_false (by omega)]; rfl
set_option maxRecDepth 10000 in
set_option maxHeartbeats 6400000 in
theorem narrow_no16 {w : Int} {a : Option Addr} {n c b m : Nat} {l : List Int} {s : ByteArray} {k j : Int} (W : World) (hl : Sl W a n l) (hn : n ≤ 20) (hs : s.size ≤ 2400) (ht : WT W) (hk1 : k % 4 = 1) (hk2 : k.tmod 4 = 1) (hk0 : 0 ≤ k) (hk3 : k ≤ 255) (hj0 : 0 ≤ j) (hj1 : j ≤ 255)
    (KT : ∀ w', Below W.heap.size W w' → Calls Tryd.prog 20 #[.agg #[.int .i64 w, .slice a n c, .string s], .int .i64 16] w' (TzEnd (.bool false) w')) :
    Calls Tryd.prog 6 #[.agg #[.int .i64 w, .slice a n c, .string s], .int .u8 k, .int .u8 j] W (TrueEnd W) := by
  have hsm : s.size ≤ maxLen := by unfold maxLen; omega
  have hb2 : Bw 16 2 := .inr (.inl ⟨rfl, rfl⟩)
  have KF := fun w' (hb : Below W.heap.size W w') => few_is (w := w) (a := a) (n := n) (c := c) w' hsm (by omega)
  rw [decide_eq_true hs, decide_eq_true hn] at KF
  replace KF := Lib.hid KF
  have HW := Lib.hid ht
  have hA := Tx.new 33 W w a n c s
  have hb0 := box_below W (.cells #[.int .i64 w, .slice a n c, .string s] 33)
  clear hl hn hs ht hsm hb2
  go_enter Tryd.func6, Tryd.ntmps6
  go_wp2_with fail
  refine (shown_is _ (HW.out.below hb0)).mono ?_
  rintro e w1 ⟨rfl, hb⟩
  have hA1 := hA.on hb
  have hb1 := hb0.trans (hb.mono hb0.size)
  clear hA hb0 hb
  have x0 := hA1.c0
  have x1 := hA1.c1
  have x2 := hA1.c2
  go_wp2_with fail
  refine (KF.out _ hb1).mono ?_
  rintro e w2 ⟨rfl, hb⟩
  have hA2 := (hA1.on hb).alloc (.cells #[.int .i64 8, .int .i64 16, .int .i64 32, .int .i64 64] 3)
  have hb2 := (hb1.trans (hb.mono hb1.size)).alloc (Nat.le_trans hb1.size hb.size) (.cells #[.int .i64 8, .int .i64 16, .int .i64 32, .int .i64 64] 3)
  have lc : (w2.alloc (.cells #[.int .i64 8, .int .i64 16, .int .i64 32, .int .i64 64] 3)).cell? ⟨w2.heap.size, 1, none⟩ = some (.int .i64 16) := by rw [cell_of_row _ _ 1 _ _ _ (heap_alloc_new w2 _)]; rfl
  have l2 : w2.heap.size < (w2.alloc (.cells #[.int .i64 8, .int .i64 16, .int .i64 32, .int .i64 64] 3)).heap.size := by simp
  clear hA1 hb1 hb x0 x1 x2
  go_upto_region 5 with fail
  generalize w2.alloc (.cells #[.int .i64 8, .int .i64 16, .int .i64 32, .int .i64 64] 3) = w3 at hA2 hb2 lc l2 ⊢
  have x0 := hA2.c0
  have x1 := hA2.c1
  have x2 := hA2.c2
  have l0 : W.heap.size < w3.heap.size := hA2.lt
  have KQ1 := Lib.hid (fun w' (hb : Below w3.heap.size w3 w') => calls_two (v := .returned (.agg #[.int .i64 w, .slice a n c, .string s])) hb (made_is (w := w) (a := a) (n := n) (c := c) (s := s) w'))
  have hq : Below w3.heap.size w3 w3 := Below.refl _ _
  have hqz := hq.size
  have KQ2 := Lib.hid (fun w' (hb : Below w3.heap.size w3 w') => calls_two (v := .returned (.tuple #[.agg #[.int .i64 0, .slice none 0 0, .string ⟨#[]⟩], .bool false])) hb (KT w' (hb2.trans (hb.mono hb2.size))))
  go_cut [9, 10] (fun p q wx => NarNo w3 p q wx)
  case first =>
    go_region_held3 (fun w' => w'.cell? ⟨W.heap.size, 0, none⟩ = some (.int .i64 w) ∧ w'.cell? ⟨W.heap.size, 1, none⟩ = some (.slice a n c) ∧ w'.cell? ⟨W.heap.size, 2, none⟩ = some (.string s) ∧ w'.cell? ⟨w2.heap.size, 1, none⟩ = some (.int .i64 16))
      (first | exact ⟨(Below.cell (p := ⟨W.heap.size, 0, none⟩) (by repeat' (first | exact hq | refine Below.drew ?_ | refine below_drewN ?_ _ | refine Below.alloc ?_ ?_ _ | refine Below.setCell ?_ ?_ _ | exact hqz | exact Nat.le_refl _ | omega | (simp; done) | (simp; omega))) l0).trans x0, (Below.cell (p := ⟨W.heap.size, 1, none⟩) (by repeat' (first | exact hq | refine Below.drew ?_ | refine below_drewN ?_ _ | refine Below.alloc ?_ ?_ _ | refine Below.setCell ?_ ?_ _ | exact hqz | exact Nat.le_refl _ | omega | (simp; done) | (simp; omega))) l0).trans x1, (Below.cell (p := ⟨W.heap.size, 2, none⟩) (by repeat' (first | exact hq | refine Below.drew ?_ | refine below_drewN ?_ _ | refine Below.alloc ?_ ?_ _ | refine Below.setCell ?_ ?_ _ | exact hqz | exact Nat.le_refl _ | omega | (simp; done) | (simp; omega))) l0).trans x2, (Below.cell (p := ⟨w2.heap.size, 1, none⟩) (by repeat' (first | exact hq | refine Below.drew ?_ | refine below_drewN ?_ _ | refine Below.alloc ?_ ?_ _ | refine Below.setCell ?_ ?_ _ | exact hqz | exact Nat.le_refl _ | omega | (simp; done) | (simp; omega))) l2).trans lc⟩ | fail)
      (first
        | (go_at_call 15; (with_reducible refine (KQ1.out _ (by repeat' (first | exact hq | refine Below.drew ?_ | refine below_drewN ?_ _ | refine Below.alloc ?_ ?_ _ | refine Below.setCell ?_ ?_ _ | exact hqz | exact Nat.le_refl _ | omega | (simp; done) | (simp; omega)))).mono ?_); rintro e wa ⟨rfl, hq, hr⟩; have hqz := hq.size; (try (have hZa := Tx.on (t := 29) (w := 0) (a := none) (n := 0) (c := 0) (s := ⟨#[]⟩) (by first | exact Tx.new _ _ _ _ _ _ _ | exact Tx.drewN (Tx.new _ _ _ _ _ _ _) _) hr; have z0 := hZa.c0; have z1 := hZa.c1; have z2 := hZa.c2; have g0 := hZa.f 0; have g1 := hZa.f 1; have g2 := hZa.f 2)))
        | (go_at_call 20; (with_reducible refine (KQ2.out _ (by repeat' (first | exact hq | refine Below.drew ?_ | refine below_drewN ?_ _ | refine Below.alloc ?_ ?_ _ | refine Below.setCell ?_ ?_ _ | exact hqz | exact Nat.le_refl _ | omega | (simp; done) | (simp; omega)))).mono ?_); rintro e wb ⟨rfl, hq, hr⟩; have hqz := hq.size; (try (have hZb := Tx.on (t := 29) (w := 0) (a := none) (n := 0) (c := 0) (s := ⟨#[]⟩) (by first | exact Tx.new _ _ _ _ _ _ _ | exact Tx.drewN (Tx.new _ _ _ _ _ _ _) _) hr; have z0 := hZb.c0; have z1 := hZb.c1; have z2 := hZb.c2; have g0 := hZb.f 0; have g1 := hZb.f 1; have g2 := hZb.f 2)); (try (have hZb := Tx.on hZa hr; have z0 := hZb.c0; have z1 := hZb.c1; have z2 := hZb.c2; have g0 := hZb.f 0; have g1 := hZb.f 1; have g2 := hZb.f 2))))
    all_goals
      go_wp2_with fail
      go_meet
      case rel => with_reducible first | exact NarNo.new hq | exact NarNo.same hq hZb | (refine NarNo.set hq hZb ?_ <;> first | exact Nat.le_refl _ | exact hqz | omega | (simp; done) | (simp; omega))
  case rest =>
    obtain ⟨g, rfl, rfl, hX, hbc⟩ := hcut
    have hb4 := hb2.trans (hbc.mono hb2.size)
    have x0 := hX.c0
    have x2 := hX.c2
    clear hA2 hb2 hbc lc l2 l0 hq hqz KQ1 KQ2
    go_wp2_with fail
    go_ret
    exact ⟨rfl, hb4⟩
set_option maxRecDepth 10000 in
set_option maxHeartbeats 6400000 in
theorem narrow_yes32 {w : Int} {a : Option Addr} {n c b m : Nat} {l : List Int} {s : ByteArray} {k j : Int} (W : World) (hl : Sl W a n l) (hn : n ≤ 20) (hs : s.size ≤ 2400) (ht : WT W) (hk1 : k % 4 = 2) (hk2 : k.tmod 4 = 2) (hk0 : 0 ≤ k) (hk3 : k ≤ 255) (hj0 : 0 ≤ j) (hj1 : j ≤ 255)
    (hM : MayT w l s b m) (hfa : ∀ i, i < m → Fit (el s b i) 32) :
    Calls Tryd.prog 6 #[.agg #[.int .i64 w, .slice a n c, .string s], .int .u8 k, .int .u8 j] W (TrueEnd W) := by
  have hsm : s.size ≤ maxLen := by unfold maxLen; omega
  have hb2 : Bw 32 4 := .inr (.inr (.inl ⟨rfl, rfl⟩))
  have KF := fun w' (hb : Below W.heap.size W w') => few_is (w := w) (a := a) (n := n) (c := c) w' hsm (by omega)
  rw [decide_eq_true hs, decide_eq_true hn] at KF
  have hbw := hM.bw
  have hmm := hM.le
  have hfx : ∀ i, i < m → el (Eb 4 (el s b) m) 4 i = el s b i := fun i hi => el_encs hb2 hi (hfa i hi)
  have hM2 : MayT 32 l (Eb 4 (el s b) m) 4 m := ⟨hb2, hM.e, Eb_size _ _ _, hM.pr, hM.le⟩
  have hsm2 : (Eb 4 (el s b) m).size ≤ maxLen := Eb_small hb2.le.2.1 hmm
  have hback : Eb b (el (Eb 4 (el s b) m) 4) m = s := by rw [Eb_congr hfx]; exact Eb_el hM.sz
  have KT := fun w' (hbl : Below W.heap.size W w') => TTo_fs (w2 := 32) (c := c) w' (hl.below hbl) hn (ht.below hbl).wid hsm hM hb2 hfa
  have KT2 := fun w' (hbl : Below W.heap.size W w') a' n' c' (hs1 : Sl w' a' n' l) (hn : n' ≤ 20) => TTo_yes (w2 := w) (c := c') w' hs1 hn (ht.below hbl).wid hsm2 hM2 hbw (fun i hi => by rw [hfx i hi]; exact el_fit hbw hM.sz hi)
  rw [hback] at KT2
  have KM := fun w' (hbl : Below W.heap.size W w') => TMany_is (w := w) (c := c) (s := s) w' (hl.below hbl) (ht.below hbl).wid hsm
  rw [hM.tm] at KM
  have KM2 := fun w' (hbl : Below W.heap.size W w') a' n' c' (hs1 : Sl w' a' n' l) => TMany_is (w := 32) (s := Eb 4 (el s b) m) (c := c') w' hs1 (ht.below hbl).wid hsm2
  rw [hM2.tm] at KM2
  have KY2 := fun w' (hbl : Below W.heap.size W w') a' n' c' (hs1 : Sl w' a' n' l) => TMay_is (w := 32) (s := Eb 4 (el s b) m) (c := c') w' hs1 (ht.below hbl).wid hsm2
  rw [hM2.yes] at KY2
  have KS := fun w' (hbl : Below W.heap.size W w') a' n' c' (hs1 : Sl w' a' n' l) (hn : n' ≤ 1000000) => same_yes (w := w) (c1 := c') (c2 := c) (s := s) w' hs1 (hl.below hbl) hn
  have KA : ∃ (i : Nat) (v : Int) (p : Bool), (∀ q : Int, q = max (m : Int) 1 → j.tmod q = (i : Int) ∧ j % q = (i : Int)) ∧ p = decide (0 < (m : Int)) ∧ (∀ w', Below W.heap.size W w' → Calls Tryd.prog 16 #[.agg #[.int .i64 w, .slice a n c, .string s], .int .i64 (i : Int)] w' (AtEnd v p w')) ∧
      (∀ w', Below W.heap.size W w' → ∀ a' n' c', Sl w' a' n' l → Calls Tryd.prog 16 #[.agg #[.int .i64 32, .slice a' n' c', .string (Eb 4 (el s b) m)], .int .i64 (i : Int)] w' (AtEnd v p w')) := by
    by_cases h0 : m = 0
    · subst h0
      refine ⟨0, 0, false, ?_, by decide, fun w' hbl => TAt_no w' (hl.below hbl) (ht.below hbl).wid hsm (.inr (by rw [hM.tm]; decide)), fun w' hbl a' n' c' hs1 => TAt_no w' hs1 (ht.below hbl).wid hsm2 (.inr (by rw [hM2.tm]; decide))⟩
      intro q hq
      have hq : q = 1 := hq
      subst hq
      rw [Int.tmod_eq_emod_of_nonneg hj0]
      omega
    · have hi : (j % (m : Int)).toNat < m := by
        have := Int.emod_lt_of_pos j (show (0 : Int) < m by omega)
        omega
      refine ⟨(j % (m : Int)).toNat, el s b (j % (m : Int)).toNat, true, ?_, (decide_eq_true (by omega)).symm, fun w' hbl => TAt_yes w' (hl.below hbl) (ht.below hbl).wid hsm hM hi, fun w' hbl a' n' c' hs1 => ?_⟩
      · intro q hq
        have hq : q = m := by omega
        subst hq
        rw [Int.tmod_eq_emod_of_nonneg hj0]
        have := Int.emod_nonneg j (show (m : Int) ≠ 0 by omega)
        omega
      · have := TAt_yes (c := c') w' hs1 (ht.below hbl).wid hsm2 hM2 hi
        rwa [hfx _ hi] at this
  obtain ⟨i, v, p, hi, hp, KA1, KA2⟩ := KA
  generalize Eb 4 (el s b) m = s2 at KT KT2 KM2 KY2 KA2
  obtain ⟨qm, hqm⟩ : ∃ qm : Int, qm = max (m : Int) 1 := ⟨_, rfl⟩
  obtain ⟨hi1, hi2⟩ := hi qm hqm
  have hqm0 : qm ≠ 0 := by omega
  have HQM := Lib.hid hqm
  have HP := Lib.hid hp
  have HI := Lib.hid (And.intro hi1 hi2)
  replace KT := Lib.hid KT
  replace KT2 := Lib.hid KT2
  replace KM := Lib.hid KM
  replace KM2 := Lib.hid KM2
  replace KY2 := Lib.hid KY2
  replace KS := Lib.hid KS
  replace KA1 := Lib.hid KA1
  replace KA2 := Lib.hid KA2
  replace KF := Lib.hid KF
  have HW := Lib.hid ht
  have hA := Tx.new 33 W w a n c s
  have hb0 := box_below W (.cells #[.int .i64 w, .slice a n c, .string s] 33)
  clear hl hn hs ht hsm hM hfa hb2 hbw hmm hfx hM2 hsm2 hback hqm hi hp hi1 hi2
  go_enter Tryd.func6, Tryd.ntmps6
  go_wp2_with fail
  refine (shown_is _ (HW.out.below hb0)).mono ?_
  rintro e w1 ⟨rfl, hb⟩
  have hA1 := hA.on hb
  have hb1 := hb0.trans (hb.mono hb0.size)
  clear hA hb0 hb
  have x0 := hA1.c0
  have x1 := hA1.c1
  have x2 := hA1.c2
  go_wp2_with fail
  refine (KF.out _ hb1).mono ?_
  rintro e w2 ⟨rfl, hb⟩
  have hA2 := (hA1.on hb).alloc (.cells #[.int .i64 8, .int .i64 16, .int .i64 32, .int .i64 64] 3)
  have hb2 := (hb1.trans (hb.mono hb1.size)).alloc (Nat.le_trans hb1.size hb.size) (.cells #[.int .i64 8, .int .i64 16, .int .i64 32, .int .i64 64] 3)
  have lc : (w2.alloc (.cells #[.int .i64 8, .int .i64 16, .int .i64 32, .int .i64 64] 3)).cell? ⟨w2.heap.size, 2, none⟩ = some (.int .i64 32) := by rw [cell_of_row _ _ 2 _ _ _ (heap_alloc_new w2 _)]; rfl
  have l2 : w2.heap.size < (w2.alloc (.cells #[.int .i64 8, .int .i64 16, .int .i64 32, .int .i64 64] 3)).heap.size := by simp
  clear hA1 hb1 hb x0 x1 x2
  go_upto_region 5 with fail
  generalize w2.alloc (.cells #[.int .i64 8, .int .i64 16, .int .i64 32, .int .i64 64] 3) = w3 at hA2 hb2 lc l2 ⊢
  have x0 := hA2.c0
  have x1 := hA2.c1
  have x2 := hA2.c2
  have l0 : W.heap.size < w3.heap.size := hA2.lt
  have KQ1 := Lib.hid (fun w' (hb : Below w3.heap.size w3 w') => calls_two (v := .returned (.agg #[.int .i64 w, .slice a n c, .string s])) hb (made_is (w := w) (a := a) (n := n) (c := c) (s := s) w'))
  have hq : Below w3.heap.size w3 w3 := Below.refl _ _
  have hqz := hq.size
  have KQ2 := Lib.hid (fun w' (hb : Below w3.heap.size w3 w') => (KT.out w' (hb2.trans (hb.mono hb2.size))).mono (R' := fun e W' => ∃ aw nw cw, e = .returned (.tuple #[.agg #[.int .i64 32, .slice aw nw cw, .string s2], .bool true]) ∧ Fs W' w'.heap.size aw nw l ∧ nw ≤ 20 ∧ Below w3.heap.size w3 W' ∧ Below w'.heap.size w' W') (fun e W' ⟨aw, nw, cw, h1, h2, h3, h4⟩ => ⟨aw, nw, cw, h1, h2, h3, hb.trans (h4.mono hb.size), h4⟩))
  go_cut [9, 10] (fun p q wx => NarCut w3 32 l s2 p q wx)
  case first =>
    go_region_held3 (fun w' => w'.cell? ⟨W.heap.size, 0, none⟩ = some (.int .i64 w) ∧ w'.cell? ⟨W.heap.size, 1, none⟩ = some (.slice a n c) ∧ w'.cell? ⟨W.heap.size, 2, none⟩ = some (.string s) ∧ w'.cell? ⟨w2.heap.size, 2, none⟩ = some (.int .i64 32))
      (first | exact ⟨(Below.cell (p := ⟨W.heap.size, 0, none⟩) (by repeat' (first | exact hq | refine Below.drew ?_ | refine below_drewN ?_ _ | refine Below.alloc ?_ ?_ _ | refine Below.setCell ?_ ?_ _ | exact hqz | exact Nat.le_refl _ | omega | (simp; done) | (simp; omega))) l0).trans x0, (Below.cell (p := ⟨W.heap.size, 1, none⟩) (by repeat' (first | exact hq | refine Below.drew ?_ | refine below_drewN ?_ _ | refine Below.alloc ?_ ?_ _ | refine Below.setCell ?_ ?_ _ | exact hqz | exact Nat.le_refl _ | omega | (simp; done) | (simp; omega))) l0).trans x1, (Below.cell (p := ⟨W.heap.size, 2, none⟩) (by repeat' (first | exact hq | refine Below.drew ?_ | refine below_drewN ?_ _ | refine Below.alloc ?_ ?_ _ | refine Below.setCell ?_ ?_ _ | exact hqz | exact Nat.le_refl _ | omega | (simp; done) | (simp; omega))) l0).trans x2, (Below.cell (p := ⟨w2.heap.size, 2, none⟩) (by repeat' (first | exact hq | refine Below.drew ?_ | refine below_drewN ?_ _ | refine Below.alloc ?_ ?_ _ | refine Below.setCell ?_ ?_ _ | exact hqz | exact Nat.le_refl _ | omega | (simp; done) | (simp; omega))) l2).trans lc⟩ | fail)
      (first
        | (go_at_call 15; (with_reducible refine (KQ1.out _ (by repeat' (first | exact hq | refine Below.drew ?_ | refine below_drewN ?_ _ | refine Below.alloc ?_ ?_ _ | refine Below.setCell ?_ ?_ _ | exact hqz | exact Nat.le_refl _ | omega | (simp; done) | (simp; omega)))).mono ?_); rintro e wa ⟨rfl, hq, hr⟩; have hqz := hq.size; (try (have hZa := Tx.on (t := 29) (w := 0) (a := none) (n := 0) (c := 0) (s := ⟨#[]⟩) (by first | exact Tx.new _ _ _ _ _ _ _ | exact Tx.drewN (Tx.new _ _ _ _ _ _ _) _) hr; have z0 := hZa.c0; have z1 := hZa.c1; have z2 := hZa.c2; have g0 := hZa.f 0; have g1 := hZa.f 1; have g2 := hZa.f 2)))
        | (go_at_call 20; (with_reducible refine (KQ2.out _ (by repeat' (first | exact hq | refine Below.drew ?_ | refine below_drewN ?_ _ | refine Below.alloc ?_ ?_ _ | refine Below.setCell ?_ ?_ _ | exact hqz | exact Nat.le_refl _ | omega | (simp; done) | (simp; omega)))).mono ?_); rintro e wb ⟨aw, nw, cw, rfl, hSw, hnw, hq, hr⟩; have hqz := hq.size; (try (have hZb := Tx.on (t := 29) (w := 0) (a := none) (n := 0) (c := 0) (s := ⟨#[]⟩) (by first | exact Tx.new _ _ _ _ _ _ _ | exact Tx.drewN (Tx.new _ _ _ _ _ _ _) _) hr; have z0 := hZb.c0; have z1 := hZb.c1; have z2 := hZb.c2; have g0 := hZb.f 0; have g1 := hZb.f 1; have g2 := hZb.f 2)); (try (have hZb := Tx.on hZa hr; have z0 := hZb.c0; have z1 := hZb.c1; have z2 := hZb.c2; have g0 := hZb.f 0; have g1 := hZb.f 1; have g2 := hZb.f 2))))
    all_goals
      go_wp2_with fail
      go_meet
      case rel => with_reducible first | exact NarCut.new hq hSw hnw | (refine NarCut.set hq hSw hnw hZb ?_ ?_ <;> first | exact hZa.lt | exact Nat.le_refl _ | exact hqz | omega | (simp; done) | (simp; omega))
  case rest =>
    obtain ⟨g, aw, nw, cw, rfl, rfl, hX, hSx, hnw, hbc⟩ := hcut
    have hA4 := hA2.on hbc
    have hb4 := hb2.trans (hbc.mono hb2.size)
    clear hA2 hb2 hbc lc l2 l0 hq hqz x0 x1 x2 KQ1 KQ2
    have x0 := hX.c0
    have x1 := hX.c1
    have x2 := hX.c2
    have y0 := hA4.c0
    go_wp2_with fail
    refine (KT2.out _ hb4 _ _ _ hSx hnw).mono ?_
    rintro e wd ⟨ab, nb, cb, rfl, hSb, hnb, hb⟩
    have hbl := box_below wd (.cells #[.int .i64 w, .slice ab nb cb, .string s] 29)
    have hA5 := (hA4.on hb).on hbl
    have hX5 := (hX.on hb).on hbl
    have hSx5 := (hSx.below hb).below hbl
    have hB5 := Tx.new 29 wd w ab nb cb s
    have hSb5 := hSb.below hbl
    have hb5 := (hb4.trans (hb.mono hb4.size)).alloc (Nat.le_trans hb4.size hb.size) (.cells #[.int .i64 w, .slice ab nb cb, .string s] 29)
    clear hA4 hX hSx hSb hb4 hb hbl x0 x1 x2 y0
    have x0 := hX5.c0
    have x1 := hX5.c1
    have x2 := hX5.c2
    go_wp2_with fail
    refine (KM2.out _ hb5 _ _ _ hSx5).mono ?_
    rintro e we ⟨rfl, hb⟩
    have hA6 := hA5.on hb
    have hX6 := hX5.on hb
    have hSx6 := hSx5.below hb
    have hB6 := hB5.on hb
    have hSb6 := hSb5.below hb
    have hb6 := hb5.trans (hb.mono hb5.size)
    clear hA5 hX5 hSx5 hB5 hSb5 hb5 hb x0 x1 x2
    have x0 := hB6.c0
    have x1 := hB6.c1
    have x2 := hB6.c2
    have y0 := hA6.c0
    have y1 := hA6.c1
    have y2 := hA6.c2
    go_wp2_with fail
    refine (KS.out _ hb6 _ _ _ hSb6 (by omega)).mono ?_
    rintro e wf ⟨rfl, hb⟩
    have hA7 := hA6.on hb
    have hX7 := hX6.on hb
    have hSx7 := hSx6.below hb
    have hb7 := hb6.trans (hb.mono hb6.size)
    clear hA6 hX6 hSx6 hB6 hSb6 hb6 hb x0 x1 x2 y0 y1 y2
    have y0 := hA7.c0
    have y1 := hA7.c1
    have y2 := hA7.c2
    go_wp2_with fail
    refine (made_is wf).mono ?_
    rintro e wg ⟨rfl, hb⟩
    have hA8 := hA7.on hb
    have hX8 := hX7.on hb
    have hSx8 := hSx7.below hb
    have hb8 := hb7.trans (hb.mono hb7.size)
    clear hA7 hX7 hSx7 hb7 hb y0 y1 y2
    go_wp2_with fail
    refine (KM.out _ hb8).mono ?_
    rintro e wh ⟨rfl, hb⟩
    have hA9 := hA8.on hb
    have hX9 := hX8.on hb
    have hSx9 := hSx8.below hb
    have hb9 := hb8.trans (hb.mono hb8.size)
    clear hA8 hX8 hSx8 hb8 hb
    have x0 := hX9.c0
    have x1 := hX9.c1
    have x2 := hX9.c2
    go_wp2_with fail
    refine (KY2.out _ hb9 _ _ _ hSx9).mono ?_
    rintro e wi ⟨rfl, hb⟩
    have hAa := hA9.on hb
    have hXa := hX9.on hb
    have hSxa := hSx9.below hb
    have hba := hb9.trans (hb.mono hb9.size)
    clear hA9 hX9 hSx9 hb9 hb x0 x1 x2
    have y0 := hAa.c0
    have y1 := hAa.c1
    have y2 := hAa.c2
    have hqm := HQM.out.symm
    obtain ⟨hi1, hi2⟩ := HI.out
    go_wp2_with fail
    refine (made_is wi).mono ?_
    rintro e wj ⟨rfl, hb⟩
    have hXb := hXa.on hb
    have hSxb := hSxa.below hb
    have hbb := hba.trans (hb.mono hba.size)
    clear hAa hXa hSxa hba hb y0 y1 y2 hqm hi1 hi2
    go_wp2_with fail
    refine (KA1.out _ hbb).mono ?_
    rintro e wk ⟨rfl, hb⟩
    have hXc := hXb.on hb
    have hSxc := hSxb.below hb
    have hbk := hbb.trans (hb.mono hbb.size)
    clear hXb hSxb hbb hb
    have x0 := hXc.c0
    have x1 := hXc.c1
    have x2 := hXc.c2
    go_wp2_with fail
    refine (KA2.out _ hbk _ _ _ hSxc).mono ?_
    rintro e wl ⟨rfl, hb⟩
    have hbl := hbk.trans (hb.mono hbk.size)
    clear hXc hSxc hbk hb x0 x1 x2
    by_cases h0 : (0 : Int) < (m : Int)
    · obtain rfl : p = true := HP.out.trans (decide_eq_true h0)
      go_wp2_with fail
      go_ret
      refine ⟨?_, hbl⟩
      show Ending.returned (.bool (decide (0 < m))) = _
      rw [decide_eq_true (by omega)]
    · obtain rfl : p = false := HP.out.trans (decide_eq_false h0)
      go_wp2_with fail
      go_ret
      refine ⟨?_, hbl⟩
      show Ending.returned (.bool (!decide (0 < m))) = _
      rw [decide_eq_false (by omega)]; rfl
set_option maxRecDepth 10000 in
set_option maxHeartbeats 6400000 in
theorem narrow_no32 {w : Int} {a : Option Addr} {n c b m : Nat} {l : List Int} {s : ByteArray} {k j : Int} (W : World) (hl : Sl W a n l) (hn : n ≤ 20) (hs : s.size ≤ 2400) (ht : WT W) (hk1 : k % 4 = 2) (hk2 : k.tmod 4 = 2) (hk0 : 0 ≤ k) (hk3 : k ≤ 255) (hj0 : 0 ≤ j) (hj1 : j ≤ 255)
    (KT : ∀ w', Below W.heap.size W w' → Calls Tryd.prog 20 #[.agg #[.int .i64 w, .slice a n c, .string s], .int .i64 32] w' (TzEnd (.bool false) w')) :
    Calls Tryd.prog 6 #[.agg #[.int .i64 w, .slice a n c, .string s], .int .u8 k, .int .u8 j] W (TrueEnd W) := by
  have hsm : s.size ≤ maxLen := by unfold maxLen; omega
  have hb2 : Bw 32 4 := .inr (.inr (.inl ⟨rfl, rfl⟩))
  have KF := fun w' (hb : Below W.heap.size W w') => few_is (w := w) (a := a) (n := n) (c := c) w' hsm (by omega)
  rw [decide_eq_true hs, decide_eq_true hn] at KF
  replace KF := Lib.hid KF
  have HW := Lib.hid ht
  have hA := Tx.new 33 W w a n c s
  have hb0 := box_below W (.cells #[.int .i64 w, .slice a n c, .string s] 33)
  clear hl hn hs ht hsm hb2
  go_enter Tryd.func6, Tryd.ntmps6
  go_wp2_with fail
  refine (shown_is _ (HW.out.below hb0)).mono ?_
  rintro e w1 ⟨rfl, hb⟩
  have hA1 := hA.on hb
  have hb1 := hb0.trans (hb.mono hb0.size)
  clear hA hb0 hb
  have x0 := hA1.c0
  have x1 := hA1.c1
  have x2 := hA1.c2
  go_wp2_with fail
  refine (KF.out _ hb1).mono ?_
  rintro e w2 ⟨rfl, hb⟩
  have hA2 := (hA1.on hb).alloc (.cells #[.int .i64 8, .int .i64 16, .int .i64 32, .int .i64 64] 3)
  have hb2 := (hb1.trans (hb.mono hb1.size)).alloc (Nat.le_trans hb1.size hb.size) (.cells #[.int .i64 8, .int .i64 16, .int .i64 32, .int .i64 64] 3)
  have lc : (w2.alloc (.cells #[.int .i64 8, .int .i64 16, .int .i64 32, .int .i64 64] 3)).cell? ⟨w2.heap.size, 2, none⟩ = some (.int .i64 32) := by rw [cell_of_row _ _ 2 _ _ _ (heap_alloc_new w2 _)]; rfl
  have l2 : w2.heap.size < (w2.alloc (.cells #[.int .i64 8, .int .i64 16, .int .i64 32, .int .i64 64] 3)).heap.size := by simp
  clear hA1 hb1 hb x0 x1 x2
  go_upto_region 5 with fail
  generalize w2.alloc (.cells #[.int .i64 8, .int .i64 16, .int .i64 32, .int .i64 64] 3) = w3 at hA2 hb2 lc l2 ⊢
  have x0 := hA2.c0
  have x1 := hA2.c1
  have x2 := hA2.c2
  have l0 : W.heap.size < w3.heap.size := hA2.lt
  have KQ1 := Lib.hid (fun w' (hb : Below w3.heap.size w3 w') => calls_two (v := .returned (.agg #[.int .i64 w, .slice a n c, .string s])) hb (made_is (w := w) (a := a) (n := n) (c := c) (s := s) w'))
  have hq : Below w3.heap.size w3 w3 := Below.refl _ _
  have hqz := hq.size
  have KQ2 := Lib.hid (fun w' (hb : Below w3.heap.size w3 w') => calls_two (v := .returned (.tuple #[.agg #[.int .i64 0, .slice none 0 0, .string ⟨#[]⟩], .bool false])) hb (KT w' (hb2.trans (hb.mono hb2.size))))
  go_cut [9, 10] (fun p q wx => NarNo w3 p q wx)
  case first =>
    go_region_held3 (fun w' => w'.cell? ⟨W.heap.size, 0, none⟩ = some (.int .i64 w) ∧ w'.cell? ⟨W.heap.size, 1, none⟩ = some (.slice a n c) ∧ w'.cell? ⟨W.heap.size, 2, none⟩ = some (.string s) ∧ w'.cell? ⟨w2.heap.size, 2, none⟩ = some (.int .i64 32))
      (first | exact ⟨(Below.cell (p := ⟨W.heap.size, 0, none⟩) (by repeat' (first | exact hq | refine Below.drew ?_ | refine below_drewN ?_ _ | refine Below.alloc ?_ ?_ _ | refine Below.setCell ?_ ?_ _ | exact hqz | exact Nat.le_refl _ | omega | (simp; done) | (simp; omega))) l0).trans x0, (Below.cell (p := ⟨W.heap.size, 1, none⟩) (by repeat' (first | exact hq | refine Below.drew ?_ | refine below_drewN ?_ _ | refine Below.alloc ?_ ?_ _ | refine Below.setCell ?_ ?_ _ | exact hqz | exact Nat.le_refl _ | omega | (simp; done) | (simp; omega))) l0).trans x1, (Below.cell (p := ⟨W.heap.size, 2, none⟩) (by repeat' (first | exact hq | refine Below.drew ?_ | refine below_drewN ?_ _ | refine Below.alloc ?_ ?_ _ | refine Below.setCell ?_ ?_ _ | exact hqz | exact Nat.le_refl _ | omega | (simp; done) | (simp; omega))) l0).trans x2, (Below.cell (p := ⟨w2.heap.size, 2, none⟩) (by repeat' (first | exact hq | refine Below.drew ?_ | refine below_drewN ?_ _ | refine Below.alloc ?_ ?_ _ | refine Below.setCell ?_ ?_ _ | exact hqz | exact Nat.le_refl _ | omega | (simp; done) | (simp; omega))) l2).trans lc⟩ | fail)
      (first
        | (go_at_call 15; (with_reducible refine (KQ1.out _ (by repeat' (first | exact hq | refine Below.drew ?_ | refine below_drewN ?_ _ | refine Below.alloc ?_ ?_ _ | refine Below.setCell ?_ ?_ _ | exact hqz | exact Nat.le_refl _ | omega | (simp; done) | (simp; omega)))).mono ?_); rintro e wa ⟨rfl, hq, hr⟩; have hqz := hq.size; (try (have hZa := Tx.on (t := 29) (w := 0) (a := none) (n := 0) (c := 0) (s := ⟨#[]⟩) (by first | exact Tx.new _ _ _ _ _ _ _ | exact Tx.drewN (Tx.new _ _ _ _ _ _ _) _) hr; have z0 := hZa.c0; have z1 := hZa.c1; have z2 := hZa.c2; have g0 := hZa.f 0; have g1 := hZa.f 1; have g2 := hZa.f 2)))
        | (go_at_call 20; (with_reducible refine (KQ2.out _ (by repeat' (first | exact hq | refine Below.drew ?_ | refine below_drewN ?_ _ | refine Below.alloc ?_ ?_ _ | refine Below.setCell ?_ ?_ _ | exact hqz | exact Nat.le_refl _ | omega | (simp; done) | (simp; omega)))).mono ?_); rintro e wb ⟨rfl, hq, hr⟩; have hqz := hq.size; (try (have hZb := Tx.on (t := 29) (w := 0) (a := none) (n := 0) (c := 0) (s := ⟨#[]⟩) (by first | exact Tx.new _ _ _ _ _ _ _ | exact Tx.drewN (Tx.new _ _ _ _ _ _ _) _) hr; have z0 := hZb.c0; have z1 := hZb.c1; have z2 := hZb.c2; have g0 := hZb.f 0; have g1 := hZb.f 1; have g2 := hZb.f 2)); (try (have hZb := Tx.on hZa hr; have z0 := hZb.c0; have z1 := hZb.c1; have z2 := hZb.c2; have g0 := hZb.f 0; have g1 := hZb.f 1; have g2 := hZb.f 2))))
    all_goals
      go_wp2_with fail
      go_meet
      case rel => with_reducible first | exact NarNo.new hq | exact NarNo.same hq hZb | (refine NarNo.set hq hZb ?_ <;> first | exact Nat.le_refl _ | exact hqz | omega | (simp; done) | (simp; omega))
  case rest =>
    obtain ⟨g, rfl, rfl, hX, hbc⟩ := hcut
    have hb4 := hb2.trans (hbc.mono hb2.size)
    have x0 := hX.c0
    have x2 := hX.c2
    clear hA2 hb2 hbc lc l2 l0 hq hqz KQ1 KQ2
    go_wp2_with fail
    go_ret
    exact ⟨rfl, hb4⟩
set_option maxRecDepth 10000 in
set_option maxHeartbeats 6400000 in
theorem narrow_yes64 {w : Int} {a : Option Addr} {n c b m : Nat} {l : List Int} {s : ByteArray} {k j : Int} (W : World) (hl : Sl W a n l) (hn : n ≤ 20) (hs : s.size ≤ 2400) (ht : WT W) (hk1 : k % 4 = 3) (hk2 : k.tmod 4 = 3) (hk0 : 0 ≤ k) (hk3 : k ≤ 255) (hj0 : 0 ≤ j) (hj1 : j ≤ 255)
    (hM : MayT w l s b m) (hfa : ∀ i, i < m → Fit (el s b i) 64) :
    Calls Tryd.prog 6 #[.agg #[.int .i64 w, .slice a n c, .string s], .int .u8 k, .int .u8 j] W (TrueEnd W) := by
  have hsm : s.size ≤ maxLen := by unfold maxLen; omega
  have hb2 : Bw 64 8 := .inr (.inr (.inr ⟨rfl, rfl⟩))
  have KF := fun w' (hb : Below W.heap.size W w') => few_is (w := w) (a := a) (n := n) (c := c) w' hsm (by omega)
  rw [decide_eq_true hs, decide_eq_true hn] at KF
  have hbw := hM.bw
  have hmm := hM.le
  have hfx : ∀ i, i < m → el (Eb 8 (el s b) m) 8 i = el s b i := fun i hi => el_encs hb2 hi (hfa i hi)
  have hM2 : MayT 64 l (Eb 8 (el s b) m) 8 m := ⟨hb2, hM.e, Eb_size _ _ _, hM.pr, hM.le⟩
  have hsm2 : (Eb 8 (el s b) m).size ≤ maxLen := Eb_small hb2.le.2.1 hmm
  have hback : Eb b (el (Eb 8 (el s b) m) 8) m = s := by rw [Eb_congr hfx]; exact Eb_el hM.sz
  have KT := fun w' (hbl : Below W.heap.size W w') => TTo_fs (w2 := 64) (c := c) w' (hl.below hbl) hn (ht.below hbl).wid hsm hM hb2 hfa
  have KT2 := fun w' (hbl : Below W.heap.size W w') a' n' c' (hs1 : Sl w' a' n' l) (hn : n' ≤ 20) => TTo_yes (w2 := w) (c := c') w' hs1 hn (ht.below hbl).wid hsm2 hM2 hbw (fun i hi => by rw [hfx i hi]; exact el_fit hbw hM.sz hi)
  rw [hback] at KT2
  have KM := fun w' (hbl : Below W.heap.size W w') => TMany_is (w := w) (c := c) (s := s) w' (hl.below hbl) (ht.below hbl).wid hsm
  rw [hM.tm] at KM
  have KM2 := fun w' (hbl : Below W.heap.size W w') a' n' c' (hs1 : Sl w' a' n' l) => TMany_is (w := 64) (s := Eb 8 (el s b) m) (c := c') w' hs1 (ht.below hbl).wid hsm2
  rw [hM2.tm] at KM2
  have KY2 := fun w' (hbl : Below W.heap.size W w') a' n' c' (hs1 : Sl w' a' n' l) => TMay_is (w := 64) (s := Eb 8 (el s b) m) (c := c') w' hs1 (ht.below hbl).wid hsm2
  rw [hM2.yes] at KY2
  have KS := fun w' (hbl : Below W.heap.size W w') a' n' c' (hs1 : Sl w' a' n' l) (hn : n' ≤ 1000000) => same_yes (w := w) (c1 := c') (c2 := c) (s := s) w' hs1 (hl.below hbl) hn
  have KA : ∃ (i : Nat) (v : Int) (p : Bool), (∀ q : Int, q = max (m : Int) 1 → j.tmod q = (i : Int) ∧ j % q = (i : Int)) ∧ p = decide (0 < (m : Int)) ∧ (∀ w', Below W.heap.size W w' → Calls Tryd.prog 16 #[.agg #[.int .i64 w, .slice a n c, .string s], .int .i64 (i : Int)] w' (AtEnd v p w')) ∧
      (∀ w', Below W.heap.size W w' → ∀ a' n' c', Sl w' a' n' l → Calls Tryd.prog 16 #[.agg #[.int .i64 64, .slice a' n' c', .string (Eb 8 (el s b) m)], .int .i64 (i : Int)] w' (AtEnd v p w')) := by
    by_cases h0 : m = 0
    · subst h0
      refine ⟨0, 0, false, ?_, by decide, fun w' hbl => TAt_no w' (hl.below hbl) (ht.below hbl).wid hsm (.inr (by rw [hM.tm]; decide)), fun w' hbl a' n' c' hs1 => TAt_no w' hs1 (ht.below hbl).wid hsm2 (.inr (by rw [hM2.tm]; decide))⟩
      intro q hq
      have hq : q = 1 := hq
      subst hq
      rw [Int.tmod_eq_emod_of_nonneg hj0]
      omega
    · have hi : (j % (m : Int)).toNat < m := by
        have := Int.emod_lt_of_pos j (show (0 : Int) < m by omega)
        omega
      refine ⟨(j % (m : Int)).toNat, el s b (j % (m : Int)).toNat, true, ?_, (decide_eq_true (by omega)).symm, fun w' hbl => TAt_yes w' (hl.below hbl) (ht.below hbl).wid hsm hM hi, fun w' hbl a' n' c' hs1 => ?_⟩
      · intro q hq
        have hq : q = m := by omega
        subst hq
        rw [Int.tmod_eq_emod_of_nonneg hj0]
        have := Int.emod_nonneg j (show (m : Int) ≠ 0 by omega)
        omega
      · have := TAt_yes (c := c') w' hs1 (ht.below hbl).wid hsm2 hM2 hi
        rwa [hfx _ hi] at this
  obtain ⟨i, v, p, hi, hp, KA1, KA2⟩ := KA
  generalize Eb 8 (el s b) m = s2 at KT KT2 KM2 KY2 KA2
  obtain ⟨qm, hqm⟩ : ∃ qm : Int, qm = max (m : Int) 1 := ⟨_, rfl⟩
  obtain ⟨hi1, hi2⟩ := hi qm hqm
  have hqm0 : qm ≠ 0 := by omega
  have HQM := Lib.hid hqm
  have HP := Lib.hid hp
  have HI := Lib.hid (And.intro hi1 hi2)
  replace KT := Lib.hid KT
  replace KT2 := Lib.hid KT2
  replace KM := Lib.hid KM
  replace KM2 := Lib.hid KM2
  replace KY2 := Lib.hid KY2
  replace KS := Lib.hid KS
  replace KA1 := Lib.hid KA1
  replace KA2 := Lib.hid KA2
  replace KF := Lib.hid KF
  have HW := Lib.hid ht
  have hA := Tx.new 33 W w a n c s
  have hb0 := box_below W (.cells #[.int .i64 w, .slice a n c, .string s] 33)
  clear hl hn hs ht hsm hM hfa hb2 hbw hmm hfx hM2 hsm2 hback hqm hi hp hi1 hi2
  go_enter Tryd.func6, Tryd.ntmps6
  go_wp2_with fail
  refine (shown_is _ (HW.out.below hb0)).mono ?_
  rintro e w1 ⟨rfl, hb⟩
  have hA1 := hA.on hb
  have hb1 := hb0.trans (hb.mono hb0.size)
  clear hA hb0 hb
  have x0 := hA1.c0
  have x1 := hA1.c1
  have x2 := hA1.c2
  go_wp2_with fail
  refine (KF.out _ hb1).mono ?_
  rintro e w2 ⟨rfl, hb⟩
  have hA2 := (hA1.on hb).alloc (.cells #[.int .i64 8, .int .i64 16, .int .i64 32, .int .i64 64] 3)
  have hb2 := (hb1.trans (hb.mono hb1.size)).alloc (Nat.le_trans hb1.size hb.size) (.cells #[.int .i64 8, .int .i64 16, .int .i64 32, .int .i64 64] 3)
  have lc : (w2.alloc (.cells #[.int .i64 8, .int .i64 16, .int .i64 32, .int .i64 64] 3)).cell? ⟨w2.heap.size, 3, none⟩ = some (.int .i64 64) := by rw [cell_of_row _ _ 3 _ _ _ (heap_alloc_new w2 _)]; rfl
  have l2 : w2.heap.size < (w2.alloc (.cells #[.int .i64 8, .int .i64 16, .int .i64 32, .int .i64 64] 3)).heap.size := by simp
  clear hA1 hb1 hb x0 x1 x2
  go_upto_region 5 with fail
  generalize w2.alloc (.cells #[.int .i64 8, .int .i64 16, .int .i64 32, .int .i64 64] 3) = w3 at hA2 hb2 lc l2 ⊢
  have x0 := hA2.c0
  have x1 := hA2.c1
  have x2 := hA2.c2
  have l0 : W.heap.size < w3.heap.size := hA2.lt
  have KQ1 := Lib.hid (fun w' (hb : Below w3.heap.size w3 w') => calls_two (v := .returned (.agg #[.int .i64 w, .slice a n c, .string s])) hb (made_is (w := w) (a := a) (n := n) (c := c) (s := s) w'))
  have hq : Below w3.heap.size w3 w3 := Below.refl _ _
  have hqz := hq.size
  have KQ2 := Lib.hid (fun w' (hb : Below w3.heap.size w3 w') => (KT.out w' (hb2.trans (hb.mono hb2.size))).mono (R' := fun e W' => ∃ aw nw cw, e = .returned (.tuple #[.agg #[.int .i64 64, .slice aw nw cw, .string s2], .bool true]) ∧ Fs W' w'.heap.size aw nw l ∧ nw ≤ 20 ∧ Below w3.heap.size w3 W' ∧ Below w'.heap.size w' W') (fun e W' ⟨aw, nw, cw, h1, h2, h3, h4⟩ => ⟨aw, nw, cw, h1, h2, h3, hb.trans (h4.mono hb.size), h4⟩))
  go_cut [9, 10] (fun p q wx => NarCut w3 64 l s2 p q wx)
  case first =>
    go_region_held3 (fun w' => w'.cell? ⟨W.heap.size, 0, none⟩ = some (.int .i64 w) ∧ w'.cell? ⟨W.heap.size, 1, none⟩ = some (.slice a n c) ∧ w'.cell? ⟨W.heap.size, 2, none⟩ = some (.string s) ∧ w'.cell? ⟨w2.heap.size, 3, none⟩ = some (.int .i64 64))
      (first | exact ⟨(Below.cell (p := ⟨W.heap.size, 0, none⟩) (by repeat' (first | exact hq | refine Below.drew ?_ | refine below_drewN ?_ _ | refine Below.alloc ?_ ?_ _ | refine Below.setCell ?_ ?_ _ | exact hqz | exact Nat.le_refl _ | omega | (simp; done) | (simp; omega))) l0).trans x0, (Below.cell (p := ⟨W.heap.size, 1, none⟩) (by repeat' (first | exact hq | refine Below.drew ?_ | refine below_drewN ?_ _ | refine Below.alloc ?_ ?_ _ | refine Below.setCell ?_ ?_ _ | exact hqz | exact Nat.le_refl _ | omega | (simp; done) | (simp; omega))) l0).trans x1, (Below.cell (p := ⟨W.heap.size, 2, none⟩) (by repeat' (first | exact hq | refine Below.drew ?_ | refine below_drewN ?_ _ | refine Below.alloc ?_ ?_ _ | refine Below.setCell ?_ ?_ _ | exact hqz | exact Nat.le_refl _ | omega | (simp; done) | (simp; omega))) l0).trans x2, (Below.cell (p := ⟨w2.heap.size, 3, none⟩) (by repeat' (first | exact hq | refine Below.drew ?_ | refine below_drewN ?_ _ | refine Below.alloc ?_ ?_ _ | refine Below.setCell ?_ ?_ _ | exact hqz | exact Nat.le_refl _ | omega | (simp; done) | (simp; omega))) l2).trans lc⟩ | fail)
      (first
        | (go_at_call 15; (with_reducible refine (KQ1.out _ (by repeat' (first | exact hq | refine Below.drew ?_ | refine below_drewN ?_ _ | refine Below.alloc ?_ ?_ _ | refine Below.setCell ?_ ?_ _ | exact hqz | exact Nat.le_refl _ | omega | (simp; done) | (simp; omega)))).mono ?_); rintro e wa ⟨rfl, hq, hr⟩; have hqz := hq.size; (try (have hZa := Tx.on (t := 29) (w := 0) (a := none) (n := 0) (c := 0) (s := ⟨#[]⟩) (by first | exact Tx.new _ _ _ _ _ _ _ | exact Tx.drewN (Tx.new _ _ _ _ _ _ _) _) hr; have z0 := hZa.c0; have z1 := hZa.c1; have z2 := hZa.c2; have g0 := hZa.f 0; have g1 := hZa.f 1; have g2 := hZa.f 2)))
        | (go_at_call 20; (with_reducible refine (KQ2.out _ (by repeat' (first | exact hq | refine Below.drew ?_ | refine below_drewN ?_ _ | refine Below.alloc ?_ ?_ _ | refine Below.setCell ?_ ?_ _ | exact hqz | exact Nat.le_refl _ | omega | (simp; done) | (simp; omega)))).mono ?_); rintro e wb ⟨aw, nw, cw, rfl, hSw, hnw, hq, hr⟩; have hqz := hq.size; (try (have hZb := Tx.on (t := 29) (w := 0) (a := none) (n := 0) (c := 0) (s := ⟨#[]⟩) (by first | exact Tx.new _ _ _ _ _ _ _ | exact Tx.drewN (Tx.new _ _ _ _ _ _ _) _) hr; have z0 := hZb.c0; have z1 := hZb.c1; have z2 := hZb.c2; have g0 := hZb.f 0; have g1 := hZb.f 1; have g2 := hZb.f 2)); (try (have hZb := Tx.on hZa hr; have z0 := hZb.c0; have z1 := hZb.c1; have z2 := hZb.c2; have g0 := hZb.f 0; have g1 := hZb.f 1; have g2 := hZb.f 2))))
    all_goals
      go_wp2_with fail
      go_meet
      case rel => with_reducible first | exact NarCut.new hq hSw hnw | (refine NarCut.set hq hSw hnw hZb ?_ ?_ <;> first | exact hZa.lt | exact Nat.le_refl _ | exact hqz | omega | (simp; done) | (simp; omega))
  case rest =>
    obtain ⟨g, aw, nw, cw, rfl, rfl, hX, hSx, hnw, hbc⟩ := hcut
    have hA4 := hA2.on hbc
    have hb4 := hb2.trans (hbc.mono hb2.size)
    clear hA2 hb2 hbc lc l2 l0 hq hqz x0 x1 x2 KQ1 KQ2
    have x0 := hX.c0
    have x1 := hX.c1
    have x2 := hX.c2
    have y0 := hA4.c0
    go_wp2_with fail
    refine (KT2.out _ hb4 _ _ _ hSx hnw).mono ?_
    rintro e wd ⟨ab, nb, cb, rfl, hSb, hnb, hb⟩
    have hbl := box_below wd (.cells #[.int .i64 w, .slice ab nb cb, .string s] 29)
    have hA5 := (hA4.on hb).on hbl
    have hX5 := (hX.on hb).on hbl
    have hSx5 := (hSx.below hb).below hbl
    have hB5 := Tx.new 29 wd w ab nb cb s
    have hSb5 := hSb.below hbl
    have hb5 := (hb4.trans (hb.mono hb4.size)).alloc (Nat.le_trans hb4.size hb.size) (.cells #[.int .i64 w, .slice ab nb cb, .string s] 29)
    clear hA4 hX hSx hSb hb4 hb hbl x0 x1 x2 y0
    have x0 := hX5.c0
    have x1 := hX5.c1
    have x2 := hX5.c2
    go_wp2_with fail
    refine (KM2.out _ hb5 _ _ _ hSx5).mono ?_
    rintro e we ⟨rfl, hb⟩
    have hA6 := hA5.on hb
    have hX6 := hX5.on hb
    have hSx6 := hSx5.below hb
    have hB6 := hB5.on hb
    have hSb6 := hSb5.below hb
    have hb6 := hb5.trans (hb.mono hb5.size)
    clear hA5 hX5 hSx5 hB5 hSb5 hb5 hb x0 x1 x2
    have x0 := hB6.c0
    have x1 := hB6.c1
    have x2 := hB6.c2
    have y0 := hA6.c0
    have y1 := hA6.c1
    have y2 := hA6.c2
    go_wp2_with fail
    refine (KS.out _ hb6 _ _ _ hSb6 (by omega)).mono ?_
    rintro e wf ⟨rfl, hb⟩
    have hA7 := hA6.on hb
    have hX7 := hX6.on hb
    have hSx7 := hSx6.below hb
    have hb7 := hb6.trans (hb.mono hb6.size)
    clear hA6 hX6 hSx6 hB6 hSb6 hb6 hb x0 x1 x2 y0 y1 y2
    have y0 := hA7.c0
    have y1 := hA7.c1
    have y2 := hA7.c2
    go_wp2_with fail
    refine (made_is wf).mono ?_
    rintro e wg ⟨rfl, hb⟩
    have hA8 := hA7.on hb
    have hX8 := hX7.on hb
    have hSx8 := hSx7.below hb
    have hb8 := hb7.trans (hb.mono hb7.size)
    clear hA7 hX7 hSx7 hb7 hb y0 y1 y2
    go_wp2_with fail
    refine (KM.out _ hb8).mono ?_
    rintro e wh ⟨rfl, hb⟩
    have hA9 := hA8.on hb
    have hX9 := hX8.on hb
    have hSx9 := hSx8.below hb
    have hb9 := hb8.trans (hb.mono hb8.size)
    clear hA8 hX8 hSx8 hb8 hb
    have x0 := hX9.c0
    have x1 := hX9.c1
    have x2 := hX9.c2
    go_wp2_with fail
    refine (KY2.out _ hb9 _ _ _ hSx9).mono ?_
    rintro e wi ⟨rfl, hb⟩
    have hAa := hA9.on hb
    have hXa := hX9.on hb
    have hSxa := hSx9.below hb
    have hba := hb9.trans (hb.mono hb9.size)
    clear hA9 hX9 hSx9 hb9 hb x0 x1 x2
    have y0 := hAa.c0
    have y1 := hAa.c1
    have y2 := hAa.c2
    have hqm := HQM.out.symm
    obtain ⟨hi1, hi2⟩ := HI.out
    go_wp2_with fail
    refine (made_is wi).mono ?_
    rintro e wj ⟨rfl, hb⟩
    have hXb := hXa.on hb
    have hSxb := hSxa.below hb
    have hbb := hba.trans (hb.mono hba.size)
    clear hAa hXa hSxa hba hb y0 y1 y2 hqm hi1 hi2
    go_wp2_with fail
    refine (KA1.out _ hbb).mono ?_
    rintro e wk ⟨rfl, hb⟩
    have hXc := hXb.on hb
    have hSxc := hSxb.below hb
    have hbk := hbb.trans (hb.mono hbb.size)
    clear hXb hSxb hbb hb
    have x0 := hXc.c0
    have x1 := hXc.c1
    have x2 := hXc.c2
    go_wp2_with fail
    refine (KA2.out _ hbk _ _ _ hSxc).mono ?_
    rintro e wl ⟨rfl, hb⟩
    have hbl := hbk.trans (hb.mono hbk.size)
    clear hXc hSxc hbk hb x0 x1 x2
    by_cases h0 : (0 : Int) < (m : Int)
    · obtain rfl : p = true := HP.out.trans (decide_eq_true h0)
      go_wp2_with fail
      go_ret
      refine ⟨?_, hbl⟩
      show Ending.returned (.bool (decide (0 < m))) = _
      rw [decide_eq_true (by omega)]
    · obtain rfl : p = false := HP.out.trans (decide_eq_false h0)
      go_wp2_with fail
      go_ret
      refine ⟨?_, hbl⟩
      show Ending.returned (.bool (!decide (0 < m))) = _
      rw [decide_eq_false (by omega)]; rfl
set_option maxRecDepth 10000 in
set_option maxHeartbeats 6400000 in
theorem narrow_no64 {w : Int} {a : Option Addr} {n c b m : Nat} {l : List Int} {s : ByteArray} {k j : Int} (W : World) (hl : Sl W a n l) (hn : n ≤ 20) (hs : s.size ≤ 2400) (ht : WT W) (hk1 : k % 4 = 3) (hk2 : k.tmod 4 = 3) (hk0 : 0 ≤ k) (hk3 : k ≤ 255) (hj0 : 0 ≤ j) (hj1 : j ≤ 255)
    (KT : ∀ w', Below W.heap.size W w' → Calls Tryd.prog 20 #[.agg #[.int .i64 w, .slice a n c, .string s], .int .i64 64] w' (TzEnd (.bool false) w')) :
    Calls Tryd.prog 6 #[.agg #[.int .i64 w, .slice a n c, .string s], .int .u8 k, .int .u8 j] W (TrueEnd W) := by
  have hsm : s.size ≤ maxLen := by unfold maxLen; omega
  have hb2 : Bw 64 8 := .inr (.inr (.inr ⟨rfl, rfl⟩))
  have KF := fun w' (hb : Below W.heap.size W w') => few_is (w := w) (a := a) (n := n) (c := c) w' hsm (by omega)
  rw [decide_eq_true hs, decide_eq_true hn] at KF
  replace KF := Lib.hid KF
  have HW := Lib.hid ht
  have hA := Tx.new 33 W w a n c s
  have hb0 := box_below W (.cells #[.int .i64 w, .slice a n c, .string s] 33)
  clear hl hn hs ht hsm hb2
  go_enter Tryd.func6, Tryd.ntmps6
  go_wp2_with fail
  refine (shown_is _ (HW.out.below hb0)).mono ?_
  rintro e w1 ⟨rfl, hb⟩
  have hA1 := hA.on hb
  have hb1 := hb0.trans (hb.mono hb0.size)
  clear hA hb0 hb
  have x0 := hA1.c0
  have x1 := hA1.c1
  have x2 := hA1.c2
  go_wp2_with fail
  refine (KF.out _ hb1).mono ?_
  rintro e w2 ⟨rfl, hb⟩
  have hA2 := (hA1.on hb).alloc (.cells #[.int .i64 8, .int .i64 16, .int .i64 32, .int .i64 64] 3)
  have hb2 := (hb1.trans (hb.mono hb1.size)).alloc (Nat.le_trans hb1.size hb.size) (.cells #[.int .i64 8, .int .i64 16, .int .i64 32, .int .i64 64] 3)
  have lc : (w2.alloc (.cells #[.int .i64 8, .int .i64 16, .int .i64 32, .int .i64 64] 3)).cell? ⟨w2.heap.size, 3, none⟩ = some (.int .i64 64) := by rw [cell_of_row _ _ 3 _ _ _ (heap_alloc_new w2 _)]; rfl
  have l2 : w2.heap.size < (w2.alloc (.cells #[.int .i64 8, .int .i64 16, .int .i64 32, .int .i64 64] 3)).heap.size := by simp
  clear hA1 hb1 hb x0 x1 x2
  go_upto_region 5 with fail
  generalize w2.alloc (.cells #[.int .i64 8, .int .i64 16, .int .i64 32, .int .i64 64] 3) = w3 at hA2 hb2 lc l2 ⊢
  have x0 := hA2.c0
  have x1 := hA2.c1
  have x2 := hA2.c2
  have l0 : W.heap.size < w3.heap.size := hA2.lt
  have KQ1 := Lib.hid (fun w' (hb : Below w3.heap.size w3 w') => calls_two (v := .returned (.agg #[.int .i64 w, .slice a n c, .string s])) hb (made_is (w := w) (a := a) (n := n) (c := c) (s := s) w'))
  have hq : Below w3.heap.size w3 w3 := Below.refl _ _
  have hqz := hq.size
  have KQ2 := Lib.hid (fun w' (hb : Below w3.heap.size w3 w') => calls_two (v := .returned (.tuple #[.agg #[.int .i64 0, .slice none 0 0, .string ⟨#[]⟩], .bool false])) hb (KT w' (hb2.trans (hb.mono hb2.size))))
  go_cut [9, 10] (fun p q wx => NarNo w3 p q wx)
  case first =>
    go_region_held3 (fun w' => w'.cell? ⟨W.heap.size, 0, none⟩ = some (.int .i64 w) ∧ w'.cell? ⟨W.heap.size, 1, none⟩ = some (.slice a n c) ∧ w'.cell? ⟨W.heap.size, 2, none⟩ = some (.string s) ∧ w'.cell? ⟨w2.heap.size, 3, none⟩ = some (.int .i64 64))
      (first | exact ⟨(Below.cell (p := ⟨W.heap.size, 0, none⟩) (by repeat' (first | exact hq | refine Below.drew ?_ | refine below_drewN ?_ _ | refine Below.alloc ?_ ?_ _ | refine Below.setCell ?_ ?_ _ | exact hqz | exact Nat.le_refl _ | omega | (simp; done) | (simp; omega))) l0).trans x0, (Below.cell (p := ⟨W.heap.size, 1, none⟩) (by repeat' (first | exact hq | refine Below.drew ?_ | refine below_drewN ?_ _ | refine Below.alloc ?_ ?_ _ | refine Below.setCell ?_ ?_ _ | exact hqz | exact Nat.le_refl _ | omega | (simp; done) | (simp; omega))) l0).trans x1, (Below.cell (p := ⟨W.heap.size, 2, none⟩) (by repeat' (first | exact hq | refine Below.drew ?_ | refine below_drewN ?_ _ | refine Below.alloc ?_ ?_ _ | refine Below.setCell ?_ ?_ _ | exact hqz | exact Nat.le_refl _ | omega | (simp; done) | (simp; omega))) l0).trans x2, (Below.cell (p := ⟨w2.heap.size, 3, none⟩) (by repeat' (first | exact hq | refine Below.drew ?_ | refine below_drewN ?_ _ | refine Below.alloc ?_ ?_ _ | refine Below.setCell ?_ ?_ _ | exact hqz | exact Nat.le_refl _ | omega | (simp; done) | (simp; omega))) l2).trans lc⟩ | fail)
      (first
        | (go_at_call 15; (with_reducible refine (KQ1.out _ (by repeat' (first | exact hq | refine Below.drew ?_ | refine below_drewN ?_ _ | refine Below.alloc ?_ ?_ _ | refine Below.setCell ?_ ?_ _ | exact hqz | exact Nat.le_refl _ | omega | (simp; done) | (simp; omega)))).mono ?_); rintro e wa ⟨rfl, hq, hr⟩; have hqz := hq.size; (try (have hZa := Tx.on (t := 29) (w := 0) (a := none) (n := 0) (c := 0) (s := ⟨#[]⟩) (by first | exact Tx.new _ _ _ _ _ _ _ | exact Tx.drewN (Tx.new _ _ _ _ _ _ _) _) hr; have z0 := hZa.c0; have z1 := hZa.c1; have z2 := hZa.c2; have g0 := hZa.f 0; have g1 := hZa.f 1; have g2 := hZa.f 2)))
        | (go_at_call 20; (with_reducible refine (KQ2.out _ (by repeat' (first | exact hq | refine Below.drew ?_ | refine below_drewN ?_ _ | refine Below.alloc ?_ ?_ _ | refine Below.setCell ?_ ?_ _ | exact hqz | exact Nat.le_refl _ | omega | (simp; done) | (simp; omega)))).mono ?_); rintro e wb ⟨rfl, hq, hr⟩; have hqz := hq.size; (try (have hZb := Tx.on (t := 29) (w := 0) (a := none) (n := 0) (c := 0) (s := ⟨#[]⟩) (by first | exact Tx.new _ _ _ _ _ _ _ | exact Tx.drewN (Tx.new _ _ _ _ _ _ _) _) hr; have z0 := hZb.c0; have z1 := hZb.c1; have z2 := hZb.c2; have g0 := hZb.f 0; have g1 := hZb.f 1; have g2 := hZb.f 2)); (try (have hZb := Tx.on hZa hr; have z0 := hZb.c0; have z1 := hZb.c1; have z2 := hZb.c2; have g0 := hZb.f 0; have g1 := hZb.f 1; have g2 := hZb.f 2))))
    all_goals
      go_wp2_with fail
      go_meet
      case rel => with_reducible first | exact NarNo.new hq | exact NarNo.same hq hZb | (refine NarNo.set hq hZb ?_ <;> first | exact Nat.le_refl _ | exact hqz | omega | (simp; done) | (simp; omega))
  case rest =>
    obtain ⟨g, rfl, rfl, hX, hbc⟩ := hcut
    have hb4 := hb2.trans (hbc.mono hb2.size)
    have x0 := hX.c0
    have x2 := hX.c2
    clear hA2 hb2 hbc lc l2 l0 hq hqz KQ1 KQ2
    go_wp2_with fail
    go_ret
    exact ⟨rfl, hb4⟩
set_option maxRecDepth 10000 in
set_option maxHeartbeats 1600000 in
theorem narrow_big {w : Int} {a : Option Addr} {n c : Nat} {s : ByteArray} {k j : Int} (W : World) (ht : WT W) (hsm : s.size ≤ maxLen) (hn : n ≤ 9223372036854775807) (h : ¬ (s.size ≤ 2400 ∧ n ≤ 20)) :
    Calls Tryd.prog 6 #[.agg #[.int .i64 w, .slice a n c, .string s], .int .u8 k, .int .u8 j] W (TrueEnd W) := by
  have KF := fun w' (hb : Below W.heap.size W w') => few_is (w := w) (a := a) (n := n) (c := c) w' hsm hn
  rw [show (decide (s.size ≤ 2400) && decide (n ≤ 20)) = false by rw [← Bool.decide_and]; exact decide_eq_false h] at KF
  replace KF := Lib.hid KF
  have HW := Lib.hid ht
  have hA := Tx.new 33 W w a n c s
  have hb0 := box_below W (.cells #[.int .i64 w, .slice a n c, .string s] 33)
  clear ht h hsm hn
  go_enter Tryd.func6, Tryd.ntmps6
  go_wp2_with fail
  refine (shown_is _ (HW.out.below hb0)).mono ?_
  rintro e w1 ⟨rfl, hb⟩
  have hA1 := hA.on hb
  have hb1 := hb0.trans (hb.mono hb0.size)
  clear hA hb0 hb
  have x0 := hA1.c0
  have x1 := hA1.c1
  have x2 := hA1.c2
  go_wp2_with fail
  refine (KF.out _ hb1).mono ?_
  rintro e w2 ⟨rfl, hb⟩
  go_wp2_with fail
  go_ret
  exact ⟨rfl, hb1.trans (hb.mono hb1.size)⟩
theorem narrow_any {w : Int} {a : Option Addr} {n c : Nat} {l : List Int} {s : ByteArray} {k j : Int} (W : World) (hl : Sl W a n l) (hnm : n ≤ 9223372036854775807) (hsm : s.size ≤ maxLen) (ht : WT W) (hk0 : 0 ≤ k) (hk3 : k ≤ 255) (hj0 : 0 ≤ j) (hj1 : j ≤ 255) :
    Calls Tryd.prog 6 #[.agg #[.int .i64 w, .slice a n c, .string s], .int .u8 k, .int .u8 j] W (TrueEnd W) := by
  by_cases hfew : s.size ≤ 2400 ∧ n ≤ 20
  · obtain ⟨hs, hn⟩ := hfew
    have h : k.tmod 4 = k % 4 := Int.tmod_eq_emod_of_nonneg hk0
    have h4 : k % 4 = 0 ∨ k % 4 = 1 ∨ k % 4 = 2 ∨ k % 4 = 3 := by omega
    by_cases hm : mayT w l s = true
    · obtain ⟨b, m, hM⟩ := mayT_yes.1 hm
      rcases h4 with e | e | e | e
      · by_cases hf : ∀ i, i < m → Fit (el s b i) 8
        · exact narrow_yes8 W hl hn hs ht e (h.trans e) hk0 hk3 hj0 hj1 hM hf
        · obtain ⟨j0, h1, h2, h3⟩ := first_no (p := fun i => Fit (el s b i) 8) (m := m) (Classical.byContradiction fun hh => hf fun i hi => Classical.byContradiction fun h5 => hh ⟨i, hi, h5⟩)
          exact narrow_no8 (l := l) (b := 0) (m := 0) W hl hn hs ht e (h.trans e) hk0 hk3 hj0 hj1 (fun w' hb => TTo_unfit w' (hl.below hb) hn (ht.below hb).wid hsm hM (w2 := 8) (b2 := 1) (.inl ⟨rfl, rfl⟩) h1 h2 h3)
      · by_cases hf : ∀ i, i < m → Fit (el s b i) 16
        · exact narrow_yes16 W hl hn hs ht e (h.trans e) hk0 hk3 hj0 hj1 hM hf
        · obtain ⟨j0, h1, h2, h3⟩ := first_no (p := fun i => Fit (el s b i) 16) (m := m) (Classical.byContradiction fun hh => hf fun i hi => Classical.byContradiction fun h5 => hh ⟨i, hi, h5⟩)
          exact narrow_no16 (l := l) (b := 0) (m := 0) W hl hn hs ht e (h.trans e) hk0 hk3 hj0 hj1 (fun w' hb => TTo_unfit w' (hl.below hb) hn (ht.below hb).wid hsm hM (w2 := 16) (b2 := 2) (.inr (.inl ⟨rfl, rfl⟩)) h1 h2 h3)
      · by_cases hf : ∀ i, i < m → Fit (el s b i) 32
        · exact narrow_yes32 W hl hn hs ht e (h.trans e) hk0 hk3 hj0 hj1 hM hf
        · obtain ⟨j0, h1, h2, h3⟩ := first_no (p := fun i => Fit (el s b i) 32) (m := m) (Classical.byContradiction fun hh => hf fun i hi => Classical.byContradiction fun h5 => hh ⟨i, hi, h5⟩)
          exact narrow_no32 (l := l) (b := 0) (m := 0) W hl hn hs ht e (h.trans e) hk0 hk3 hj0 hj1 (fun w' hb => TTo_unfit w' (hl.below hb) hn (ht.below hb).wid hsm hM (w2 := 32) (b2 := 4) (.inr (.inr (.inl ⟨rfl, rfl⟩))) h1 h2 h3)
      · by_cases hf : ∀ i, i < m → Fit (el s b i) 64
        · exact narrow_yes64 W hl hn hs ht e (h.trans e) hk0 hk3 hj0 hj1 hM hf
        · obtain ⟨j0, h1, h2, h3⟩ := first_no (p := fun i => Fit (el s b i) 64) (m := m) (Classical.byContradiction fun hh => hf fun i hi => Classical.byContradiction fun h5 => hh ⟨i, hi, h5⟩)
          exact narrow_no64 (l := l) (b := 0) (m := 0) W hl hn hs ht e (h.trans e) hk0 hk3 hj0 hj1 (fun w' hb => TTo_unfit w' (hl.below hb) hn (ht.below hb).wid hsm hM (w2 := 64) (b2 := 8) (.inr (.inr (.inr ⟨rfl, rfl⟩))) h1 h2 h3)
    · have hm : mayT w l s = false := by simpa using hm
      rcases h4 with e | e | e | e
      · exact narrow_no8 (l := l) (b := 0) (m := 0) W hl hn hs ht e (h.trans e) hk0 hk3 hj0 hj1 (fun w' hb => TTo_no w' (hl.below hb) (ht.below hb).wid hsm (.inr hm))
      · exact narrow_no16 (l := l) (b := 0) (m := 0) W hl hn hs ht e (h.trans e) hk0 hk3 hj0 hj1 (fun w' hb => TTo_no w' (hl.below hb) (ht.below hb).wid hsm (.inr hm))
      · exact narrow_no32 (l := l) (b := 0) (m := 0) W hl hn hs ht e (h.trans e) hk0 hk3 hj0 hj1 (fun w' hb => TTo_no w' (hl.below hb) (ht.below hb).wid hsm (.inr hm))
      · exact narrow_no64 (l := l) (b := 0) (m := 0) W hl hn hs ht e (h.trans e) hk0 hk3 hj0 hj1 (fun w' hb => TTo_no w' (hl.below hb) (ht.below hb).wid hsm (.inr hm))
  · exact narrow_big W ht hsm hnm hfew
end Go.Proofs.YtdehcdnbalbdbaaDoor

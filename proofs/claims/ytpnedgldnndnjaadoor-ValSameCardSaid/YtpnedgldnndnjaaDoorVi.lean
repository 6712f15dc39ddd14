/-
  ValSame at every two arrays.
-/
import Derived.Test.YtpnedgldnndnjaaDoorVj
import Derived.Deep.RegionHeld3
import Derived.Deep.DeepCutAuto
import Derived.BigRegion
namespace Go.Proofs.YtpnedgldnndnjaaDoor
open Go.RowKit

/-- What a copy is: a new box, two fresh slices, nothing else turned. -/
def Cop (w3 : World) (n m : Nat) (l : List Int) (es : List ByteArray) (p : Value) (w : World) : Prop :=
  ∃ g a c b d, p = .pointer (some ⟨g, 0, none⟩) ∧ w3.heap.size ≤ g ∧ Bx w g a n c b m d ∧ Fr w w3.heap.size 3 a n c (valsI l) ∧ Fr w w3.heap.size 9 b m d (valsS es) ∧ Below w3.heap.size w3 w
theorem Bx.drew {W : World} {a b : Option Addr} {g n c m d : Nat} (h : Bx W g a n c b m d) : Bx W.drew g a n c b m d := h
theorem Bx.new' (W : World) (g : Nat) (hg : g = W.heap.size) (a : Option Addr) (n c : Nat) (b : Option Addr) (m d : Nat) : Bx (W.alloc (.cells #[.slice a n c, .slice b m d] 25)) g a n c b m d := by rw [hg]; exact Bx.new W a n c b m d
theorem Bx.fr {w : World} {a b : Option Addr} {g n c m d : Nat} (h : Bx w g a n c b m d) {B : Nat} {e : TypeId} {av : Option Addr} {k cv : Nat} {xs : List Value} (hf : Fr w B e av k cv xs) (he : e ≠ 25) (hx : ∀ u ∈ xs, ∀ a n c, u ≠ .slice a n c) (u v : Value) :
    Fr ((w.setCell ⟨g, 0, none⟩ u).setCell ⟨g, 1, none⟩ v) B e av k cv xs := by
  obtain ⟨h1, h2, h3⟩ := hf
  refine ⟨⟨h1.1, fun hk => ?_⟩, fun hk => ?_, h3⟩
  · obtain ⟨b', off, e', hc⟩ := h1.2 hk
    exact ⟨b', off, e', fun j y hy => h.cell_far (hc j y hy) (hx y (List.mem_of_getElem? hy)) u v⟩
  · have ho := h2 hk
    refine ⟨ho.1, ?_⟩
    rcases ho.2 with ho | ⟨g', cap, cur, hv, q1, q2, q3⟩
    · exact .inl ho
    · have hne : g' ≠ g := by
        rintro rfl
        have hh : w.heap[g']? = _ := h
        rw [hh] at q2
        injection q2 with q2
        injection q2 with _ q2
        exact he q2.symm
      exact .inr ⟨g', cap, cur, hv, q1, (Below.heap_setCell _ _ _ g' hne).trans ((Below.heap_setCell _ _ _ g' hne).trans q2), q3⟩
theorem valsI_no (l : List Int) : ∀ u ∈ valsI l, ∀ a n c, u ≠ .slice a n c := by
  intro u hu a n c
  obtain ⟨x, _, rfl⟩ := List.mem_map.1 hu
  intro h; cases h
theorem valsS_no (l : List ByteArray) : ∀ u ∈ valsS l, ∀ a n c, u ≠ .slice a n c := by
  intro u hu a n c
  obtain ⟨x, _, rfl⟩ := List.mem_map.1 hu
  intro h; cases h
theorem Cop.new {w3 wb : World} {n m cv1 cv2 : Nat} {av1 av2 : Option Addr} {l : List Int} {es : List ByteArray} (hb : Below w3.heap.size w3 wb) (h1 : Fr wb w3.heap.size 3 av1 n cv1 (valsI l)) (h2 : Fr wb w3.heap.size 9 av2 m cv2 (valsS es)) :
    Cop w3 n m l es (.pointer (some ⟨wb.heap.size, 0, none⟩)) (wb.alloc (.cells #[.slice av1 n cv1, .slice av2 m cv2] 25)) :=
  ⟨_, _, _, _, _, rfl, hb.size, Bx.new wb _ _ _ _ _ _, h1.below ((Below.refl _ _).alloc (Nat.le_refl _) _), h2.below ((Below.refl _ _).alloc (Nat.le_refl _) _), hb.alloc hb.size _⟩
theorem Cop.set {w3 wb : World} {n m cv1 cv2 g : Nat} {av1 av2 : Option Addr} {l : List Int} {es : List ByteArray} (hb : Below w3.heap.size w3 wb) (h1 : Fr wb w3.heap.size 3 av1 n cv1 (valsI l)) (h2 : Fr wb w3.heap.size 9 av2 m cv2 (valsS es)) (hg : w3.heap.size ≤ g) (hB : Bx wb g none 0 0 none 0 0) :
    Cop w3 n m l es (.pointer (some ⟨g, 0, none⟩)) ((wb.setCell ⟨g, 0, none⟩ (.slice av1 n cv1)).setCell ⟨g, 1, none⟩ (.slice av2 m cv2)) :=
  ⟨_, _, _, _, _, rfl, hg, hB.set _ _ _ _ _ _, hB.fr h1 (by decide) (valsI_no l) _ _, hB.fr h2 (by decide) (valsS_no es) _ _, below_made hb hg _ _⟩
theorem Cop.drew {w3 w : World} {n m : Nat} {l : List Int} {es : List ByteArray} {p : Value} (h : Cop w3 n m l es p w) : Cop w3 n m l es p w.drew := by
  obtain ⟨g, a, c, b, d, e, h1, h2, h3, h4, h5⟩ := h
  exact ⟨g, a, c, b, d, e, h1, h2, h3, h4, h5.drew⟩
theorem kept_cell {W w : World} (h : Below W.heap.size W w) (g i : Nat) (hg : g < W.heap.size) : w.cell? ⟨g, i, none⟩ = W.cell? ⟨g, i, none⟩ := h.cell (p := ⟨g, i, none⟩) hg
theorem kept_mark {W w : World} (h : Below W.heap.size W w) (g i : Nat) (hg : g < W.heap.size) : w.frozen? ⟨g, i, none⟩ = W.frozen? ⟨g, i, none⟩ := h.frozen (p := ⟨g, i, none⟩) hg
theorem same_turn (k l : List Int) (fs es : List ByteArray) : ((k == l) && decide (fs = es)) = ((l == k) && decide (es = fs)) := by
  rw [Bool.beq_comm (a := k)]
  congr 1
  exact decide_eq_decide.2 ⟨fun h => h.symm, fun h => h.symm⟩
/-- Behind the change: both arguments' boxes as they were, in the copy's box what isn't the same. -/
def Aft (W : World) (a1 : Option Addr) (n1 c1 : Nat) (b1 : Option Addr) (m1 d1 : Nat) (a2 : Option Addr) (n2 c2 : Nat) (b2 : Option Addr) (m2 d2 : Nat) (g : Nat) (l : List Int) (es : List ByteArray) (w : World) : Prop :=
  ∃ a n c b m d l' es', Bx w W.heap.size a1 n1 c1 b1 m1 d1 ∧ Bx w (W.heap.size + 1) a2 n2 c2 b2 m2 d2 ∧ Bx w g a n c b m d ∧ Vl w a n b m l' es' ∧ n ≤ 1000000 ∧ ((l == l') && decide (es = es')) = false ∧ Below W.heap.size W w
theorem Sl.drew {w : World} {a : Option Addr} {n : Nat} {l : List Int} (h : Sl w a n l) : Sl w.drew a n l := h
theorem St.drew {w : World} {a : Option Addr} {n : Nat} {l : List ByteArray} (h : St w a n l) : St w.drew a n l := h
theorem Aft.drew {W : World} {a1 : Option Addr} {n1 c1 : Nat} {b1 : Option Addr} {m1 d1 : Nat} {a2 : Option Addr} {n2 c2 : Nat} {b2 : Option Addr} {m2 d2 g : Nat} {l : List Int} {es : List ByteArray} {w : World}
    (h : Aft W a1 n1 c1 b1 m1 d1 a2 n2 c2 b2 m2 d2 g l es w) : Aft W a1 n1 c1 b1 m1 d1 a2 n2 c2 b2 m2 d2 g l es w.drew := by
  obtain ⟨a, n, c, b, m, d, l', es', h1, h2, h3, h4, h5, h6, h7⟩ := h
  exact ⟨a, n, c, b, m, d, l', es', h1.drew, h2.drew, h3.drew, ⟨h4.s.drew, h4.t.drew, h4.mm⟩, h5, h6, h7.drew⟩
set_option maxRecDepth 100000 in
set_option maxHeartbeats 6400000 in
theorem same_any {a1 b1 a2 b2 : Option Addr} {n1 c1 m1 d1 n2 c2 m2 d2 : Nat} {l k : List Int} {es fs : List ByteArray} (x : Int) (W : World) (h1 : Vl W a1 n1 b1 m1 l es) (h2 : Vl W a2 n2 b2 m2 k fs)
    (hz1 : ∀ j, j < m1 → (es.getD j ByteArray.empty).size ≤ maxLen) (hz2 : ∀ j, j < m2 → (fs.getD j ByteArray.empty).size ≤ maxLen) (hx0 : 0 ≤ x) (hx1 : x ≤ 255) (ht : WT W) :
    Calls Tryd.prog 5 #[.agg #[.slice a1 n1 c1, .slice b1 m1 d1], .agg #[.slice a2 n2 c2, .slice b2 m2 d2], .int .u8 x] W (TrueEnd W) := by
  have KF1 := Lib.hid (fun w (hb : Below W.heap.size W w) => Few_is (c := c1) (d := d1) w (h1.below hb) hz1)
  have KF2 := Lib.hid (fun w (hb : Below W.heap.size W w) => Few_is (c := c2) (d := d2) w (h2.below hb) hz2)
  have HW := Lib.hid ht
  have H1 := Lib.hid h1
  have H2 := Lib.hid h2
  clear h1 h2 hz1 hz2 ht
  have hA := (Bx.new W a1 n1 c1 b1 m1 d1).alloc (.cells #[.slice a2 n2 c2, .slice b2 m2 d2] 25)
  have hB := Bx.two W (.cells #[.slice a1 n1 c1, .slice b1 m1 d1] 25) a2 n2 c2 b2 m2 d2
  have hb0 : Below W.heap.size W ((W.alloc (.cells #[.slice a1 n1 c1, .slice b1 m1 d1] 25)).alloc (.cells #[.slice a2 n2 c2, .slice b2 m2 d2] 25)) := ((Below.refl _ _).alloc (Nat.le_refl _) _).alloc (by simp) _
  by_cases hfa : fewB l es = false
  · rw [hfa] at KF1
    clear KF2 H1 H2 hfa
    go_enter Tryd.func5, Tryd.ntmps5
    go_wp2_with fail
    refine (shown_is _ (HW.out.below hb0)).mono ?_
    rintro y w1 ⟨rfl, hb⟩
    have hA1 := hA.below hb hA.lt
    have hb1 := hb0.trans (hb.mono hb0.size)
    clear hA hB hb0 hb
    have x0 := hA1.c0
    have x1 := hA1.c1
    go_wp2_with fail
    refine (KF1.out _ hb1).mono ?_
    rintro y w2 ⟨rfl, hb⟩
    go_wp2_with fail
    go_ret
    exact ⟨rfl, hb1.trans (hb.mono hb1.size)⟩
  have hfa : fewB l es = true := by simpa using hfa
  obtain ⟨e1, e2, e5⟩ := fewB_yes hfa
  rw [H1.out.s.1] at e1
  rw [H1.out.t.1] at e2 e5
  rw [hfa] at KF1
  clear hfa
  by_cases hfb : fewB k fs = false
  · rw [hfb] at KF2
    clear H1 H2 hfb e5
    go_enter Tryd.func5, Tryd.ntmps5
    go_wp2_with fail
    refine (shown_is _ (HW.out.below hb0)).mono ?_
    rintro y w1 ⟨rfl, hb⟩
    have hA1 := hA.below hb hA.lt
    have hB1 := hB.below hb hB.lt
    have hb1 := hb0.trans (hb.mono hb0.size)
    clear hA hB hb0 hb
    have x0 := hA1.c0
    have x1 := hA1.c1
    go_wp2_with fail
    refine (KF1.out _ hb1).mono ?_
    rintro y w2 ⟨rfl, hb⟩
    have hB2 := hB1.below hb hB1.lt
    have hb2 := hb1.trans (hb.mono hb1.size)
    clear hA1 hB1 hb1 hb x0 x1
    have x0 := hB2.c0
    have x1 := hB2.c1
    go_wp2_with fail
    refine (KF2.out _ hb2).mono ?_
    rintro y w3 ⟨rfl, hb⟩
    go_wp2_with fail
    go_ret
    exact ⟨rfl, hb2.trans (hb.mono hb2.size)⟩
  have hfb : fewB k fs = true := by simpa using hfb
  have e6 : n2 ≤ 20 := by have := (fewB_yes hfb).1; rwa [H2.out.s.1] at this
  rw [hfb] at KF2
  replace KF2 := Lib.hid KF2.out
  clear hfb
  have E5 := Lib.hid e5
  clear e5
  go_enter Tryd.func5, Tryd.ntmps5
  go_wp2_with fail
  refine (shown_is _ (HW.out.below hb0)).mono ?_
  rintro y w1 ⟨rfl, hb⟩
  have hA1 := hA.below hb hA.lt
  have hB1 := hB.below hb hB.lt
  have hb1 := hb0.trans (hb.mono hb0.size)
  clear hA hB hb0 hb
  have x0 := hA1.c0
  have x1 := hA1.c1
  go_wp2_with fail
  refine (KF1.out _ hb1).mono ?_
  rintro y w2 ⟨rfl, hb⟩
  have hA2 := hA1.below hb hA1.lt
  have hB2 := hB1.below hb hB1.lt
  have hb2 := hb1.trans (hb.mono hb1.size)
  clear hA1 hB1 hb1 hb x0 x1
  have x0 := hB2.c0
  have x1 := hB2.c1
  go_wp2_with fail
  refine (KF2.out _ hb2).mono ?_
  rintro y w3 ⟨rfl, hb⟩
  have hA3 := hA2.below hb hA2.lt
  have hB3 := hB2.below hb hB2.lt
  have hb3 := hb2.trans (hb.mono hb2.size)
  clear hA2 hB2 hb2 hb x0 x1
  have x0 := hA3.c0
  have x1 := hA3.c1
  have hR1 := Lib.hid (H1.out.s.below hb3).rd
  have hR2 := Lib.hid (H1.out.t.below hb3).rd
  have hH : W.heap.size < w3.heap.size := hA3.lt
  go_upto_region 4 with fail
  go_cut [8] (fun p wx => Cop w3 n1 m1 l es p wx)
  case first =>
    have hbel : Below w3.heap.size w3 w3 := Below.refl _ _
    go_region_held3 (fun w' => w'.cell? ⟨W.heap.size, 0, none⟩ = some (.slice a1 n1 c1) ∧ w'.cell? ⟨W.heap.size, 1, none⟩ = some (.slice b1 m1 d1))
      (first | exact ⟨(Below.cell (p := ⟨W.heap.size, 0, none⟩) (by repeat' (first | exact hbel2 | exact hbel1 | exact hbel | refine Below.drew ?_ | refine Below.alloc ?_ ?_ _ | refine Below.setCell ?_ ?_ _ | exact Nat.le_refl _ | omega | (simp; done) | (simp; omega))) hH).trans x0, (Below.cell (p := ⟨W.heap.size, 1, none⟩) (by repeat' (first | exact hbel2 | exact hbel1 | exact hbel | refine Below.drew ?_ | refine Below.alloc ?_ ?_ _ | refine Below.setCell ?_ ?_ _ | exact Nat.le_refl _ | omega | (simp; done) | (simp; omega))) hH).trans x1⟩ | fail)
      (first
        | (refine step_fresh3 w3 (.tmp 20) (.tmp 22) 22 rfl rfl 3 (.int .i64 0) 8 Tryd.underlying22 infoInt1 (by decide) (by decide) _ a1 n1 c1 (valsI l) hR1.out (valsI_one l) (by omega) rfl rfl (by repeat' (first | exact hbel2 | exact hbel1 | exact hbel | refine Below.drew ?_ | refine Below.alloc ?_ ?_ _ | exact Nat.le_refl _ | omega | (simp; done) | (simp; omega))) ?_; intro av1 cv1 wa hba hbel1 hf1; have hsz1 := hbel1.size; (try (have hf2x := hf2.below (Below.trans (by repeat' (first | exact Below.refl _ _ | refine Below.drew ?_ | refine Below.alloc ?_ ?_ _ | exact Nat.le_refl _ | omega | (simp; done) | (simp; omega))) (hba.mono (by first | exact Nat.le_refl _ | exact Nat.le_refl _ | omega | (simp; done) | (simp; omega)))))); have hca := kept_cell hba; have hfa := kept_mark hba; (try (have hz2 : w3.heap.size + 1 + 1 < wa.heap.size := by have hh := hba.size; simp at hh; omega)); (try (have hz1 : w3.heap.size + 1 < wa.heap.size := by have hh := hba.size; simp at hh; omega)); (try (have hz0 : w3.heap.size < wa.heap.size := by have hh := hba.size; simp at hh; omega)))
        | (refine step_fresh3 w3 (.tmp 24) (.tmp 26) 23 rfl rfl 9 (.string ⟨#[]⟩) 16 Tryd.underlying23 infoStr (by decide) (by decide) _ b1 m1 d1 (valsS es) hR2.out (valsS_one es) (by omega) rfl rfl (by repeat' (first | exact hbel2 | exact hbel1 | exact hbel | refine Below.drew ?_ | refine Below.alloc ?_ ?_ _ | exact Nat.le_refl _ | omega | (simp; done) | (simp; omega))) ?_; intro av2 cv2 wb hbb hbel2 hf2; have hsz2 := hbel2.size; (try (have hf1x := hf1.below (Below.trans (by repeat' (first | exact Below.refl _ _ | refine Below.drew ?_ | refine Below.alloc ?_ ?_ _ | exact Nat.le_refl _ | omega | (simp; done) | (simp; omega))) (hbb.mono (by first | exact Nat.le_refl _ | exact Nat.le_refl _ | omega | (simp; done) | (simp; omega)))))); have hcb := kept_cell hbb; have hfb := kept_mark hbb))
    all_goals
      clear hca hfa hcb hfb
      go_wp2_with fail
      go_meet
      case rel => with_reducible first | exact Cop.new hbel2 hf1x hf2 | (refine Cop.set hbel2 hf1x hf2 ?_ ?_; (first | omega | (simp; omega)); (repeat' (first | exact Bx.new' _ _ (by simp; done) _ _ _ _ _ _ | refine Bx.drew ?_ | refine Bx.alloc ?_ _ | refine Bx.below ?_ hbb ?_ | refine Bx.below ?_ hba ?_ | assumption | (simp; done) | (simp; omega))))
  case rest =>
    obtain ⟨g, a, c, b, d, rfl, hg, hC, hf1, hf2, hbc⟩ := hcut
    have hA4 := hA3.below hbc hA3.lt
    have hB4 := hB3.below hbc hB3.lt
    have hb4 := hb3.trans (hbc.mono hb3.size)
    have hg2 : W.heap.size + 1 < g := Nat.lt_of_lt_of_le hB3.lt hg
    have hW3 : W.heap.size ≤ w3.heap.size := Nat.le_of_lt hA3.lt
    have hV : Vl wc a n1 b m1 l es := ⟨hf1.1.sl, hf2.1.st, by omega⟩
    have K1 := VSame_is (c1 := c1) (d1 := d1) (c2 := c) (d2 := d) wc (H1.out.below hb4) hV (by omega) (by omega)
    rw [show ((l == l) && decide (es = es)) = true by simp] at K1
    replace K1 := Lib.hid K1
    have HF := Lib.hid (And.intro hf1 hf2)
    have HBC := Lib.hid hbc
    clear hA3 hB3 hb3 hbc x0 x1 hR1 hR2 hH hV hf1 hf2
    have x0 := hA4.c0
    have x1 := hA4.c1
    have y0 := hC.c0
    have y1 := hC.c1
    go_wp2_with fail
    refine K1.out.mono ?_
    rintro y w5 ⟨rfl, hb⟩
    have hA5 := hA4.below hb hA4.lt
    have hB5 := hB4.below hb hB4.lt
    have hC5 := hC.below hb hC.lt
    have hb5 := hb4.trans (hb.mono hb4.size)
    have hs5 : w3.heap.size ≤ w5.heap.size := Nat.le_trans HBC.out.size hb.size
    have HF5 := Lib.hid (And.intro (HF.out.1.below hb) (HF.out.2.below hb))
    clear hA4 hB4 hC hb4 hb HF K1 x0 x1 y0 y1 HBC
    have y0 := hC5.c0
    have y1 := hC5.c1
    go_upto_if 35 with fail
    go_cut [] (fun wx => Aft W a1 n1 c1 b1 m1 d1 a2 n2 c2 b2 m2 d2 g l es wx)
    case first =>
      by_cases hm : m1 = 0
      · obtain rfl : es = [] := List.eq_nil_of_length_eq_zero (by rw [H1.out.t.1]; exact hm)
        subst hm
        have f0 := hC5.f 0
        have ho : Below w5.heap.size w5 (w5.alloc (.cells #[.int .i64 1] 3)) := (Below.refl _ _).alloc (Nat.le_refl _) _
        have hf1 := Lib.hid (HF5.out.1.below ho)
        have hr1 : Rd (w5.alloc (.cells #[.int .i64 1] 3)) (some ⟨w5.heap.size, 0, none⟩) 1 [.int .i64 1] := (Sl.row (l := [1]) (heap_alloc_new w5 _)).rd
        have hR := Lib.hid hr1
        clear hr1
        go_wp2_with (at_builtin; refine wpList_append_fr rfl (.tmp 57) (.tmp 58) 22 rfl w3.heap.size 3 (.int .i64 0) 8 Tryd.underlying22 infoInt1 rfl (by decide) a n1 c (valsI l) rfl hf1.out (some ⟨w5.heap.size, 0, none⟩) 1 1 [.int .i64 1] rfl hR.out (by intro u hu; rw [List.mem_singleton] at hu; rw [hu]; rfl) (by omega) (Nat.le_trans hs5 ho.size) ?_; intro av cv w6 hf6 hg6; have hC6 := hg6.bx (hC5.alloc (.cells #[.int .i64 1] 3)) (by decide); have q0 := hC6.c0; have qf := hC6.f 0)
        have hA6 := (hg6.bx (hA5.alloc _) (by decide)).setOther (p := ⟨g, 0, none⟩) (show W.heap.size ≠ g by omega) (.slice av (n1 + 1) cv)
        have hB6 := (hg6.bx (hB5.alloc _) (by decide)).setOther (p := ⟨g, 0, none⟩) (show W.heap.size + 1 ≠ g by omega) (.slice av (n1 + 1) cv)
        have hS6 := hC6.sl0 hf6.1.of_one (.slice av (n1 + 1) cv)
        have hb6 : Below W.heap.size W w6 := (hb5.trans (ho.mono hb5.size)).trans ((hg6.below (Nat.le_trans hs5 ho.size)).mono hW3)
        have hb7 := hb6.setCell (p := ⟨g, 0, none⟩) (show W.heap.size ≤ g by omega) (.slice av (n1 + 1) cv)
        have hne : ((l == l ++ [1]) && decide (([] : List ByteArray) = [])) = false := by
          have : (l == l ++ [1]) = false := beq_eq_false_iff_ne.2 (fun e => by have := congrArg List.length e; simp at this)
          rw [this]; rfl
        have HR : Aft W a1 n1 c1 b1 0 d1 a2 n2 c2 b2 m2 d2 g l [] (w6.setCell ⟨g, 0, none⟩ (.slice av (n1 + 1) cv)) := ⟨av, n1 + 1, cv, b, 0, d, l ++ [1], [], hA6, hB6, hC6.set0 _ _ _, ⟨hS6, St.nil _ _, by omega⟩, by omega, hne, hb7⟩
        clear hA6 hB6 hS6 hb6 hb7 hne hC6 hg6 hf6 q0 qf
        go_meet
        case rel => exact HR
      · have hm' : (0 : Int) < (m1 : Int) := by omega
        obtain ⟨ge, rfl, hge, hce, hfe, cur, hcur⟩ := own_row (HF5.out.2.2.1 (by omega)) (by omega)
        obtain ⟨kk, hkk⟩ : ∃ kk : Nat, kk = (x % (m1 : Int)).toNat := ⟨_, rfl⟩
        have k0 := Int.emod_nonneg x (show (m1 : Int) ≠ 0 by omega)
        have k1 := Int.emod_lt_of_pos x hm'
        have hkm : kk < m1 := by omega
        have hmod : x % (m1 : Int) = (kk : Int) := by omega
        have htm : x.tmod (m1 : Int) = (kk : Int) := by rw [Int.tmod_eq_emod_of_nonneg hx0]; exact hmod
        have hm0 : (m1 : Int) ≠ 0 := by omega
        have hwx : IntKind.i64.wrap x = x := IntWalk.i64_in _ (by omega)
        have hck := hce kk hkm
        unfold valsS at hck
        rw [List.getElem?_map, List.getElem?_eq_getElem (show kk < es.length by rw [H1.out.t.1]; exact hkm)] at hck
        obtain ⟨s, hs⟩ : ∃ s, s = es[kk]'(by rw [H1.out.t.1]; exact hkm) := ⟨_, rfl⟩
        rw [← hs] at hck
        have hck2 : w5.cell? ⟨ge, kk, none⟩ = some (.string s) := hck
        have hfk := hfe kk
        have hsz : s.size ≤ 120 := by have := E5.out kk hkm; rw [List.getD_eq_getElem?_getD, List.getElem?_eq_getElem (show kk < es.length by rw [H1.out.t.1]; exact hkm)] at this; rw [hs]; exact this
        have HS := Lib.hid hs
        have HCU := Lib.hid hcur
        clear hce hfe hck hs hkk k0 k1 hcur
        have e3 : (kk : Int) < (m1 : Int) := by omega
        have e4 : (0 : Int) ≤ (kk : Int) := by omega
        go_wp2_with fail
        go_region
        go_wp2_with fail
        have hA6 := hA5.beside (k := kk) HCU.out (by decide) (.string (s ++ ⟨#[49]⟩))
        have hB6 := hB5.beside (k := kk) HCU.out (by decide) (.string (s ++ ⟨#[49]⟩))
        have hC6 := hC5.beside (k := kk) HCU.out (by decide) (.string (s ++ ⟨#[49]⟩))
        have hS6 := HF5.out.1.1.sl.far hck2 (.string (s ++ ⟨#[49]⟩))
        have hT6 := HF5.out.2.1.st.put hkm (s ++ ⟨#[49]⟩)
        have hb6 := hb5.setCell (p := ⟨ge, kk, none⟩) (show W.heap.size ≤ ge by omega) (.string (s ++ ⟨#[49]⟩))
        have hne : ((l == l) && decide (es = es.set kk (s ++ ⟨#[49]⟩))) = false := by
          rw [Bool.and_eq_false_iff]
          refine .inr (decide_eq_false fun e => ?_)
          have hl : kk < es.length := by rw [H1.out.t.1]; exact hkm
          have h1 : es[kk]? = (es.set kk (s ++ ⟨#[49]⟩))[kk]? := by rw [← e]
          rw [List.getElem?_set_self hl, List.getElem?_eq_getElem hl, ← HS.out] at h1
          injection h1 with h1
          have h2 := congrArg ByteArray.size h1
          rw [ByteArray.size_append] at h2
          have h3 : (⟨#[49]⟩ : ByteArray).size = 1 := rfl
          omega
        have HR : Aft W a1 n1 c1 b1 m1 d1 a2 n2 c2 b2 m2 d2 g l es (w5.setCell ⟨ge, kk, none⟩ (.string (s ++ ⟨#[49]⟩))).drew := Aft.drew ⟨a, n1, c, some ⟨ge, 0, none⟩, m1, d, l, es.set kk (s ++ ⟨#[49]⟩), hA6, hB6, hC6, ⟨hS6, hT6, by omega⟩, by omega, hne, hb6⟩
        clear hA6 hB6 hC6 hS6 hT6 hb6 hne hA5 hB5 hC5 y0 y1 hck2 hfk
        go_meet
        case rel => exact HR
    case rest =>
      obtain ⟨ax, nx, cx, bx, mx, dx, lx, ex, hA6, hB6, hC6, hV6, hnx, hne, hb6⟩ := hcut
      clear hA5 hB5 hC5 hb5 y0 y1 HF5 hs5 hW3 hg
      have K1 := fun w (hb : Below wc.heap.size wc w) => (VSame_is (c1 := c1) (d1 := d1) (c2 := cx) (d2 := dx) w ((H1.out.below hb6).below hb) (hV6.below hb) (by omega) hnx).mono fun e w' h => (⟨h.1, hb.trans (h.2.mono hb.size)⟩ : e = _ ∧ Below wc.heap.size wc w')
      rw [hne] at K1
      have K2 := fun w (hb : Below wc.heap.size wc w) => (VSame_is (c1 := c1) (d1 := d1) (c2 := c2) (d2 := d2) w ((H1.out.below hb6).below hb) ((H2.out.below hb6).below hb) (by omega) (by omega)).mono fun e w' h => (⟨h.1, hb.trans (h.2.mono hb.size)⟩ : e = _ ∧ Below wc.heap.size wc w')
      have K3 := fun w (hb : Below wc.heap.size wc w) => (VSame_is (c1 := c2) (d1 := d2) (c2 := c1) (d2 := d1) w ((H2.out.below hb6).below hb) ((H1.out.below hb6).below hb) (by omega) (by omega)).mono fun e w' h => (⟨h.1, hb.trans (h.2.mono hb.size)⟩ : e = _ ∧ Below wc.heap.size wc w')
      rw [same_turn k l fs es] at K3
      generalize ((l == k) && decide (es = fs)) = q at K2 K3
      replace K1 := Lib.hid K1
      replace K2 := Lib.hid K2
      replace K3 := Lib.hid K3
      have x0 := hA6.c0
      have x1 := hA6.c1
      have z0 := hB6.c0
      have z1 := hB6.c1
      have y0 := hC6.c0
      have y1 := hC6.c1
      have l1 : W.heap.size < wc.heap.size := hA6.lt
      have l2 : W.heap.size + 1 < wc.heap.size := hB6.lt
      have l3 : g < wc.heap.size := hC6.lt
      have hq : Below wc.heap.size wc wc := Below.refl _ _
      clear hA6 hB6 hC6 hne hV6
      go_upto_region 9 with fail
      go_region_held3 (fun w' => w'.cell? ⟨W.heap.size, 0, none⟩ = some (.slice a1 n1 c1) ∧ w'.cell? ⟨W.heap.size, 1, none⟩ = some (.slice b1 m1 d1) ∧ w'.cell? ⟨W.heap.size + 1, 0, none⟩ = some (.slice a2 n2 c2) ∧ w'.cell? ⟨W.heap.size + 1, 1, none⟩ = some (.slice b2 m2 d2) ∧ w'.cell? ⟨g, 0, none⟩ = some (.slice ax nx cx) ∧ w'.cell? ⟨g, 1, none⟩ = some (.slice bx mx dx))
        (first | exact ⟨(Below.cell (p := ⟨W.heap.size, 0, none⟩) (by repeat' (first | exact hq | refine Below.drew ?_ | refine below_drewN ?_ _)) l1).trans x0, (Below.cell (p := ⟨W.heap.size, 1, none⟩) (by repeat' (first | exact hq | refine Below.drew ?_ | refine below_drewN ?_ _)) l1).trans x1, (Below.cell (p := ⟨W.heap.size + 1, 0, none⟩) (by repeat' (first | exact hq | refine Below.drew ?_ | refine below_drewN ?_ _)) l2).trans z0, (Below.cell (p := ⟨W.heap.size + 1, 1, none⟩) (by repeat' (first | exact hq | refine Below.drew ?_ | refine below_drewN ?_ _)) l2).trans z1, (Below.cell (p := ⟨g, 0, none⟩) (by repeat' (first | exact hq | refine Below.drew ?_ | refine below_drewN ?_ _)) l3).trans y0, (Below.cell (p := ⟨g, 1, none⟩) (by repeat' (first | exact hq | refine Below.drew ?_ | refine below_drewN ?_ _)) l3).trans y1⟩ | fail)
        (first
          | (go_at_call 13; (with_reducible refine (K1.out _ (by repeat' (first | exact hq | refine Below.drew ?_ | refine below_drewN ?_ _))).mono ?_); rintro y wq ⟨rfl, hq⟩)
          | (go_at_call 13; (with_reducible refine (K2.out _ (by repeat' (first | exact hq | refine Below.drew ?_ | refine below_drewN ?_ _))).mono ?_); rintro y wq ⟨rfl, hq⟩)
          | (go_at_call 13; (with_reducible refine (K3.out _ (by repeat' (first | exact hq | refine Below.drew ?_ | refine below_drewN ?_ _))).mono ?_); rintro y wq ⟨rfl, hq⟩))
      go_wp2_with fail
      go_ret
      exact ⟨rfl, hb6.trans (hq.mono hb6.size)⟩
end Go.Proofs.YtpnedgldnndnjaaDoor

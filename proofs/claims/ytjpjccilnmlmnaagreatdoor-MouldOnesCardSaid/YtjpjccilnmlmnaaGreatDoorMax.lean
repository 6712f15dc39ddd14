import Derived.Test.YtjpjccilnmlmnaaGreatDoorMaw
import Derived.Deep.RegionHeld3
import Derived.Deep.DeepCutAuto
/-
  mould's part: some items of an array that has an axis.
-/
namespace Go.Proofs.YtjpjccilnmlmnaaGreatDoor
set_option linter.unusedVariables false
set_option linter.unusedSimpArgs false
open Go.RowKit

/-! ### part -/
def PtEnd (l : List Int) (es : List ByteArray) (W : World) (e : Ending) (W' : World) : Prop :=
  ∃ a n c b m d, e = .returned (.agg #[.slice a n c, .slice b m d]) ∧ Vl W' a n b m l es ∧ Cp n c m d ∧ Below W.heap.size W W'
section
variable {W : World} {a b : Option Addr} {n c m d : Nat} {l : List Int} {es : List ByteArray} {q : Ar}
theorem Av.cuts (h : Av W a n c b m d l es (some q)) {f t : Nat} (hft : f ≤ t) (ht : t ≤ mN l) : f * iS l m ≤ t * iS l m ∧ t * iS l m ≤ m ∧ ctM l es f t = (es.drop (f * iS l m)).take (t * iS l m - f * iS l m) := by
  obtain ⟨h1, _, _, h4⟩ := h.items
  have h5 : t * iS l m ≤ mN l * iS l m := Nat.mul_le_mul_right _ ht
  refine ⟨Nat.mul_le_mul_right _ hft, by omega, ?_⟩
  unfold ctM
  by_cases h0 : m = 0
  · have he : es = [] := List.length_eq_zero_iff.1 (h.v.t.1.trans h0)
    rw [he]
    simp
  · have e : iS l m = kI l := if_neg h0
    rw [e, ← Nat.sub_mul]
theorem kept_box {w : World} {g g' : Nat} {x y v0 v1 : Value} (hne : g ≠ g') (h : w.cell? ⟨g, 0, none⟩ = some x ∧ w.cell? ⟨g, 1, none⟩ = some y) :
    ((w.setCell ⟨g', 0, none⟩ v0).setCell ⟨g', 1, none⟩ v1).cell? ⟨g, 0, none⟩ = some x ∧ ((w.setCell ⟨g', 0, none⟩ v0).setCell ⟨g', 1, none⟩ v1).cell? ⟨g, 1, none⟩ = some y := by
  have h1 : ∀ i j : Nat, (⟨g', i, none⟩ : Addr) ≠ ⟨g, j, none⟩ := fun i j e => by injection e with e; exact hne e.symm
  rw [World.cell?_setCell_other _ _ _ _ (h1 1 0), World.cell?_setCell_other _ _ _ _ (h1 0 0), World.cell?_setCell_other _ _ _ _ (h1 1 1), World.cell?_setCell_other _ _ _ _ (h1 0 1)]
  exact h
theorem own_new1 (w : World) (x : Int) : (w.alloc (.cells #[.int .i64 x] 3)).ownsRow w.heap.size 3 1 (.slice (some ⟨w.heap.size, 0, none⟩) 1 1) 1 (valsI [x]) :=
  ⟨rfl, .inr ⟨w.heap.size, 1, #[.int .i64 x], rfl, Nat.le_refl _, heap_alloc_new w _, Nat.le_refl _, by unfold maxLen; omega, rfl, rfl⟩⟩
set_option maxRecDepth 100000 in
set_option maxHeartbeats 6400000 in
theorem Part_is (h : Av W a n c b m d l es (some q)) (hn : 0 < n) {f t : Nat} (hft : f ≤ t) (ht : t ≤ mN l) :
    Calls Tryz.prog 56 #[.agg #[.slice a n c, .slice b m d], .int .i64 f, .int .i64 t] W (PtEnd (((t - f : Nat) : Int) :: l.tail) (ctM l es f t) W) := by
  obtain ⟨c1, c2, c3⟩ := h.cuts hft ht
  obtain ⟨h1, _, h3, h4⟩ := h.items
  have hm := h.mlen.2.2
  have hn3 := h.n3
  have hnc := h.c.nc
  have hmd := h.c.md
  have K1 := Lib.hid (fun w (hb : Below W.heap.size W w) => ISize_is (h.below hb))
  have HV := Lib.hid h.v
  rw [c3]
  obtain ⟨o1, e1⟩ : ∃ o, o = f * iS l m := ⟨_, rfl⟩
  obtain ⟨o2, e2⟩ : ∃ o, o = t * iS l m := ⟨_, rfl⟩
  obtain ⟨k, hk⟩ : ∃ k, k = iS l m := ⟨_, rfl⟩
  rw [← hk] at e1 e2 h4 c1 c2 K1
  rw [← hk, ← e1, ← e2]
  rw [← e1, ← e2] at c1
  rw [← e2] at c2
  obtain ⟨u, hu⟩ : ∃ u, u = t - f := ⟨_, rfl⟩
  rw [← hu]
  have hw1 : IntKind.i64.wrap ((f : Int) * (k : Int)) = (o1 : Int) := item_wrap e1 (by omega)
  have hw2 : IntKind.i64.wrap ((t : Int) * (k : Int)) = (o2 : Int) := item_wrap e2 (by omega)
  have hw3 : IntKind.i64.wrap ((t : Int) - (f : Int)) = (u : Int) := by
    rw [show (t : Int) - (f : Int) = (u : Int) by omega]
    exact IntWalk.i64_in _ (by omega)
  have h := live1 W a n c b m d
  have HW := Lib.hid (And.intro hw1 (And.intro hw2 hw3))
  clear e1 e2 h1 h3 h4 hk c3 hu ht hft hw1 hw2 hw3
  go_enter Tryz.func56, Tryz.ntmps56
  have xv := h.out.2.1.c0
  have yv := h.out.2.1.c1
  go_wp2_with fail
  refine (live h (K1.out _ h.out.2.2)).mono ?_
  clear h xv yv
  rintro e w ⟨rfl, h⟩
  go_upto_region 2 with fail
  obtain ⟨hw1, hw2, hw3⟩ := HW.out
  have x0 := h.out.2.1.c0
  have x1 := h.out.2.1.c1
  have lA := h.out.2.1.lt
  have hq : Below w.heap.size w w := Below.refl _ _
  have QI : Hid (∀ z, Calls Tryz.prog 77 #[.slice a n c, .int .i64 1, .int .i64 n] z (CutEnd a 1 n z)) := Lib.hid fun z => CutI_is a n c 1 n z (by omega) (by omega)
  have QS : Hid (∀ z, Calls Tryz.prog 40 #[.slice b m d, .int .i64 o1, .int .i64 o2] z (CutEnd b o1 o2 z)) := Lib.hid fun z => CutS_is b m d o1 o2 z c1 (by omega)
  have QC : Hid (∀ z, Below w.heap.size w z → Calls Tryz.prog 71 #[.slice (cutA b o1 o2) (o2 - o1) (o2 - o1)] z fun e w' => ∃ a' c', e = .returned (.slice a' (o2 - o1) c') ∧ w'.ownsRow z.heap.size 9 1 (.slice a' (o2 - o1) c') (o2 - o1) (valsS ((es.drop o1).take (o2 - o1))) ∧ Below z.heap.size z w') :=
    Lib.hid fun z hz => CloneS_o (cutA b o1 o2) (o2 - o1) (o2 - o1) ((es.drop o1).take (o2 - o1)) z ((HV.out.below (h.out.2.2.trans (hz.mono h.out.2.2.size))).t.cut c1 c2) (by omega)
  have HT : Hid (∀ z, Below w.heap.size w z → Rd z (cutA a 1 n) (n - 1) (valsI l.tail)) := Lib.hid fun z hz => ((HV.out.below (h.out.2.2.trans (hz.mono h.out.2.2.size))).s.cut1 (by omega)).rd
  have HO := Lib.hid (own_new1 w (u : Int))
  clear K1
  go_region_held3 (fun w' => w'.cell? ⟨W.heap.size, 0, none⟩ = some (.slice a n c) ∧ w'.cell? ⟨W.heap.size, 1, none⟩ = some (.slice b m d))
    (first | exact kept_box (by omega) ⟨(Below.cell (p := ⟨W.heap.size, 0, none⟩) hq lA).trans x0, (Below.cell (p := ⟨W.heap.size, 1, none⟩) hq lA).trans x1⟩ | exact ⟨(Below.cell (p := ⟨W.heap.size, 0, none⟩) (by repeat' (first | exact hq | refine Below.drew ?_ | refine below_drewN ?_ _ | refine Below.alloc ?_ (Below.size (by repeat' (first | exact hq | refine Below.drew ?_ | refine below_drewN ?_ _))) _)) lA).trans x0, (Below.cell (p := ⟨W.heap.size, 1, none⟩) (by repeat' (first | exact hq | refine Below.drew ?_ | refine below_drewN ?_ _ | refine Below.alloc ?_ (Below.size (by repeat' (first | exact hq | refine Below.drew ?_ | refine below_drewN ?_ _))) _)) lA).trans x1⟩ | fail)
    (first
      | (go_at_call 77; (with_reducible refine (QI.out _).mono ?_); rintro e wq ⟨rfl, rfl⟩)
      | (go_at_call 40; (with_reducible refine (QS.out _).mono ?_); rintro e wq ⟨rfl, rfl⟩)
      | (go_at_call 71; (with_reducible refine (QC.out _ (by repeat' (first | exact hq | refine Below.drew ?_ | refine below_drewN ?_ _ | refine Below.alloc ?_ (Below.size (by repeat' (first | exact hq | refine Below.drew ?_ | refine below_drewN ?_ _))) _))).mono ?_); rintro e wq ⟨ac, cc, rfl, hoc, hq2⟩; have hq5 := hq.trans (hq2.mono hq.size); have ho4 := own_below ho3 hq2; have hBR := h.out.1.below hq5 h.out.1.lt; have y0 := hBR.c0; have y1 := hBR.c1; have f0 := hBR.f 0; have f1 := hBR.f 1; have hq := hq5)
      | (refine step_append_rd rfl (.tmp 13) (.tmp 19) 22 rfl w.heap.size 3 (.int .i64 0) 8 Tryz.underlying22 infoInt1 rfl (by decide) _ 1 (valsI [(u : Int)]) rfl HO.out (cutA a 1 n) (n - 1) (n - 1) (valsI l.tail) rfl (HT.out _ (by repeat' (first | exact hq | refine Below.drew ?_ | refine below_drewN ?_ _ | refine Below.alloc ?_ (Below.size (by repeat' (first | exact hq | refine Below.drew ?_ | refine below_drewN ?_ _))) _))) (valsI_one _) (by omega) (by simp [World.drew]) ?_; intro av cv w3 ho3 hg3; have hq := (show Below w.heap.size w (w.alloc (.cells #[.int .i64 (u : Int)] 3)).drew from ((Below.refl _ _).alloc (Nat.le_refl _) _).drew).trans (grown_below' hg3 (fun g hg => (HO.out.lt g hg).1) (by simp [World.drew])))
      | fail)
  all_goals
    go_wp2_with fail
    have hR := hBR.set av (1 + (n - 1)) cv ac (o2 - o1) cc
    have r0 := hR.c0
    have r1 := hR.c1
    have hs : Sl wq av (1 + (n - 1)) ((u : Int) :: l.tail) := own_sl (l := (u : Int) :: l.tail) ho4
    exact bodyPost_ret (v := .agg #[.slice av (1 + (n - 1)) cv, .slice ac (o2 - o1) cc]) (by simp [results, Tryz.results56, go_sem, r0, r1]) rfl
      ⟨_, _, _, _, _, _, rfl, ⟨hBR.sl hs _ _, hBR.st (own_st hoc) _ _, by omega⟩, ⟨(own_caps ho4).1, (own_caps ho4).2, (own_caps hoc).1, (own_caps hoc).2⟩, below_made (h.out.2.2.trans (hq5.mono h.out.2.2.size)) (by omega) _ _⟩
end
end Go.Proofs.YtjpjccilnmlmnaaGreatDoor

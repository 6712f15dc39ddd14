import Derived.Test.YtogphdflgcdiiaaDoorMat
import Derived.Deep.RegionHeld3
namespace Go.Proofs.YtogphdflgcdiiaaDoor
set_option linter.unusedVariables false
set_option linter.unusedSimpArgs false
open Go.RowKit

theorem sign_mul_signs (x y : Int) : x.sign * y.sign = (x * y).sign := (Int.sign_mul x y).symm
theorem mul_made (x y : Int) : x.sign * y.sign * ((x.natAbs * y.natAbs : Nat) : Int) = x * y := by
  rw [← Int.natAbs_mul, ← Int.sign_mul, Int.sign_mul_natAbs]
theorem sign_cases (x : Int) : x.sign = 1 ∨ x.sign = -1 ∨ x = 0 := by
  rcases Int.lt_trichotomy x 0 with h | h | h
  · exact .inr (.inl (Int.sign_eq_neg_one_of_neg h))
  · exact .inr (.inr h)
  · exact .inl (Int.sign_eq_one_of_pos h)
theorem len_of_val {l : List Nat} (nl : Norm l) {n k : Nat} (h : val l = n) (hn : n < 1000000000 ^ k) : l.length ≤ k := len_le_of_lt nl (by rw [h]; exact hn)

/-- A new struct of two cells whose place is kept. -/
theorem cell2 (w : World) (u v : Value) (t : TypeId) : (w.alloc (.cells #[u, v] t)).cell? ⟨w.heap.size, 0, none⟩ = some u ∧ (w.alloc (.cells #[u, v] t)).cell? ⟨w.heap.size, 1, none⟩ = some v ∧ (∀ i, (w.alloc (.cells #[u, v] t)).frozen? ⟨w.heap.size, i, none⟩ = false) := by
  have h := heap_alloc_new w (.cells #[u, v] t)
  refine ⟨by rw [cell_of_row _ _ 0 _ _ _ h]; rfl, by rw [cell_of_row _ _ 1 _ _ _ h]; rfl, fun i => frozen_of_row _ _ i _ _ h⟩
theorem cell_keep {w : World} {o : Obj} {p : Addr} {v : Value} (h : w.cell? p = some v) : (w.alloc o).cell? p = some v := (World.cell?_alloc_lt w o p (World.block_lt_of_cell? w p h)).trans h

theorem cases3 {a b c d : Prop} (h : a ∨ b ∨ c) (f : c → d) : a ∨ b ∨ d := by
  rcases h with h | h | h
  · exact .inl h
  · exact .inr (.inl h)
  · exact .inr (.inr (f h))
/-- Two structs that came by value, and a place for the result. -/
structure Box3 (w W : World) (a0 a1 b0 b1 : Value) : Prop where
  c00 : W.cell? ⟨w.heap.size, 0, none⟩ = some a0
  c01 : W.cell? ⟨w.heap.size, 1, none⟩ = some a1
  c10 : W.cell? ⟨w.heap.size + 1, 0, none⟩ = some b0
  c11 : W.cell? ⟨w.heap.size + 1, 1, none⟩ = some b1
  q0 : W.cell? ⟨w.heap.size + 1 + 1, 0, none⟩ = some (.int .i64 0)
  q1 : W.cell? ⟨w.heap.size + 1 + 1, 1, none⟩ = some (.slice none 0 0)
  fa : ∀ i, W.frozen? ⟨w.heap.size, i, none⟩ = false
  fb : ∀ i, W.frozen? ⟨w.heap.size + 1, i, none⟩ = false
  fr : ∀ i, W.frozen? ⟨w.heap.size + 1 + 1, i, none⟩ = false
  size : w.heap.size + 3 ≤ W.heap.size
  far : ∀ i n, W.cell? ⟨w.heap.size + 1 + 1, i, none⟩ ≠ some (.int .u32 n)
  bel : Below w.heap.size w W
theorem box3 (w : World) (a0 a1 b0 b1 : Value) (t : TypeId) : Box3 w (((w.alloc (.cells #[a0, a1] t)).alloc (.cells #[b0, b1] t)).alloc (.cells #[.int .i64 0, .slice none 0 0] t)) a0 a1 b0 b1 := by
  have hA := heap_alloc_new w (.cells #[a0, a1] t)
  have hB := heap_alloc_new (w.alloc (.cells #[a0, a1] t)) (.cells #[b0, b1] t)
  have hC := heap_alloc_new ((w.alloc (.cells #[a0, a1] t)).alloc (.cells #[b0, b1] t)) (.cells #[.int .i64 0, .slice none 0 0] t)
  have s1 : (w.alloc (.cells #[a0, a1] t)).heap.size = w.heap.size + 1 := by simp
  have s2 : ((w.alloc (.cells #[a0, a1] t)).alloc (.cells #[b0, b1] t)).heap.size = w.heap.size + 1 + 1 := by simp
  have hA2 := (Below.heap_alloc _ (.cells #[.int .i64 0, .slice none 0 0] t) w.heap.size (by rw [s2]; omega)).trans ((Below.heap_alloc _ (.cells #[b0, b1] t) w.heap.size (by rw [s1]; omega)).trans hA)
  rw [s1] at hB
  have hB2 := (Below.heap_alloc _ (.cells #[.int .i64 0, .slice none 0 0] t) (w.heap.size + 1) (by rw [s2]; omega)).trans hB
  rw [s2] at hC
  refine ⟨?_, ?_, ?_, ?_, ?_, ?_, fun i => frozen_of_row _ _ i _ _ hA2, fun i => frozen_of_row _ _ i _ _ hB2, fun i => frozen_of_row _ _ i _ _ hC, by simp, fun i n => ?_, ((Below.refl _ _).alloc (Nat.le_refl _) _).alloc (by simp) _ |>.alloc (by simp; omega) _⟩
  · rw [cell_of_row _ _ 0 _ _ _ hA2]; rfl
  · rw [cell_of_row _ _ 1 _ _ _ hA2]; rfl
  · rw [cell_of_row _ _ 0 _ _ _ hB2]; rfl
  · rw [cell_of_row _ _ 1 _ _ _ hB2]; rfl
  · rw [cell_of_row _ _ 0 _ _ _ hC]; rfl
  · rw [cell_of_row _ _ 1 _ _ _ hC]; rfl
  · rw [cell_of_row _ _ i _ _ _ hC]
    rcases i with _ | _ | i <;> simp
theorem undrew {B : Nat} {w w' : World} (h : Below B w.drew w') : Below B w w' := ⟨h.os, h.tape, h.output, h.size, h.block⟩
theorem Box3.below {w W W' : World} {a0 a1 b0 b1 : Value} (h : Box3 w W a0 a1 b0 b1) (hb : Below W.heap.size W W') : Box3 w W' a0 a1 b0 b1 := by
  have hs := h.size
  exact ⟨(hb.cell (p := ⟨_, _, none⟩) (by show w.heap.size < _; omega)).trans h.c00, (hb.cell (p := ⟨_, _, none⟩) (by show w.heap.size < _; omega)).trans h.c01,
    (hb.cell (p := ⟨_, _, none⟩) (by show w.heap.size + 1 < _; omega)).trans h.c10, (hb.cell (p := ⟨_, _, none⟩) (by show w.heap.size + 1 < _; omega)).trans h.c11,
    (hb.cell (p := ⟨_, _, none⟩) (by show w.heap.size + 1 + 1 < _; omega)).trans h.q0, (hb.cell (p := ⟨_, _, none⟩) (by show w.heap.size + 1 + 1 < _; omega)).trans h.q1,
    fun i => (hb.frozen (p := ⟨_, _, none⟩) (by show w.heap.size < _; omega)).trans (h.fa i), fun i => (hb.frozen (p := ⟨_, _, none⟩) (by show w.heap.size + 1 < _; omega)).trans (h.fb i), fun i => (hb.frozen (p := ⟨_, _, none⟩) (by show w.heap.size + 1 + 1 < _; omega)).trans (h.fr i),
    Nat.le_trans hs hb.size, fun i n => by rw [hb.cell (p := ⟨_, _, none⟩) (by show w.heap.size + 1 + 1 < _; omega)]; exact h.far i n, h.bel.trans (hb.mono (by omega))⟩

theorem keep2 {w : World} {g g' i k : Nat} {v a b : Value} (h : w.cell? ⟨g, i, none⟩ = some v) (hne : g ≠ g') : ((w.setCell ⟨g', 0, none⟩ a).setCell ⟨g', k, none⟩ b).cell? ⟨g, i, none⟩ = some v := by
  rw [World.cell?_setCell_other _ _ _ _ (by intro e; injection e with e; exact hne e.symm), World.cell?_setCell_other _ _ _ _ (by intro e; injection e with e; exact hne e.symm), h]
theorem Box3.stored {w W : World} {a0 a1 b0 b1 : Value} (h : Box3 w W a0 a1 b0 b1) (u v : Value) :
    ((W.setCell ⟨w.heap.size + 1 + 1, 0, none⟩ u).setCell ⟨w.heap.size + 1 + 1, 1, none⟩ v).cell? ⟨w.heap.size, 0, none⟩ = some a0 ∧ ((W.setCell ⟨w.heap.size + 1 + 1, 0, none⟩ u).setCell ⟨w.heap.size + 1 + 1, 1, none⟩ v).cell? ⟨w.heap.size, 1, none⟩ = some a1 ∧
    ((W.setCell ⟨w.heap.size + 1 + 1, 0, none⟩ u).setCell ⟨w.heap.size + 1 + 1, 1, none⟩ v).cell? ⟨w.heap.size + 1, 0, none⟩ = some b0 ∧ ((W.setCell ⟨w.heap.size + 1 + 1, 0, none⟩ u).setCell ⟨w.heap.size + 1 + 1, 1, none⟩ v).cell? ⟨w.heap.size + 1, 1, none⟩ = some b1 :=
  ⟨keep2 h.c00 (by omega), keep2 h.c01 (by omega), keep2 h.c10 (by omega), keep2 h.c11 (by omega)⟩
theorem Box3.res {w W : World} {a0 a1 b0 b1 : Value} (h : Box3 w W a0 a1 b0 b1) (u v : Value) :
    ((W.setCell ⟨w.heap.size + 1 + 1, 0, none⟩ u).setCell ⟨w.heap.size + 1 + 1, 1, none⟩ v).cell? ⟨w.heap.size + 1 + 1, 0, none⟩ = some u ∧ ((W.setCell ⟨w.heap.size + 1 + 1, 0, none⟩ u).setCell ⟨w.heap.size + 1 + 1, 1, none⟩ v).cell? ⟨w.heap.size + 1 + 1, 1, none⟩ = some v ∧ Below w.heap.size w ((W.setCell ⟨w.heap.size + 1 + 1, 0, none⟩ u).setCell ⟨w.heap.size + 1 + 1, 1, none⟩ v) := by
  refine ⟨?_, ?_, (h.bel.setCell (by show _ ≤ w.heap.size + 1 + 1; omega) _).setCell (by show _ ≤ w.heap.size + 1 + 1; omega) _⟩
  · rw [World.cell?_setCell_other _ _ _ _ (by intro e; injection e with _ e; cases e)]; exact World.cell?_setCell_same _ _ _ h.q0
  · exact World.cell?_setCell_same _ _ _ ((World.cell?_setCell_other _ _ _ _ (by intro e; injection e with _ e; cases e)).trans h.q1)
theorem Sz.far {w w' : World} {A : Option Addr} {l : List Nat} {g : Nat} (h : Sz w A l) (hf : ∀ i n, w.cell? ⟨g, i, none⟩ ≠ some (.int .u32 n)) (hb : Only g w w') : Sz w' A l := by
  rcases h with h | ⟨b, o, e, hlt, hc⟩
  · exact .inl h
  · by_cases hl : l = []
    · subst hl; exact .inr ⟨b, o, e, Nat.lt_of_lt_of_le hlt hb.size, fun i hi => by simp at hi⟩
    · have hne : b ≠ g := by
        rintro rfl
        exact hf _ _ (hc 0 (List.length_pos_iff.2 hl))
      exact .inr ⟨b, o, e, Nat.lt_of_lt_of_le hlt hb.size, fun i hi => (World.cell?_of_block (a := ⟨b, o + i, none⟩) (hb.block b hlt (by intro e; injection e with e; exact hne e))).trans (hc i hi)⟩
theorem Sz.stored {w W : World} {a0 a1 b0 b1 : Value} (h : Box3 w W a0 a1 b0 b1) {A : Option Addr} {l : List Nat} (hA : Sz W A l) (u v : Value) :
    Sz ((W.setCell ⟨w.heap.size + 1 + 1, 0, none⟩ u).setCell ⟨w.heap.size + 1 + 1, 1, none⟩ v) A l :=
  hA.far h.far (((Only.refl _ W).setCell 0 u).setCell 1 v)
def MadeRes (z sz : Int) (w : World) (e : Ending) (w' : World) : Prop := ∃ P l c, e = .returned (.agg #[.int .i64 sz, .slice P l.length c]) ∧ Sz w' P l ∧ Ok l ∧ Norm l ∧ val l = z.natAbs ∧ Below w.heap.size w w'
theorem made_to (s : Int) (A : Option Addr) (l : List Nat) (c : Nat) (w : World) (hA : Sz w A l) (ol : Ok l) (nl : Norm l) (hs : s = 1 ∨ s = -1 ∨ l = []) (hl : l.length ≤ 1000) {z sz : Int} (hz : s * (val l : Int) = z) (hsz : z.sign = sz) :
    Calls Tryd.prog 38 #[.int .i64 s, .slice A l.length c] w (MadeRes z sz w) := by
  subst hz hsz
  refine (made_any s A l c w hA ol nl hs hl).mono ?_
  rintro e w' ⟨v, rfl, ⟨A', l', c', rfl, h1, h2, h3, h4⟩, hb⟩
  exact ⟨A', l', c', rfl, h1, h2, h3, h4, hb⟩

set_option maxRecDepth 10000 in
set_option maxHeartbeats 1600000 in
theorem times_any (x y : Int) (A B : Option Addr) (l m : List Nat) (c d : Nat) (w : World) (hA : Sz w A l) (hB : Sz w B m) (ol : Ok l) (om : Ok m) (nl : Norm l) (nm : Norm m) (hv : val l = x.natAbs) (hv' : val m = y.natAbs) (hl : l.length ≤ 100) (hm : m.length ≤ 100) :
    Calls Tryd.prog 55 #[.agg #[.int .i64 x.sign, .slice A l.length c], .agg #[.int .i64 y.sign, .slice B m.length d]] w (MadePost (x * y) w) := by
  have hmul := fun w1 hA1 hB1 => multiplied_any A B l m c d w1 hA1 hB1 ol om (by omega) (by omega)
  rw [hv, hv'] at hmul
  have e1 := mul_made x y
  have hs := sign_cases (x * y)
  rw [← sign_mul_signs] at hs
  have hlen : x.natAbs * y.natAbs < 1000000000 ^ 200 := by
    have a1 := val_lt ol
    have a2 := val_lt om
    rw [hv] at a1; rw [hv'] at a2
    have b1 : 1000000000 ^ l.length ≤ 1000000000 ^ 100 := Nat.pow_le_pow_right (by decide) hl
    have b2 : 1000000000 ^ m.length ≤ 1000000000 ^ 100 := Nat.pow_le_pow_right (by decide) hm
    rw [show (200 : Nat) = 100 + 100 from rfl, Nat.pow_add]
    exact Nat.mul_lt_mul_of_lt_of_le (by omega) (by omega) (Nat.pow_pos (by decide))
  obtain ⟨sx, hsx⟩ : ∃ sx, sx = x.sign := ⟨_, rfl⟩
  obtain ⟨sy, hsy⟩ : ∃ sy, sy = y.sign := ⟨_, rfl⟩
  rw [← hsx, ← hsy] at e1 hs
  rw [← hsx, ← hsy]
  have hw : IntKind.i64.wrap (sx * sy) = sx * sy := by
    rcases hs with h | h | h
    · rw [h]; rfl
    · rw [h]; rfl
    · have : sx * sy = 0 := by rw [hsx, hsy, ← Int.sign_mul, h]; rfl
      rw [this]; rfl
  rw [hw.symm] at hs e1
  obtain ⟨q, hq⟩ : ∃ q, q = (x * y).sign := ⟨_, rfl⟩
  have HQ := Lib.hid hq
  have hmade := fun (w1 : World) (P : Option Addr) (l' : List Nat) (c' : Nat) (hP : Sz w1 P l') (ok : Ok l') (nm : Norm l') (hvP : val l' = x.natAbs * y.natAbs) =>
    made_to (IntKind.i64.wrap (sx * sy)) P l' c' w1 hP ok nm (cases3 hs fun h => (norm_val_zero nm).1 (by rw [hvP, ← Int.natAbs_mul, h]; rfl)) (Nat.le_trans (len_of_val nm hvP hlen) (by decide)) (z := x * y) (sz := q) (by rw [hvP]; exact e1) hq.symm
  have HM := Lib.hid hmade
  clear hmade
  have H1 := Lib.hid hmul
  have H2 := Lib.hid (And.intro e1 hlen)
  clear hmul e1 hlen hsx hsy hw hs hq
  go_enter Tryd.func55, Tryd.ntmps55
  go_wp2_with fail
  have hbox := box3 w (.int .i64 sx) (.slice A l.length c) (.int .i64 sy) (.slice B m.length d) 46
  generalize ((w.alloc (.cells #[.int .i64 sx, .slice A l.length c] 46)).alloc (.cells #[.int .i64 sy, .slice B m.length d] 46)).alloc (.cells #[.int .i64 0, .slice none 0 0] 46) = W3 at hbox ⊢
  have hA3 := hA.below hbox.bel
  have hB3 := hB.below hbox.bel
  have c00 := hbox.c00
  have c01 := hbox.c01
  have c10 := hbox.c10
  have c11 := hbox.c11
  go_region_held3 (fun w' => w'.cell? ⟨w.heap.size, 0, none⟩ = some (.int .i64 sx) ∧ w'.cell? ⟨w.heap.size, 1, none⟩ = some (.slice A l.length c) ∧ w'.cell? ⟨w.heap.size + 1, 0, none⟩ = some (.int .i64 sy) ∧ w'.cell? ⟨w.heap.size + 1, 1, none⟩ = some (.slice B m.length d))
    (first | exact ⟨hbox.c00, hbox.c01, hbox.c10, hbox.c11⟩ | exact ⟨hbox1.c00, hbox1.c01, hbox1.c10, hbox1.c11⟩ | exact ⟨hbox2.c00, hbox2.c01, hbox2.c10, hbox2.c11⟩ | exact hbox2.stored _ _)
    (first
      | (go_at_call 71; refine (H1.out _ (by exact hA3) (by exact hB3)).mono ?_; rintro e w4 ⟨_, rfl, ⟨P, l', c', rfl, hP, okP, nmP, hvP⟩, hb4⟩; first | have hbox1 := hbox.below (undrew hb4) | have hbox1 := hbox.below hb4)
      | (go_at_call 38; refine (HM.out _ P l' c' hP okP nmP hvP).mono ?_; rintro e w5 ⟨P5, l5, c5, rfl, hP5, ok5, nm5, hv5, hb5⟩; (first | have hbox2 := hbox1.below (undrew hb5) | have hbox2 := hbox1.below hb5); have q0 := hbox2.q0; have q1 := hbox2.q1; have f0 := hbox2.fr 0; have f1 := hbox2.fr 1))
  obtain ⟨r0, r1, hb⟩ := hbox2.res (.int .i64 q) (.slice P5 l5.length c5)
  have hS := Sz.stored hbox2 hP5 (.int .i64 q) (.slice P5 l5.length c5)
  clear hbox hbox1 hbox2 hb4 hb5
  go_wp2_with fail
  exact bodyPost_ret (v := .agg #[.int .i64 q, .slice P5 l5.length c5]) (by simp [results, Tryd.results55, go_sem, r0, r1]) rfl ⟨_, rfl, ⟨P5, l5, c5, by rw [HQ.out], hS, ok5, nm5, hv5⟩, hb⟩
end Go.Proofs.YtogphdflgcdiiaaDoor

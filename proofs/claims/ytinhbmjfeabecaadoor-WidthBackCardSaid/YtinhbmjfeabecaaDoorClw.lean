import Derived.Test.YtinhbmjfeabecaaDoorCl
namespace Go.Proofs.YtinhbmjfeabecaaDoor
open Go.RowKit

theorem Rw.only {w w' : World} {g g' N : Nat} {F : Nat → Nat} (h : Rw w g N F) (ho : Only g' w w') (hne : g ≠ g') : Rw w' g N F :=
  h.of_block (ho.block g h.lt (by intro e; injection e with e; exact hne e))
theorem Rw.below {w w' : World} {g N : Nat} {F : Nat → Nat} (h : Rw w g N F) {B : Nat} (hb : Below B w w') (hg : g < B) : Rw w' g N F := h.of_block (hb.block g hg)

/-- size{s}: one part in a new block. -/
theorem sz_one {w : World} {g s : Nat} (hc : w.cell? ⟨g, 0, none⟩ = some (.int .u32 (s : Int))) (hg : g < w.heap.size) : Sz w (some ⟨g, 0, none⟩) [s] :=
  .inr ⟨g, 0, rfl, hg, fun i hi => by
    have : i = 0 := by simp at hi; exact hi
    subst this; exact hc⟩
theorem mul_part (A : Option Addr) (l : List Nat) (L c s g : Nat) (w : World) (hL : l.length = L) (hA : Sz w A l) (ol : Ok l) (hl : L ≤ 1000) (hs : s < 1000000000) (hc : w.cell? ⟨g, 0, none⟩ = some (.int .u32 (s : Int))) (hg : g < w.heap.size) :
    Calls Tryd.prog 57 #[.slice A L c, .slice (some ⟨g, 0, none⟩) 1 1] w fun e w' => ∃ A' l' c', e = .returned (.slice A' l'.length c') ∧ Sz w' A' l' ∧ Ok l' ∧ Norm l' ∧ val l' = val l * s ∧ Below w.heap.size w w' := by
  subst hL
  refine (multiplied_any A (some ⟨g, 0, none⟩) l [s] c 1 w hA (sz_one hc hg) ol (by simpa [Ok] using hs) hl (by simp)).mono ?_
  rintro e w' ⟨v, rfl, ⟨A', l', c', rfl, h1, h2, h3, h4⟩, hb⟩
  exact ⟨A', l', c', rfl, h1, h2, h3, by rw [h4]; simp [val], hb⟩
theorem mul_part_len (A : Option Addr) (l : List Nat) (L c s g K : Nat) (w : World) (hL : l.length = L) (hA : Sz w A l) (ol : Ok l) (hl : L ≤ 1000) (hs : s < 1000000000) (hc : w.cell? ⟨g, 0, none⟩ = some (.int .u32 (s : Int))) (hg : g < w.heap.size)
    (h1 : 1000000000 ^ K ≤ val l * s) (h2 : val l * s < 1000000000 ^ (K + 1)) :
    Calls Tryd.prog 57 #[.slice A L c, .slice (some ⟨g, 0, none⟩) 1 1] w fun e w' => ∃ A' l' c', e = .returned (.slice A' (K + 1) c') ∧ l'.length = K + 1 ∧ Sz w' A' l' ∧ Ok l' ∧ val l' = val l * s ∧ Below w.heap.size w w' := by
  refine (mul_part A l L c s g w hL hA ol hl hs hc hg).mono ?_
  rintro e w' ⟨A', l', c', rfl, h3, h4, h5, h6, hb⟩
  have := len_of_bounds h4 h5 (by rw [h6]; exact h1) (by rw [h6]; exact h2)
  exact ⟨A', l', c', by rw [this], this, h3, h4, h6, hb⟩

theorem cell_new1 (w : World) (v : Value) : (w.alloc (.cells #[v] 81)).cell? ⟨w.heap.size, 0, none⟩ = some v := cell_of_one (heap_alloc_new w _)
theorem cell_new1' (w : World) (g : Nat) (v : Value) (hg : g = w.heap.size) : (w.alloc (.cells #[v] 81)).cell? ⟨g, 0, none⟩ = some v := by subst hg; exact cell_new1 w v
theorem Rw.sz_trim {w : World} {g N : Nat} {F : Nat → Nat} (h : Rw w g N F) (o n : Nat) (hn : o + n ≤ N) (hF : ∀ j, o ≤ j → j < o + n → F j < 1000000000) : Sz w (some ⟨g, o, none⟩) (trim (lst F o n)) := by
  obtain ⟨A, l, c, e, h1, h2, h3, h4⟩ := SzN.of_row h o n 0 hn hF
  have h5 := trim_le (lst F o n)
  refine .inr ⟨g, o, rfl, h.lt, fun i hi => ?_⟩
  rw [lst_length] at h5
  rw [h.cell (i := o + i) (by omega)]
  have h3 : (trim (lst F o n))[i]? = ((lst F o n).take (trim (lst F o n)).length)[i]? := by rw [← trim_take]
  rw [List.getElem?_take_of_lt hi, List.getElem?_eq_getElem hi, List.getElem?_eq_getElem (by rw [lst_length]; omega), lst_get] at h3
  rw [Option.some.inj h3]
def ClPost (x y : Nat) (w : World) (e : Ending) (w' : World) : Prop := ∃ v u, e = .returned (.tuple #[v, u]) ∧ SzN w' v (x / y) ∧ SzN w' u (x % y) ∧ Below w.heap.size w w'
end Go.Proofs.YtinhbmjfeabecaaDoor

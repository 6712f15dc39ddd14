import Derived.Test.YtjpjccilnmlmnaaGreatDoorMao
import Derived.Test.YtjpjccilnmlmnaaGreatDoorMap
/-
  What signs do with arrays' shapes, in the document's words, and what follows: items reversed, axes turned round, items taken, dropped and joined. Nothing of any program.
-/
namespace Go.Proofs.YtjpjccilnmlmnaaGreatDoor
set_option linter.unusedVariables false
set_option linter.unusedSimpArgs false
section
variable {α : Type}

/-- How many elements an item has; how many items there are. -/
def kI (l : List Int) : Nat := (pr l.tail).toNat
def nI (l : List Int) : Nat := (l.getD 0 0).toNat
/-- As many elements as the axes tell. -/
def Fits (l : List Int) (es : List α) : Prop := MayL l ∧ (es.length : Int) = pr l
theorem Fits.cut {l : List Int} {es : List α} (h : Fits l es) (hl : l ≠ []) : es.length = nI l * kI l := by
  obtain ⟨hm, he⟩ := h
  cases l with
  | nil => exact absurd rfl hl
  | cons x r =>
    have hx : 0 ≤ x := hm.nn 0 (by simp)
    have hr : 0 ≤ pr r := pr_nonneg fun j hj => hm.nn (j + 1) (by simpa using hj)
    have e : pr (x :: r) = x * pr r := rfl
    rw [e] at he
    show _ = x.toNat * (pr r).toNat
    have e2 : ((x.toNat * (pr r).toNat : Nat) : Int) = x * pr r := by
      rw [Int.natCast_mul, Int.toNat_of_nonneg hx, Int.toNat_of_nonneg hr]
    omega
/-- The items, the last one first; of no axis, or without an element, as it is. -/
def rvM (l : List Int) (es : List α) : List α := if l = [] ∨ es = [] then es else rvs_ es (kI l) (nI l)
theorem rvM_length {l : List Int} {es : List α} (h : Fits l es) : (rvM l es).length = es.length := by
  unfold rvM
  split
  · rfl
  · rename_i hc
    have he := h.cut (fun e => hc (.inl e))
    rw [rvs_length he, he]
theorem rvM_twice {l : List Int} {es : List α} (h : Fits l es) : rvM l (rvM l es) = es := by
  by_cases hc : l = [] ∨ es = []
  · have e : rvM l es = es := by unfold rvM; rw [if_pos hc]
    rw [e, e]
  · have he := h.cut (fun e => hc (.inl e))
    have e : rvM l es = rvs_ es (kI l) (nI l) := by unfold rvM; rw [if_neg hc]
    have hl := rvM_length h
    have hc2 : ¬ (l = [] ∨ rvM l es = []) := by
      rintro (g | g)
      · exact hc (.inl g)
      · rw [g] at hl
        exact hc (.inr (List.eq_nil_of_length_eq_zero hl.symm))
    have gen : ∀ fs : List α, ¬ (l = [] ∨ fs = []) → rvM l fs = rvs_ fs (kI l) (nI l) := fun fs g => by unfold rvM; rw [if_neg g]
    rw [gen _ hc2, e, rvs_twice he]
/-- The axes turned round: at each place the element of that place, the last axis first. -/
def flM (l : List Int) (es : List α) : List α := (List.range es.length).filterMap fun j : Nat => es[(tno l.reverse (j : Int)).toNat]?
theorem fl_get {l : List Int} {es : List α} (h : Fits l es) {j : Nat} (hj : j < es.length) : (tno l.reverse j).toNat < es.length ∧ ∃ x, es[(tno l.reverse j).toNat]? = some x := by
  have hp : 0 < pr l := by have := h.2; omega
  have ha := (h.1.pos hp).turned
  obtain ⟨h1, h2⟩ := tno_range ha (j : Int)
  rw [pr_reverse, ← h.2] at h2
  have h3 : (tno l.reverse j).toNat < es.length := by omega
  exact ⟨h3, _, List.getElem?_eq_getElem h3⟩
theorem filterMap_all {β γ : Type} {f : β → Option γ} : ∀ {l : List β}, (∀ x ∈ l, ∃ y, f x = some y) → (l.filterMap f).length = l.length ∧ ∀ i : Nat, (l.filterMap f)[i]? = l[i]?.bind f
  | [], _ => ⟨rfl, fun i => by simp⟩
  | x :: r, h => by
    obtain ⟨y, hy⟩ := h x (List.mem_cons_self ..)
    obtain ⟨h1, h2⟩ := filterMap_all (l := r) fun z hz => h z (List.mem_cons_of_mem _ hz)
    rw [List.filterMap_cons_some hy]
    refine ⟨by simp [h1], fun i => ?_⟩
    cases i with
    | zero => simp [hy]
    | succ i => simpa using h2 i
theorem flM_at {l : List Int} {es : List α} (h : Fits l es) : (flM l es).length = es.length ∧ ∀ j : Nat, j < es.length → (flM l es)[j]? = es[(tno l.reverse j).toNat]? := by
  obtain ⟨h1, h2⟩ := filterMap_all (f := fun j : Nat => es[(tno l.reverse j).toNat]?) (l := List.range es.length) fun x hx => (fl_get h (List.mem_range.1 hx)).2
  refine ⟨by unfold flM; rw [h1]; simp, fun j hj => ?_⟩
  unfold flM
  rw [h2]
  simp [List.getElem?_range hj]
theorem Fits.turned {l : List Int} {es : List α} (h : Fits l es) : Fits l.reverse (flM l es) := by
  refine ⟨?_, by rw [(flM_at h).1, pr_reverse]; exact h.2⟩
  obtain ⟨h1, h2, h3, h4⟩ := h.1
  refine ⟨by simpa using h1, fun j hj => ?_, fun j hj => ?_, by rw [pr_reverse]; exact h4⟩
  · rw [List.length_reverse] at hj
    rw [getD_rev hj]; exact h2 _ (by omega)
  · rw [List.length_reverse] at hj
    rw [getD_rev hj]; exact h3 _ (by omega)
theorem flM_twice {l : List Int} {es : List α} (h : Fits l es) : flM l.reverse (flM l es) = es := by
  apply List.ext_getElem?
  intro j
  have hl := (flM_at h).1
  by_cases hj : j < es.length
  · have hp : 0 < pr l := by have := h.2; omega
    have ha := h.1.pos hp
    obtain ⟨h1, h2⟩ := tno_range ha (j : Int)
    rw [(flM_at h.turned).2 j (by rw [hl]; exact hj), List.reverse_reverse]
    have h3 : (tno l j).toNat < es.length := by have := h.2; omega
    rw [(flM_at h).2 _ h3]
    have e : tno l.reverse ((tno l j).toNat : Int) = j := by
      rw [Int.toNat_of_nonneg h1]
      exact tno_back ha (by omega) (by have := h.2; omega)
    rw [e, Int.toNat_natCast]
  · rw [List.getElem?_eq_none (by rw [(flM_at h.turned).1, hl]; omega), List.getElem?_eq_none (by omega)]
/-- At the place that an element's place turned round is, that element stands. -/
theorem flM_to {l : List Int} {es : List α} (h : Fits l es) {i : Nat} (hi : i < es.length) : (tno l i).toNat < es.length ∧ (flM l es)[(tno l i).toNat]? = es[i]? := by
  have hp : 0 < pr l := by have := h.2; omega
  have ha := h.1.pos hp
  obtain ⟨h1, h2⟩ := tno_range ha (i : Int)
  have h3 : (tno l i).toNat < es.length := by have := h.2; omega
  refine ⟨h3, ?_⟩
  rw [(flM_at h).2 _ h3, Int.toNat_of_nonneg h1, tno_back ha (by omega) (by have := h.2; omega), Int.toNat_natCast]
/-- The items from one on, to below another one. -/
def ctM (l : List Int) (es : List α) (a b : Nat) : List α := (es.drop (a * kI l)).take ((b - a) * kI l)
theorem ctM_length {l : List Int} {es : List α} (h : Fits l es) (hl : l ≠ []) {a b : Nat} (hb : b ≤ nI l) : (ctM l es a b).length = (b - a) * kI l := by
  have he := h.cut hl
  unfold ctM
  rw [List.length_take, List.length_drop, he, ← Nat.sub_mul]
  exact Nat.min_eq_left (Nat.mul_le_mul_right _ (by omega))
theorem ctM_join {l : List Int} {es : List α} (h : Fits l es) (hl : l ≠ []) {a : Nat} (ha : a ≤ nI l) : ctM l es 0 a ++ ctM l es a (nI l) = es := by
  have he := h.cut hl
  unfold ctM
  have e : es.drop (a * kI l) = (es.drop (a * kI l)).take ((nI l - a) * kI l) := by
    rw [List.take_of_length_le]
    rw [List.length_drop, he, ← Nat.sub_mul]
    exact Nat.le_refl _
  rw [← e, Nat.zero_mul, List.drop_zero, Nat.sub_zero, List.take_append_drop]
end
end Go.Proofs.YtjpjccilnmlmnaaGreatDoor

import Derived.Test.YtjpjccilnmlmnaaGreatDoorMan
/-
  Some items of a list of elements, k each: which ones there are, from the first on, in a row, the last one first.
-/
namespace Go.Proofs.YtjpjccilnmlmnaaGreatDoor
set_option linter.unusedVariables false
set_option linter.unusedSimpArgs false
section
variable {α : Type}

/-- The items of these numbers, k elements each. -/
def its (es : List α) (k : Nat) : List Nat → List α
  | [] => []
  | i :: r => (es.drop (i * k)).take k ++ its es k r
theorem its_append (es : List α) (k : Nat) (l m : List Nat) : its es k (l ++ m) = its es k l ++ its es k m := by
  induction l with
  | nil => rfl
  | cons i r ih => show _ ++ its es k (r ++ m) = _ ++ its es k r ++ its es k m; rw [ih, List.append_assoc]
theorem it_len {es : List α} {k n i : Nat} (he : es.length = n * k) (hi : i < n) : ((es.drop (i * k)).take k).length = k := by
  have h : (i + 1) * k ≤ n * k := Nat.mul_le_mul_right k hi
  rw [Nat.add_mul] at h
  rw [List.length_take, List.length_drop]
  omega
theorem its_length {es : List α} {k n : Nat} (he : es.length = n * k) {l : List Nat} (hl : ∀ i ∈ l, i < n) : (its es k l).length = l.length * k := by
  induction l with
  | nil => simp [its]
  | cons i r ih =>
    show (_ ++ its es k r).length = _
    rw [List.length_append, ih fun j hj => hl j (List.mem_cons_of_mem _ hj), it_len he (hl i (List.mem_cons_self ..)), List.length_cons, Nat.add_mul]
    omega
/-- The j-th of these items. -/
theorem its_at {es : List α} {k n : Nat} (he : es.length = n * k) {l : List Nat} (hl : ∀ i ∈ l, i < n) {j : Nat} (hj : j < l.length) : ((its es k l).drop (j * k)).take k = (es.drop (l[j] * k)).take k := by
  induction l generalizing j with
  | nil => cases hj
  | cons i r ih =>
    have hi := it_len he (hl i (List.mem_cons_self ..))
    cases j with
    | zero =>
      show ((_ ++ its es k r).drop (0 * k)).take k = _
      rw [Nat.zero_mul, List.drop_zero, List.take_append_of_le_length (by omega)]
      exact List.take_of_length_le (by omega)
    | succ j =>
      show ((_ ++ its es k r).drop ((j + 1) * k)).take k = _
      have e : (j + 1) * k = ((es.drop (i * k)).take k).length + j * k := by rw [hi, Nat.add_mul]; omega
      rw [e, List.drop_append, List.drop_eq_nil_of_le (Nat.le_add_right _ _), List.nil_append, Nat.add_sub_cancel_left]
      exact ih (fun q hq => hl q (List.mem_cons_of_mem _ hq)) (by simpa using hj)
/-- Items of items. -/
theorem its_its {es : List α} {k n : Nat} (he : es.length = n * k) {l : List Nat} (hl : ∀ i ∈ l, i < n) {m : List Nat} (hm : ∀ j ∈ m, j < l.length) : its (its es k l) k m = its es k (m.map fun j => l.getD j 0) := by
  induction m with
  | nil => rfl
  | cons j r ih =>
    have hj := hm j (List.mem_cons_self ..)
    show ((its es k l).drop (j * k)).take k ++ its (its es k l) k r = (es.drop (l.getD j 0 * k)).take k ++ its es k (r.map fun j => l.getD j 0)
    rw [its_at he hl hj, ih fun q hq => hm q (List.mem_cons_of_mem _ hq)]
    rw [List.getD_eq_getElem?_getD, List.getElem?_eq_getElem hj, Option.getD_some]
/-- Those from a on, m of them. -/
theorem its_run {es : List α} {k : Nat} : ∀ (m a : Nat), (a + m) * k ≤ es.length → its es k (List.range' a m) = (es.drop (a * k)).take (m * k)
  | 0, a, h => by simp [its]
  | m + 1, a, h => by
    have e1 : (m + 1) * k = k + m * k := by rw [Nat.add_mul]; omega
    have e2 : (a + 1) * k = a * k + k := by rw [Nat.add_mul]; omega
    have e3 : (a + 1 + m) * k ≤ es.length := by rw [show a + 1 + m = a + (m + 1) by omega]; exact h
    rw [List.range'_succ]
    show (es.drop (a * k)).take k ++ its es k (List.range' (a + 1) m) = _
    rw [its_run m (a + 1) e3, e1, List.take_add, List.drop_drop, e2]
theorem its_all {es : List α} {k n : Nat} (he : es.length = n * k) : its es k (List.range n) = es := by
  rw [List.range_eq_range', its_run n 0 (by rw [Nat.zero_add]; omega), Nat.zero_mul, List.drop_zero, ← he, List.take_length]
/-- The last one first. -/
def rvs_ (es : List α) (k n : Nat) : List α := its es k (List.range n).reverse
theorem rev_at {n j : Nat} (h : j < n) : (List.range n).reverse.getD j 0 = n - 1 - j := by
  rw [List.getD_eq_getElem?_getD, List.getElem?_reverse (by simpa using h), List.length_range, List.getElem?_range (by omega)]
  rfl
theorem rvs_length {es : List α} {k n : Nat} (he : es.length = n * k) : (rvs_ es k n).length = n * k := by
  unfold rvs_
  rw [its_length he (fun i hi => by simpa using hi), List.length_reverse, List.length_range]
theorem rvs_twice {es : List α} {k n : Nat} (he : es.length = n * k) : rvs_ (rvs_ es k n) k n = es := by
  unfold rvs_
  rw [its_its he (fun i hi => by simpa using hi) (fun j hj => by simpa using hj)]
  have e : ((List.range n).reverse.map fun j => (List.range n).reverse.getD j 0) = List.range n := by
    apply List.ext_getElem
    · simp
    · intro i h1 h2
      have hi : i < n := by simpa using h2
      rw [List.getElem_map, List.getElem_reverse, List.getElem_range, List.getElem_range, List.length_range, rev_at (by omega)]
      omega
  rw [e]
  exact its_all he
/-- What is taken from the front and what is dropped there, together, is all of it. -/
theorem its_front {es : List α} {k n a : Nat} (he : es.length = n * k) (ha : a ≤ n) : its es k (List.range' 0 a) ++ its es k (List.range' a (n - a)) = es := by
  have h1 : (0 + a) * k ≤ es.length := by rw [he, Nat.zero_add]; exact Nat.mul_le_mul_right k ha
  have e2 : a + (n - a) = n := by omega
  have h2 : (a + (n - a)) * k ≤ es.length := by rw [he, e2]; omega
  have e3 : a * k + (n - a) * k = n * k := by rw [← Nat.add_mul, e2]
  rw [its_run a 0 h1, its_run (n - a) a h2, Nat.zero_mul, List.drop_zero]
  have e4 : (es.drop (a * k)).take ((n - a) * k) = es.drop (a * k) := List.take_of_length_le (by rw [List.length_drop]; omega)
  rw [e4]
  exact List.take_append_drop _ _
end
end Go.Proofs.YtjpjccilnmlmnaaGreatDoor

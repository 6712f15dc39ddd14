import Derived.Test.YtpledghphljfkaaDoorMad
import Derived.WalkKit
/-
  Plain facts on lists of axes: their product, what Size tells of them, the places of offsets and the offsets of places. Nothing of any program.
-/
namespace Go.Proofs.YtpledghphljfkaaDoor
set_option linter.unusedVariables false
set_option linter.unusedSimpArgs false

theorem mul_pos_int {a b : Int} (ha : 0 < a) (hb : 0 < b) : 0 < a * b := Int.mul_pos ha hb
/-- All axes multiplied. -/
def quo (l : List Int) (k : Int) (i : Nat) : Int := k / pr (l.drop i)
/-- The place on axis i. -/
def plc (l : List Int) (k : Int) (i : Nat) : Int := quo l k (i + 1) % l.getD i 0
def plL (l : List Int) (k : Int) : List Int := (List.range l.length).map (plc l k)
theorem plL_length (l : List Int) (k : Int) : (plL l k).length = l.length := by simp [plL]
theorem plL_get {l : List Int} {k : Int} {i : Nat} (h : i < l.length) : (plL l k).getD i 0 = plc l k i := by
  rw [List.getD_eq_getElem?_getD, List.getElem?_eq_getElem (by rw [plL_length]; exact h)]; simp [plL]
theorem quo_last (l : List Int) (k : Int) : quo l k l.length = k := by unfold quo; simp [pr]
theorem quo_step {l : List Int} {k : Int} {i : Nat} (h : i < l.length) (hp : 0 ≤ pr (l.drop (i + 1))) : quo l k (i + 1) / l.getD i 0 = quo l k i := by
  unfold quo
  rw [pr_drop h, Int.ediv_ediv_of_nonneg hp, Int.mul_comm]
/-- The offset, axis by axis, from the first one. -/
theorem inL_of {l t : List Int} {n : Nat} (h : ∀ i, i < n → 0 ≤ t.getD i 0 ∧ t.getD i 0 < l.getD i 0) : inL l t n = true := by
  induction n with
  | zero => rfl
  | succ n ih =>
    simp only [inL, Bool.and_eq_true, decide_eq_true_eq]
    exact ⟨ih fun i hi => h i (by omega), h n (by omega)⟩
theorem inL_not {l t : List Int} {n i : Nat} (hi : i < n) (h : t.getD i 0 < 0 ∨ l.getD i 0 ≤ t.getD i 0) : inL l t n = false := by
  rw [← Bool.not_eq_true]
  intro hh
  have := inL_at hh hi
  omega
/-- The offset stays below the axes multiplied. -/
theorem AllPos.drop_le {l : List Int} (h : AllPos l) (k : Nat) : Go.Proofs.YtpledghphljfkaaDoor.pr (l.drop k) ≤ Go.Proofs.YtpledghphljfkaaDoor.pr l := by
  have e : Go.Proofs.YtpledghphljfkaaDoor.pr l = Go.Proofs.YtpledghphljfkaaDoor.pr (l.take k) * Go.Proofs.YtpledghphljfkaaDoor.pr (l.drop k) := by rw [← pr_append, List.take_append_drop]
  have h1 := h.take k
  have h2 := h.drop k
  have h3 : 1 * Go.Proofs.YtpledghphljfkaaDoor.pr (l.drop k) ≤ Go.Proofs.YtpledghphljfkaaDoor.pr (l.take k) * Go.Proofs.YtpledghphljfkaaDoor.pr (l.drop k) := Int.mul_le_mul_of_nonneg_right (by omega) (by omega)
  omega
theorem AllPos.at_le {l : List Int} (h : AllPos l) {k : Nat} (hk : k < l.length) : l.getD k 0 ≤ Go.Proofs.YtpledghphljfkaaDoor.pr l := by
  have h1 := h.drop_le k
  rw [pr_drop hk] at h1
  have h2 := h.drop (k + 1)
  have h3 := h.pos k hk
  have h4 : l.getD k 0 * 1 ≤ l.getD k 0 * Go.Proofs.YtpledghphljfkaaDoor.pr (l.drop (k + 1)) := Int.mul_le_mul_of_nonneg_left (by omega) (by omega)
  omega
theorem plc_range {l : List Int} (h : AllPos l) (k : Int) {i : Nat} (hi : i < l.length) : 0 ≤ plc l k i ∧ plc l k i < l.getD i 0 :=
  ⟨Int.emod_nonneg _ (by have := h.pos i hi; omega), Int.emod_lt_of_pos _ (h.pos i hi)⟩
theorem quo_nonneg {l : List Int} (h : AllPos l) {k : Int} (hk : 0 ≤ k) (i : Nat) : 0 ≤ quo l k i := Int.ediv_nonneg hk (by have := h.drop i; omega)
theorem quo_le {l : List Int} (h : AllPos l) {k : Int} (hk : 0 ≤ k) (i : Nat) : quo l k i ≤ k := by
  have := h.drop i
  exact Int.ediv_le_self _ hk
theorem quo_first {l : List Int} {k : Int} (hk : 0 ≤ k) (hlt : k < pr l) : quo l k 0 = 0 := by unfold quo; rw [List.drop_zero]; exact Int.ediv_eq_zero_of_lt hk hlt
theorem quo_join {l : List Int} (h : AllPos l) (k : Int) {i : Nat} (hi : i < l.length) : quo l k i * l.getD i 0 + plc l k i = quo l k (i + 1) := by
  rw [← quo_step hi (Int.le_of_lt (h.drop _))]
  unfold plc
  have := Int.mul_ediv_add_emod (quo l k (i + 1)) (l.getD i 0)
  rw [Int.mul_comm] at this
  exact this
/-- There and back. -/
theorem hor_plL {l : List Int} (h : AllPos l) {k : Int} (hk : 0 ≤ k) (hlt : k < pr l) {i : Nat} (hi : i ≤ l.length) : hor l (plL l k) i = quo l k i := by
  induction i with
  | zero => rw [quo_first hk hlt]; rfl
  | succ i ih =>
    show hor l (plL l k) i * l.getD i 0 + (plL l k).getD i 0 = _
    rw [ih (by omega), plL_get (by omega), quo_join h k (by omega)]
theorem inL_plL {l : List Int} (h : AllPos l) (k : Int) : inL l (plL l k) l.length = true := inL_of fun i hi => by rw [plL_get hi]; exact plc_range h k hi
theorem back_plL {l : List Int} (hm : MayL l) {k : Int} (hk : 0 ≤ k) (hlt : k < pr l) : ofB l (plL l k) = true ∧ ofV l (plL l k) = k := by
  have h := hm.pos (by omega)
  have e : ofB l (plL l k) = true := by
    unfold ofB
    rw [inL_plL h k, szE_may.2 hm, plL_length]; simp
  refine ⟨e, ?_⟩
  unfold ofV
  rw [if_pos e, hor_plL h hk hlt (Nat.le_refl _), quo_last]
/-- Of two elements the one that is ahead on the first axis on which they are apart is ahead. -/
theorem quo_same {l : List Int} (h : AllPos l) {x y : Int} (hx : 0 ≤ x) (hy : 0 ≤ y) (hx2 : x < pr l) (hy2 : y < pr l) {i : Nat} (hi : i ≤ l.length) (he : ∀ j, j < i → plc l x j = plc l y j) : quo l x i = quo l y i := by
  induction i with
  | zero => rw [quo_first hx hx2, quo_first hy hy2]
  | succ i ih =>
    rw [← quo_join h x (by omega), ← quo_join h y (by omega), ih (by omega) (fun j hj => he j (by omega)), he i (by omega)]
theorem plc_rises {l : List Int} (h : AllPos l) {x y : Int} (hx : 0 ≤ x) (hy : 0 ≤ y) (hx2 : x < pr l) (hy2 : y < pr l) {i : Nat} (hi : i < l.length) (he : ∀ j, j < i → plc l x j = plc l y j) (hne : plc l x i ≠ plc l y i) : plc l x i < plc l y i ↔ x < y := by
  have e := quo_same h hx hy hx2 hy2 (by omega) he
  have e1 := quo_join h x hi
  have e2 := quo_join h y hi
  rw [e] at e1
  generalize quo l y i * l.getD i 0 = z at e1 e2
  have hD := h.drop (i + 1)
  constructor
  · intro hlt
    rcases Int.lt_or_le x y with h1 | h1
    · exact h1
    · have : quo l y (i + 1) ≤ quo l x (i + 1) := Int.ediv_le_ediv hD h1
      omega
  · intro hlt
    have : quo l x (i + 1) ≤ quo l y (i + 1) := Int.ediv_le_ediv hD (by omega)
    omega
theorem plc_same {l : List Int} (h : AllPos l) {x y : Int} (hx : 0 ≤ x) (hy : 0 ≤ y) (hx2 : x < pr l) (hy2 : y < pr l) (he : ∀ j, j < l.length → plc l x j = plc l y j) : x = y := by
  have := quo_same h hx hy hx2 hy2 (Nat.le_refl _) he
  rwa [quo_last, quo_last] at this
/-- The document's way: each place times what is behind its axis. -/
def sum (l t : List Int) : Nat → Int
  | 0 => 0
  | i + 1 => sum l t i + t.getD i 0 * pr (l.drop (i + 1))
theorem sum_hor {l t : List Int} {i : Nat} (hi : i ≤ l.length) : sum l t i = hor l t i * pr (l.drop i) := by
  induction i with
  | zero => simp [sum, hor]
  | succ i ih =>
    show sum l t i + t.getD i 0 * pr (l.drop (i + 1)) = (hor l t i * l.getD i 0 + t.getD i 0) * pr (l.drop (i + 1))
    rw [ih (by omega), pr_drop (by omega), Int.add_mul, Int.mul_assoc]
theorem sum_all (l t : List Int) : sum l t l.length = hor l t l.length := by rw [sum_hor (Nat.le_refl _)]; simp [pr]
end Go.Proofs.YtpledghphljfkaaDoor
/-
  Axes turned round: the element at some places stands at these, the last one first; twice turned it stands where it stood. And some items of a list of elements.
-/
namespace Go.Proofs.YtpledghphljfkaaDoor
set_option linter.unusedVariables false
set_option linter.unusedSimpArgs false

theorem quo_hor {l t : List Int} (h : AllPos l) (ht : inL l t l.length = true) : ∀ d i : Nat, d + i = l.length → quo l (hor l t l.length) i = hor l t i
  | 0, i, e => by
    have : i = l.length := by omega
    subst this
    exact quo_last _ _
  | d + 1, i, e => by
    have hi : i < l.length := by omega
    have ih := quo_hor h ht d (i + 1) (by omega)
    rw [← quo_step hi (by have := h.drop (i + 1); omega), ih]
    have hp := h.pos i hi
    have hr := inL_at ht hi
    show (hor l t i * l.getD i 0 + t.getD i 0) / l.getD i 0 = hor l t i
    rw [Int.add_comm, Int.add_mul_ediv_right _ _ (by omega), Int.ediv_eq_zero_of_lt hr.1 hr.2, Int.zero_add]
theorem plc_hor {l t : List Int} (h : AllPos l) (ht : inL l t l.length = true) {i : Nat} (hi : i < l.length) : plc l (hor l t l.length) i = t.getD i 0 := by
  have e := quo_hor h ht (l.length - (i + 1)) (i + 1) (by omega)
  have hr := inL_at ht hi
  unfold plc
  rw [e]
  show (hor l t i * l.getD i 0 + t.getD i 0) % l.getD i 0 = t.getD i 0
  rw [Int.add_comm, Int.add_mul_emod_self_right, Int.emod_eq_of_lt hr.1 hr.2]
theorem plL_hor {l t : List Int} (h : AllPos l) (ht : inL l t l.length = true) (hl : t.length = l.length) : plL l (hor l t l.length) = t := by
  apply List.ext_getElem
  · rw [plL_length, hl]
  · intro i h1 h2
    have hi : i < l.length := by rw [plL_length] at h1; exact h1
    have e := plc_hor h ht hi
    have e2 := plL_get (k := hor l t l.length) hi
    rw [e, List.getD_eq_getElem?_getD, List.getD_eq_getElem?_getD, List.getElem?_eq_getElem h1, List.getElem?_eq_getElem h2] at e2
    exact e2
theorem getD_rev {l : List Int} {i : Nat} (h : i < l.length) : l.reverse.getD i 0 = l.getD (l.length - 1 - i) 0 := by
  rw [List.getD_eq_getElem?_getD, List.getD_eq_getElem?_getD, List.getElem?_reverse h]
theorem pr_reverse : ∀ l : List Int, pr l.reverse = pr l
  | [] => rfl
  | x :: r => by
    rw [List.reverse_cons, pr_append, pr_reverse r]
    simp only [pr]
    rw [Int.mul_one, Int.mul_comm]
theorem AllPos.turned {l : List Int} (h : AllPos l) : AllPos l.reverse := ⟨fun j hj => by
  rw [List.length_reverse] at hj
  rw [getD_rev hj]
  exact h.pos _ (by omega)⟩
/-- Where the element of offset k of the shape l stands when its axes are turned round. -/
def tno (l : List Int) (k : Int) : Int := hor l.reverse (plL l k).reverse l.length
theorem inL_turned {l : List Int} (h : AllPos l) (k : Int) : inL l.reverse (plL l k).reverse l.reverse.length = true := by
  refine inL_of fun i hi => ?_
  rw [List.length_reverse] at hi
  rw [getD_rev hi, getD_rev (by rw [plL_length]; exact hi), plL_length, plL_get (by omega)]
  exact plc_range h k (by omega)
theorem tno_range {l : List Int} (h : AllPos l) (k : Int) : 0 ≤ tno l k ∧ tno l k < pr l := by
  have g := hor_range (n := l.reverse.length) (Nat.le_refl _) (inL_turned h k)
  rw [List.take_length, pr_reverse, List.length_reverse] at g
  exact g
theorem plL_tno {l : List Int} (h : AllPos l) (k : Int) : plL l.reverse (tno l k) = (plL l k).reverse := by
  have g := plL_hor h.turned (inL_turned h k) (by rw [List.length_reverse, List.length_reverse, plL_length])
  rw [List.length_reverse] at g
  exact g
/-- Twice turned it stands where it stood. -/
theorem tno_back {l : List Int} (h : AllPos l) {k : Int} (hk : 0 ≤ k) (hlt : k < pr l) : tno l.reverse (tno l k) = k := by
  have e : tno l.reverse (tno l k) = hor l (plL l k) l.length := by
    unfold tno
    rw [List.reverse_reverse, List.length_reverse]
    have g := plL_tno h k
    unfold tno at g
    rw [g, List.reverse_reverse]
  rw [e, hor_plL h hk hlt (Nat.le_refl _), quo_last]
theorem tno_inj {l : List Int} (h : AllPos l) {x y : Int} (hx : 0 ≤ x) (hx2 : x < pr l) (hy : 0 ≤ y) (hy2 : y < pr l) (e : tno l x = tno l y) : x = y := by
  rw [← tno_back h hx hx2, ← tno_back h hy hy2, e]
end Go.Proofs.YtpledghphljfkaaDoor
/-
  Some items of a list of elements, k each: which ones there are, from the first on, in a row, the last one first.
-/
namespace Go.Proofs.YtpledghphljfkaaDoor
set_option linter.unusedVariables false
set_option linter.unusedSimpArgs false
section
variable {α : Type}

/-- The items of these numbers, k elements each. -/
def its (es : List α) (k : Nat) : List Nat → List α
  | [] => []
  | i :: r => (es.drop (i * k)).take k ++ its es k r
theorem its_append (es : List α) (k : Nat) (l m : List Nat) : its es k (l ++ m) = its es k l ++ its es k m := by
  induction l with
  | nil => rfl
  | cons i r ih => show _ ++ its es k (r ++ m) = _ ++ its es k r ++ its es k m; rw [ih, List.append_assoc]
theorem it_len {es : List α} {k n i : Nat} (he : es.length = n * k) (hi : i < n) : ((es.drop (i * k)).take k).length = k := by
  have h : (i + 1) * k ≤ n * k := Nat.mul_le_mul_right k hi
  rw [Nat.add_mul] at h
  rw [List.length_take, List.length_drop]
  omega
theorem its_length {es : List α} {k n : Nat} (he : es.length = n * k) {l : List Nat} (hl : ∀ i ∈ l, i < n) : (its es k l).length = l.length * k := by
  induction l with
  | nil => simp [its]
  | cons i r ih =>
    show (_ ++ its es k r).length = _
    rw [List.length_append, ih fun j hj => hl j (List.mem_cons_of_mem _ hj), it_len he (hl i (List.mem_cons_self ..)), List.length_cons, Nat.add_mul]
    omega
/-- The j-th of these items. -/
theorem its_at {es : List α} {k n : Nat} (he : es.length = n * k) {l : List Nat} (hl : ∀ i ∈ l, i < n) {j : Nat} (hj : j < l.length) : ((its es k l).drop (j * k)).take k = (es.drop (l[j] * k)).take k := by
  induction l generalizing j with
  | nil => cases hj
  | cons i r ih =>
    have hi := it_len he (hl i (List.mem_cons_self ..))
    cases j with
    | zero =>
      show ((_ ++ its es k r).drop (0 * k)).take k = _
      rw [Nat.zero_mul, List.drop_zero, List.take_append_of_le_length (by omega)]
      exact List.take_of_length_le (by omega)
    | succ j =>
      show ((_ ++ its es k r).drop ((j + 1) * k)).take k = _
      have e : (j + 1) * k = ((es.drop (i * k)).take k).length + j * k := by rw [hi, Nat.add_mul]; omega
      rw [e, List.drop_append, List.drop_eq_nil_of_le (Nat.le_add_right _ _), List.nil_append, Nat.add_sub_cancel_left]
      exact ih (fun q hq => hl q (List.mem_cons_of_mem _ hq)) (by simpa using hj)
/-- Items of items. -/
theorem its_its {es : List α} {k n : Nat} (he : es.length = n * k) {l : List Nat} (hl : ∀ i ∈ l, i < n) {m : List Nat} (hm : ∀ j ∈ m, j < l.length) : its (its es k l) k m = its es k (m.map fun j => l.getD j 0) := by
  induction m with
  | nil => rfl
  | cons j r ih =>
    have hj := hm j (List.mem_cons_self ..)
    show ((its es k l).drop (j * k)).take k ++ its (its es k l) k r = (es.drop (l.getD j 0 * k)).take k ++ its es k (r.map fun j => l.getD j 0)
    rw [its_at he hl hj, ih fun q hq => hm q (List.mem_cons_of_mem _ hq)]
    rw [List.getD_eq_getElem?_getD, List.getElem?_eq_getElem hj, Option.getD_some]
/-- Those from a on, m of them. -/
theorem its_run {es : List α} {k : Nat} : ∀ (m a : Nat), (a + m) * k ≤ es.length → its es k (List.range' a m) = (es.drop (a * k)).take (m * k)
  | 0, a, h => by simp [its]
  | m + 1, a, h => by
    have e1 : (m + 1) * k = k + m * k := by rw [Nat.add_mul]; omega
    have e2 : (a + 1) * k = a * k + k := by rw [Nat.add_mul]; omega
    have e3 : (a + 1 + m) * k ≤ es.length := by rw [show a + 1 + m = a + (m + 1) by omega]; exact h
    rw [List.range'_succ]
    show (es.drop (a * k)).take k ++ its es k (List.range' (a + 1) m) = _
    rw [its_run m (a + 1) e3, e1, List.take_add, List.drop_drop, e2]
theorem its_all {es : List α} {k n : Nat} (he : es.length = n * k) : its es k (List.range n) = es := by
  rw [List.range_eq_range', its_run n 0 (by rw [Nat.zero_add]; omega), Nat.zero_mul, List.drop_zero, ← he, List.take_length]
/-- The last one first. -/
def rvs_ (es : List α) (k n : Nat) : List α := its es k (List.range n).reverse
theorem rev_at {n j : Nat} (h : j < n) : (List.range n).reverse.getD j 0 = n - 1 - j := by
  rw [List.getD_eq_getElem?_getD, List.getElem?_reverse (by simpa using h), List.length_range, List.getElem?_range (by omega)]
  rfl
theorem rvs_length {es : List α} {k n : Nat} (he : es.length = n * k) : (rvs_ es k n).length = n * k := by
  unfold rvs_
  rw [its_length he (fun i hi => by simpa using hi), List.length_reverse, List.length_range]
theorem rvs_twice {es : List α} {k n : Nat} (he : es.length = n * k) : rvs_ (rvs_ es k n) k n = es := by
  unfold rvs_
  rw [its_its he (fun i hi => by simpa using hi) (fun j hj => by simpa using hj)]
  have e : ((List.range n).reverse.map fun j => (List.range n).reverse.getD j 0) = List.range n := by
    apply List.ext_getElem
    · simp
    · intro i h1 h2
      have hi : i < n := by simpa using h2
      rw [List.getElem_map, List.getElem_reverse, List.getElem_range, List.getElem_range, List.length_range, rev_at (by omega)]
      omega
  rw [e]
  exact its_all he
/-- What is taken from the front and what is dropped there, together, is all of it. -/
theorem its_front {es : List α} {k n a : Nat} (he : es.length = n * k) (ha : a ≤ n) : its es k (List.range' 0 a) ++ its es k (List.range' a (n - a)) = es := by
  have h1 : (0 + a) * k ≤ es.length := by rw [he, Nat.zero_add]; exact Nat.mul_le_mul_right k ha
  have e2 : a + (n - a) = n := by omega
  have h2 : (a + (n - a)) * k ≤ es.length := by rw [he, e2]; omega
  have e3 : a * k + (n - a) * k = n * k := by rw [← Nat.add_mul, e2]
  rw [its_run a 0 h1, its_run (n - a) a h2, Nat.zero_mul, List.drop_zero]
  have e4 : (es.drop (a * k)).take ((n - a) * k) = es.drop (a * k) := List.take_of_length_le (by rw [List.length_drop]; omega)
  rw [e4]
  exact List.take_append_drop _ _
end
end Go.Proofs.YtpledghphljfkaaDoor
/-
  What signs do with arrays' shapes, in the document's words, and what follows: items reversed, axes turned round, items taken, dropped and joined. Nothing of any program.
-/
namespace Go.Proofs.YtpledghphljfkaaDoor
set_option linter.unusedVariables false
set_option linter.unusedSimpArgs false
section
variable {α : Type}

/-- How many elements an item has; how many items there are. -/
def kI (l : List Int) : Nat := (pr l.tail).toNat
def nI (l : List Int) : Nat := (l.getD 0 0).toNat
/-- As many elements as the axes tell. -/
def Fits (l : List Int) (es : List α) : Prop := MayL l ∧ (es.length : Int) = pr l
theorem Fits.cut {l : List Int} {es : List α} (h : Fits l es) (hl : l ≠ []) : es.length = nI l * kI l := by
  obtain ⟨hm, he⟩ := h
  cases l with
  | nil => exact absurd rfl hl
  | cons x r =>
    have hx : 0 ≤ x := hm.nn 0 (by simp)
    have hr : 0 ≤ pr r := pr_nonneg fun j hj => hm.nn (j + 1) (by simpa using hj)
    have e : pr (x :: r) = x * pr r := rfl
    rw [e] at he
    show _ = x.toNat * (pr r).toNat
    have e2 : ((x.toNat * (pr r).toNat : Nat) : Int) = x * pr r := by
      rw [Int.natCast_mul, Int.toNat_of_nonneg hx, Int.toNat_of_nonneg hr]
    omega
/-- The items, the last one first; of no axis, or without an element, as it is. -/
def rvM (l : List Int) (es : List α) : List α := if l = [] ∨ es = [] then es else rvs_ es (kI l) (nI l)
theorem rvM_length {l : List Int} {es : List α} (h : Fits l es) : (rvM l es).length = es.length := by
  unfold rvM
  split
  · rfl
  · rename_i hc
    have he := h.cut (fun e => hc (.inl e))
    rw [rvs_length he, he]
theorem rvM_twice {l : List Int} {es : List α} (h : Fits l es) : rvM l (rvM l es) = es := by
  by_cases hc : l = [] ∨ es = []
  · have e : rvM l es = es := by unfold rvM; rw [if_pos hc]
    rw [e, e]
  · have he := h.cut (fun e => hc (.inl e))
    have e : rvM l es = rvs_ es (kI l) (nI l) := by unfold rvM; rw [if_neg hc]
    have hl := rvM_length h
    have hc2 : ¬ (l = [] ∨ rvM l es = []) := by
      rintro (g | g)
      · exact hc (.inl g)
      · rw [g] at hl
        exact hc (.inr (List.eq_nil_of_length_eq_zero hl.symm))
    have gen : ∀ fs : List α, ¬ (l = [] ∨ fs = []) → rvM l fs = rvs_ fs (kI l) (nI l) := fun fs g => by unfold rvM; rw [if_neg g]
    rw [gen _ hc2, e, rvs_twice he]
/-- The axes turned round: at each place the element of that place, the last axis first. -/
def flM (l : List Int) (es : List α) : List α := (List.range es.length).filterMap fun j : Nat => es[(tno l.reverse (j : Int)).toNat]?
theorem fl_get {l : List Int} {es : List α} (h : Fits l es) {j : Nat} (hj : j < es.length) : (tno l.reverse j).toNat < es.length ∧ ∃ x, es[(tno l.reverse j).toNat]? = some x := by
  have hp : 0 < pr l := by have := h.2; omega
  have ha := (h.1.pos hp).turned
  obtain ⟨h1, h2⟩ := tno_range ha (j : Int)
  rw [pr_reverse, ← h.2] at h2
  have h3 : (tno l.reverse j).toNat < es.length := by omega
  exact ⟨h3, _, List.getElem?_eq_getElem h3⟩
theorem filterMap_all {β γ : Type} {f : β → Option γ} : ∀ {l : List β}, (∀ x ∈ l, ∃ y, f x = some y) → (l.filterMap f).length = l.length ∧ ∀ i : Nat, (l.filterMap f)[i]? = l[i]?.bind f
  | [], _ => ⟨rfl, fun i => by simp⟩
  | x :: r, h => by
    obtain ⟨y, hy⟩ := h x (List.mem_cons_self ..)
    obtain ⟨h1, h2⟩ := filterMap_all (l := r) fun z hz => h z (List.mem_cons_of_mem _ hz)
    rw [List.filterMap_cons_some hy]
    refine ⟨by simp [h1], fun i => ?_⟩
    cases i with
    | zero => simp [hy]
    | succ i => simpa using h2 i
theorem flM_at {l : List Int} {es : List α} (h : Fits l es) : (flM l es).length = es.length ∧ ∀ j : Nat, j < es.length → (flM l es)[j]? = es[(tno l.reverse j).toNat]? := by
  obtain ⟨h1, h2⟩ := filterMap_all (f := fun j : Nat => es[(tno l.reverse j).toNat]?) (l := List.range es.length) fun x hx => (fl_get h (List.mem_range.1 hx)).2
  refine ⟨by unfold flM; rw [h1]; simp, fun j hj => ?_⟩
  unfold flM
  rw [h2]
  simp [List.getElem?_range hj]
theorem Fits.turned {l : List Int} {es : List α} (h : Fits l es) : Fits l.reverse (flM l es) := by
  refine ⟨?_, by rw [(flM_at h).1, pr_reverse]; exact h.2⟩
  obtain ⟨h1, h2, h3, h4⟩ := h.1
  refine ⟨by simpa using h1, fun j hj => ?_, fun j hj => ?_, by rw [pr_reverse]; exact h4⟩
  · rw [List.length_reverse] at hj
    rw [getD_rev hj]; exact h2 _ (by omega)
  · rw [List.length_reverse] at hj
    rw [getD_rev hj]; exact h3 _ (by omega)
theorem flM_twice {l : List Int} {es : List α} (h : Fits l es) : flM l.reverse (flM l es) = es := by
  apply List.ext_getElem?
  intro j
  have hl := (flM_at h).1
  by_cases hj : j < es.length
  · have hp : 0 < pr l := by have := h.2; omega
    have ha := h.1.pos hp
    obtain ⟨h1, h2⟩ := tno_range ha (j : Int)
    rw [(flM_at h.turned).2 j (by rw [hl]; exact hj), List.reverse_reverse]
    have h3 : (tno l j).toNat < es.length := by have := h.2; omega
    rw [(flM_at h).2 _ h3]
    have e : tno l.reverse ((tno l j).toNat : Int) = j := by
      rw [Int.toNat_of_nonneg h1]
      exact tno_back ha (by omega) (by have := h.2; omega)
    rw [e, Int.toNat_natCast]
  · rw [List.getElem?_eq_none (by rw [(flM_at h.turned).1, hl]; omega), List.getElem?_eq_none (by omega)]
/-- At the place that an element's place turned round is, that element stands. -/
theorem flM_to {l : List Int} {es : List α} (h : Fits l es) {i : Nat} (hi : i < es.length) : (tno l i).toNat < es.length ∧ (flM l es)[(tno l i).toNat]? = es[i]? := by
  have hp : 0 < pr l := by have := h.2; omega
  have ha := h.1.pos hp
  obtain ⟨h1, h2⟩ := tno_range ha (i : Int)
  have h3 : (tno l i).toNat < es.length := by have := h.2; omega
  refine ⟨h3, ?_⟩
  rw [(flM_at h).2 _ h3, Int.toNat_of_nonneg h1, tno_back ha (by omega) (by have := h.2; omega), Int.toNat_natCast]
/-- The items from one on, to below another one. -/
def ctM (l : List Int) (es : List α) (a b : Nat) : List α := (es.drop (a * kI l)).take ((b - a) * kI l)
theorem ctM_length {l : List Int} {es : List α} (h : Fits l es) (hl : l ≠ []) {a b : Nat} (hb : b ≤ nI l) : (ctM l es a b).length = (b - a) * kI l := by
  have he := h.cut hl
  unfold ctM
  rw [List.length_take, List.length_drop, he, ← Nat.sub_mul]
  exact Nat.min_eq_left (Nat.mul_le_mul_right _ (by omega))
theorem ctM_join {l : List Int} {es : List α} (h : Fits l es) (hl : l ≠ []) {a : Nat} (ha : a ≤ nI l) : ctM l es 0 a ++ ctM l es a (nI l) = es := by
  have he := h.cut hl
  unfold ctM
  have e : es.drop (a * kI l) = (es.drop (a * kI l)).take ((nI l - a) * kI l) := by
    rw [List.take_of_length_le]
    rw [List.length_drop, he, ← Nat.sub_mul]
    exact Nat.le_refl _
  rw [← e, Nat.zero_mul, List.drop_zero, Nat.sub_zero, List.take_append_drop]
end
end Go.Proofs.YtpledghphljfkaaDoor

import Derived.Test.YtjpjccilnmlmnaaGreatDoorMae
import Derived.WalkKit
/-
  Plain facts on lists of axes: their product, what Size tells of them, the places of offsets and the offsets of places. Nothing of any program.
-/
namespace Go.Proofs.YtjpjccilnmlmnaaGreatDoor
set_option linter.unusedVariables false
set_option linter.unusedSimpArgs false

theorem mul_pos_int {a b : Int} (ha : 0 < a) (hb : 0 < b) : 0 < a * b := Int.mul_pos ha hb
/-- All axes multiplied. -/
def quo (l : List Int) (k : Int) (i : Nat) : Int := k / pr (l.drop i)
/-- The place on axis i. -/
def plc (l : List Int) (k : Int) (i : Nat) : Int := quo l k (i + 1) % l.getD i 0
def plL (l : List Int) (k : Int) : List Int := (List.range l.length).map (plc l k)
theorem plL_length (l : List Int) (k : Int) : (plL l k).length = l.length := by simp [plL]
theorem plL_get {l : List Int} {k : Int} {i : Nat} (h : i < l.length) : (plL l k).getD i 0 = plc l k i := by
  rw [List.getD_eq_getElem?_getD, List.getElem?_eq_getElem (by rw [plL_length]; exact h)]; simp [plL]
theorem quo_last (l : List Int) (k : Int) : quo l k l.length = k := by unfold quo; simp [pr]
theorem quo_step {l : List Int} {k : Int} {i : Nat} (h : i < l.length) (hp : 0 ≤ pr (l.drop (i + 1))) : quo l k (i + 1) / l.getD i 0 = quo l k i := by
  unfold quo
  rw [pr_drop h, Int.ediv_ediv_of_nonneg hp, Int.mul_comm]
/-- The offset, axis by axis, from the first one. -/
theorem inL_of {l t : List Int} {n : Nat} (h : ∀ i, i < n → 0 ≤ t.getD i 0 ∧ t.getD i 0 < l.getD i 0) : inL l t n = true := by
  induction n with
  | zero => rfl
  | succ n ih =>
    simp only [inL, Bool.and_eq_true, decide_eq_true_eq]
    exact ⟨ih fun i hi => h i (by omega), h n (by omega)⟩
theorem inL_not {l t : List Int} {n i : Nat} (hi : i < n) (h : t.getD i 0 < 0 ∨ l.getD i 0 ≤ t.getD i 0) : inL l t n = false := by
  rw [← Bool.not_eq_true]
  intro hh
  have := inL_at hh hi
  omega
/-- The offset stays below the axes multiplied. -/
theorem AllPos.drop_le {l : List Int} (h : AllPos l) (k : Nat) : Go.Proofs.YtjpjccilnmlmnaaGreatDoor.pr (l.drop k) ≤ Go.Proofs.YtjpjccilnmlmnaaGreatDoor.pr l := by
  have e : Go.Proofs.YtjpjccilnmlmnaaGreatDoor.pr l = Go.Proofs.YtjpjccilnmlmnaaGreatDoor.pr (l.take k) * Go.Proofs.YtjpjccilnmlmnaaGreatDoor.pr (l.drop k) := by rw [← pr_append, List.take_append_drop]
  have h1 := h.take k
  have h2 := h.drop k
  have h3 : 1 * Go.Proofs.YtjpjccilnmlmnaaGreatDoor.pr (l.drop k) ≤ Go.Proofs.YtjpjccilnmlmnaaGreatDoor.pr (l.take k) * Go.Proofs.YtjpjccilnmlmnaaGreatDoor.pr (l.drop k) := Int.mul_le_mul_of_nonneg_right (by omega) (by omega)
  omega
theorem AllPos.at_le {l : List Int} (h : AllPos l) {k : Nat} (hk : k < l.length) : l.getD k 0 ≤ Go.Proofs.YtjpjccilnmlmnaaGreatDoor.pr l := by
  have h1 := h.drop_le k
  rw [pr_drop hk] at h1
  have h2 := h.drop (k + 1)
  have h3 := h.pos k hk
  have h4 : l.getD k 0 * 1 ≤ l.getD k 0 * Go.Proofs.YtjpjccilnmlmnaaGreatDoor.pr (l.drop (k + 1)) := Int.mul_le_mul_of_nonneg_left (by omega) (by omega)
  omega
theorem plc_range {l : List Int} (h : AllPos l) (k : Int) {i : Nat} (hi : i < l.length) : 0 ≤ plc l k i ∧ plc l k i < l.getD i 0 :=
  ⟨Int.emod_nonneg _ (by have := h.pos i hi; omega), Int.emod_lt_of_pos _ (h.pos i hi)⟩
theorem quo_nonneg {l : List Int} (h : AllPos l) {k : Int} (hk : 0 ≤ k) (i : Nat) : 0 ≤ quo l k i := Int.ediv_nonneg hk (by have := h.drop i; omega)
theorem quo_le {l : List Int} (h : AllPos l) {k : Int} (hk : 0 ≤ k) (i : Nat) : quo l k i ≤ k := by
  have := h.drop i
  exact Int.ediv_le_self _ hk
theorem quo_first {l : List Int} {k : Int} (hk : 0 ≤ k) (hlt : k < pr l) : quo l k 0 = 0 := by unfold quo; rw [List.drop_zero]; exact Int.ediv_eq_zero_of_lt hk hlt
theorem quo_join {l : List Int} (h : AllPos l) (k : Int) {i : Nat} (hi : i < l.length) : quo l k i * l.getD i 0 + plc l k i = quo l k (i + 1) := by
  rw [← quo_step hi (Int.le_of_lt (h.drop _))]
  unfold plc
  have := Int.mul_ediv_add_emod (quo l k (i + 1)) (l.getD i 0)
  rw [Int.mul_comm] at this
  exact this
/-- There and back. -/
theorem hor_plL {l : List Int} (h : AllPos l) {k : Int} (hk : 0 ≤ k) (hlt : k < pr l) {i : Nat} (hi : i ≤ l.length) : hor l (plL l k) i = quo l k i := by
  induction i with
  | zero => rw [quo_first hk hlt]; rfl
  | succ i ih =>
    show hor l (plL l k) i * l.getD i 0 + (plL l k).getD i 0 = _
    rw [ih (by omega), plL_get (by omega), quo_join h k (by omega)]
theorem inL_plL {l : List Int} (h : AllPos l) (k : Int) : inL l (plL l k) l.length = true := inL_of fun i hi => by rw [plL_get hi]; exact plc_range h k hi
theorem back_plL {l : List Int} (hm : MayL l) {k : Int} (hk : 0 ≤ k) (hlt : k < pr l) : ofB l (plL l k) = true ∧ ofV l (plL l k) = k := by
  have h := hm.pos (by omega)
  have e : ofB l (plL l k) = true := by
    unfold ofB
    rw [inL_plL h k, szE_may.2 hm, plL_length]; simp
  refine ⟨e, ?_⟩
  unfold ofV
  rw [if_pos e, hor_plL h hk hlt (Nat.le_refl _), quo_last]
/-- Of two elements the one that is ahead on the first axis on which they are apart is ahead. -/
theorem quo_same {l : List Int} (h : AllPos l) {x y : Int} (hx : 0 ≤ x) (hy : 0 ≤ y) (hx2 : x < pr l) (hy2 : y < pr l) {i : Nat} (hi : i ≤ l.length) (he : ∀ j, j < i → plc l x j = plc l y j) : quo l x i = quo l y i := by
  induction i with
  | zero => rw [quo_first hx hx2, quo_first hy hy2]
  | succ i ih =>
    rw [← quo_join h x (by omega), ← quo_join h y (by omega), ih (by omega) (fun j hj => he j (by omega)), he i (by omega)]
theorem plc_rises {l : List Int} (h : AllPos l) {x y : Int} (hx : 0 ≤ x) (hy : 0 ≤ y) (hx2 : x < pr l) (hy2 : y < pr l) {i : Nat} (hi : i < l.length) (he : ∀ j, j < i → plc l x j = plc l y j) (hne : plc l x i ≠ plc l y i) : plc l x i < plc l y i ↔ x < y := by
  have e := quo_same h hx hy hx2 hy2 (by omega) he
  have e1 := quo_join h x hi
  have e2 := quo_join h y hi
  rw [e] at e1
  generalize quo l y i * l.getD i 0 = z at e1 e2
  have hD := h.drop (i + 1)
  constructor
  · intro hlt
    rcases Int.lt_or_le x y with h1 | h1
    · exact h1
    · have : quo l y (i + 1) ≤ quo l x (i + 1) := Int.ediv_le_ediv hD h1
      omega
  · intro hlt
    have : quo l x (i + 1) ≤ quo l y (i + 1) := Int.ediv_le_ediv hD (by omega)
    omega
theorem plc_same {l : List Int} (h : AllPos l) {x y : Int} (hx : 0 ≤ x) (hy : 0 ≤ y) (hx2 : x < pr l) (hy2 : y < pr l) (he : ∀ j, j < l.length → plc l x j = plc l y j) : x = y := by
  have := quo_same h hx hy hx2 hy2 (Nat.le_refl _) he
  rwa [quo_last, quo_last] at this
/-- The document's way: each place times what is behind its axis. -/
def sum (l t : List Int) : Nat → Int
  | 0 => 0
  | i + 1 => sum l t i + t.getD i 0 * pr (l.drop (i + 1))
theorem sum_hor {l t : List Int} {i : Nat} (hi : i ≤ l.length) : sum l t i = hor l t i * pr (l.drop i) := by
  induction i with
  | zero => simp [sum, hor]
  | succ i ih =>
    show sum l t i + t.getD i 0 * pr (l.drop (i + 1)) = (hor l t i * l.getD i 0 + t.getD i 0) * pr (l.drop (i + 1))
    rw [ih (by omega), pr_drop (by omega), Int.add_mul, Int.mul_assoc]
theorem sum_all (l t : List Int) : sum l t l.length = hor l t l.length := by rw [sum_hor (Nat.le_refl _)]; simp [pr]
end Go.Proofs.YtjpjccilnmlmnaaGreatDoor

/-
  Plain facts on lists of axes: their product, what Size tells of them, the places of offsets and the offsets of places. Nothing of any program.
-/
import Derived.WalkKit
namespace Go.Proofs.Ytfgjfncmldnlcaa

theorem mul_pos_int {a b : Int} (ha : 0 < a) (hb : 0 < b) : 0 < a * b := Int.mul_pos ha hb
/-- All axes multiplied. -/
def pr : List Int → Int
  | [] => 1
  | a :: r => a * pr r
theorem pr_append (l m : List Int) : pr (l ++ m) = pr l * pr m := by
  induction l with
  | nil => simp [pr]
  | cons a r ih => simp only [List.cons_append, pr, ih, Int.mul_assoc]
theorem take_snoc {l : List Int} {k : Nat} (h : k < l.length) : l.take (k + 1) = l.take k ++ [l.getD k 0] := by
  rw [List.take_succ_eq_append_getElem h, List.getD_eq_getElem?_getD, List.getElem?_eq_getElem h]; rfl
theorem drop_head {l : List Int} {k : Nat} (h : k < l.length) : l.drop k = l.getD k 0 :: l.drop (k + 1) := by
  rw [List.drop_eq_getElem_cons h, List.getD_eq_getElem?_getD, List.getElem?_eq_getElem h]; rfl
theorem pr_take {l : List Int} {k : Nat} (h : k < l.length) : pr (l.take (k + 1)) = pr (l.take k) * l.getD k 0 := by
  rw [take_snoc h, pr_append]; simp [pr]
theorem pr_drop {l : List Int} {k : Nat} (h : k < l.length) : pr (l.drop k) = l.getD k 0 * pr (l.drop (k + 1)) := by
  rw [drop_head h]; rfl
theorem pr_nonneg : ∀ {l : List Int}, (∀ j, j < l.length → 0 ≤ l.getD j 0) → 0 ≤ pr l
  | [], _ => by simp [pr]
  | a :: r, h => Int.mul_nonneg (by have := h 0 (by simp); simpa using this) (pr_nonneg fun j hj => by have := h (j + 1) (by simpa using hj); simpa using this)
theorem pr_pos : ∀ {l : List Int}, (∀ j, j < l.length → 0 < l.getD j 0) → 0 < pr l
  | [], _ => by simp [pr]
  | a :: r, h => Int.mul_pos (by have := h 0 (by simp); simpa using this) (pr_pos fun j hj => by have := h (j + 1) (by simpa using hj); simpa using this)
theorem getD_take {l : List Int} {j k : Nat} (h : j < k) : (l.take k).getD j 0 = l.getD j 0 := by
  simp only [List.getD_eq_getElem?_getD, List.getElem?_take_of_lt h]
theorem getD_drop (l : List Int) (j k : Nat) : (l.drop k).getD j 0 = l.getD (k + j) 0 := by
  simp only [List.getD_eq_getElem?_getD, List.getElem?_drop]

/-! ### What Size tells -/
def negL (l : List Int) : Bool := l.any fun x => decide (x < 0)
def bigL (l : List Int) : Bool := l.any fun x => decide (1099511627776 < x)
def szE (l : List Int) : Int := if 3 < l.length then 3 else if negL l then 5 else if bigL l then 8 else if 4096 < pr l then 8 else 0
def szV (l : List Int) : Int := if szE l = 0 then pr l else 0
theorem any_at {p : Int → Bool} {l : List Int} : l.any p = true ↔ ∃ j, j < l.length ∧ p (l.getD j 0) = true := by
  rw [List.any_eq_true]
  constructor
  · rintro ⟨x, hx, h⟩
    obtain ⟨j, hj, rfl⟩ := List.getElem_of_mem hx
    exact ⟨j, hj, by rw [List.getD_eq_getElem?_getD, List.getElem?_eq_getElem hj]; exact h⟩
  · rintro ⟨j, hj, h⟩
    rw [List.getD_eq_getElem?_getD, List.getElem?_eq_getElem hj] at h
    exact ⟨_, List.getElem_mem hj, h⟩
theorem negL_yes {l : List Int} {j : Nat} (hj : j < l.length) (h : l.getD j 0 < 0) : negL l = true := any_at.2 ⟨j, hj, by simpa using h⟩
theorem negL_no {l : List Int} (h : ∀ j, j < l.length → 0 ≤ l.getD j 0) : negL l = false := by
  rw [← Bool.not_eq_true]
  intro hh
  obtain ⟨j, hj, h2⟩ := any_at.1 hh
  have := h j hj
  simp only [decide_eq_true_eq] at h2
  omega
theorem negL_nn {l : List Int} (h : negL l = false) : ∀ j, j < l.length → 0 ≤ l.getD j 0 := by
  intro j hj
  rcases Int.lt_or_le (l.getD j 0) 0 with h0 | h0
  · rw [negL_yes hj h0] at h; cases h
  · exact h0
theorem bigL_yes {l : List Int} {j : Nat} (hj : j < l.length) (h : 1099511627776 < l.getD j 0) : bigL l = true := any_at.2 ⟨j, hj, by simpa using h⟩
theorem bigL_no {l : List Int} (h : ∀ j, j < l.length → l.getD j 0 ≤ 1099511627776) : bigL l = false := by
  rw [← Bool.not_eq_true]
  intro hh
  obtain ⟨j, hj, h2⟩ := any_at.1 hh
  have := h j hj
  simp only [decide_eq_true_eq] at h2
  omega
theorem bigL_le {l : List Int} (h : bigL l = false) : ∀ j, j < l.length → l.getD j 0 ≤ 1099511627776 := by
  intro j hj
  rcases Int.lt_or_le 1099511627776 (l.getD j 0) with h0 | h0
  · rw [bigL_yes hj h0] at h; cases h
  · exact h0
theorem szE_rank {l : List Int} (h : 3 < l.length) : szE l = 3 := by unfold szE; rw [if_pos h]
theorem szE_neg {l : List Int} (h : l.length ≤ 3) (hn : negL l = true) : szE l = 5 := by unfold szE; rw [if_neg (by omega), if_pos hn]
theorem szE_big {l : List Int} (h : l.length ≤ 3) (hn : negL l = false) (hb : bigL l = true) : szE l = 8 := by unfold szE; rw [if_neg (by omega), hn, if_neg (by decide), if_pos hb]
theorem szE_pr {l : List Int} (h : l.length ≤ 3) (hn : negL l = false) (hb : bigL l = false) (hp : 4096 < pr l) : szE l = 8 := by unfold szE; rw [if_neg (by omega), hn, hb, if_neg (by decide), if_neg (by decide), if_pos hp]
theorem szE_ok {l : List Int} (h : l.length ≤ 3) (hn : negL l = false) (hb : bigL l = false) (hp : pr l ≤ 4096) : szE l = 0 := by unfold szE; rw [if_neg (by omega), hn, hb, if_neg (by decide), if_neg (by decide), if_neg (by omega)]
theorem szV_zero {l : List Int} (h : szE l ≠ 0) : szV l = 0 := if_neg h
theorem szV_pr {l : List Int} (h : szE l = 0) : szV l = pr l := if_pos h
/-- A shape that may be. -/
structure MayL (l : List Int) : Prop where
  len : l.length ≤ 3
  nn : ∀ j, j < l.length → 0 ≤ l.getD j 0
  le : ∀ j, j < l.length → l.getD j 0 ≤ 1099511627776
  pr : pr l ≤ 4096
theorem szE_may {l : List Int} : szE l = 0 ↔ MayL l := by
  constructor
  · intro h
    rcases Nat.lt_or_ge 3 l.length with h1 | h1
    · rw [szE_rank h1] at h; cases h
    · rcases Bool.eq_false_or_eq_true (negL l) with h2 | h2
      · rw [szE_neg h1 h2] at h; cases h
      · rcases Bool.eq_false_or_eq_true (bigL l) with h3 | h3
        · rw [szE_big h1 h2 h3] at h; cases h
        · rcases Int.lt_or_le 4096 (pr l) with h4 | h4
          · rw [szE_pr h1 h2 h3 h4] at h; cases h
          · exact ⟨h1, negL_nn h2, bigL_le h3, h4⟩
  · rintro ⟨h1, h2, h3, h4⟩
    exact szE_ok h1 (negL_no h2) (bigL_no h3) h4
/-- Size's loop, at its round k. -/
structure SzInv (l : List Int) (k : Nat) (sz er : Int) : Prop where
  nn : ∀ j, j < k → 0 ≤ l.getD j 0
  er : (er = 0 ∧ (∀ j, j < k → l.getD j 0 ≤ 1099511627776) ∧ sz = min (pr (l.take k)) 4097) ∨ (er = 8 ∧ ∃ j, j < k ∧ 1099511627776 < l.getD j 0)
  lo : 0 ≤ sz
  hi : sz ≤ 4097
theorem SzInv.start (l : List Int) : SzInv l 0 1 0 := ⟨fun _ h => by omega, .inl ⟨rfl, fun _ h => by omega, by show (1 : Int) = min 1 4097; decide⟩, by decide, by decide⟩
theorem cap_mul {p x s : Int} (hp : 0 ≤ p) (hx : 0 ≤ x) (hs : s = min p 4097) : min (s * x) 4097 = min (p * x) 4097 := by
  rcases Int.lt_or_le 4097 p with h | h
  · have e : s = 4097 := by omega
    rcases Int.lt_or_le 0 x with h0 | h0
    · have h1 : 4097 * 1 ≤ 4097 * x := Int.mul_le_mul_of_nonneg_left (by omega) (by decide)
      have h2 : 4097 * x ≤ p * x := Int.mul_le_mul_of_nonneg_right (by omega) hx
      rw [e]; omega
    · have : x = 0 := by omega
      subst this; simp
  · rw [hs, Int.min_eq_left h]
theorem SzInv.step {l : List Int} {k : Nat} {sz er : Int} (h : SzInv l k sz er) (hk : k < l.length) (h0 : 0 ≤ l.getD k 0) (h1 : l.getD k 0 ≤ 1099511627776) : SzInv l (k + 1) (min (sz * l.getD k 0) 4097) er := by
  have hm : 0 ≤ sz * l.getD k 0 := Int.mul_nonneg h.lo h0
  refine ⟨fun j hj => ?_, ?_, by omega, by omega⟩
  · rcases Nat.lt_or_ge j k with h2 | h2
    · exact h.nn j h2
    · rw [show j = k by omega]; exact h0
  · rcases h.er with ⟨e, h2, h3⟩ | ⟨e, j, h2, h3⟩
    · refine .inl ⟨e, fun j hj => ?_, ?_⟩
      · rcases Nat.lt_or_ge j k with h4 | h4
        · exact h2 j h4
        · rw [show j = k by omega]; exact h1
      · rw [pr_take hk]
        exact cap_mul (pr_nonneg fun j hj => by rw [List.length_take] at hj; rw [getD_take (by omega)]; exact h.nn j (by omega)) h0 h3
    · exact .inr ⟨e, j, by omega, h3⟩
theorem SzInv.big {l : List Int} {k : Nat} {sz er : Int} (h : SzInv l k sz er) (h1 : 1099511627776 < l.getD k 0) : SzInv l (k + 1) sz 8 := by
  refine ⟨fun j hj => ?_, .inr ⟨rfl, k, by omega, h1⟩, h.lo, h.hi⟩
  rcases Nat.lt_or_ge j k with h2 | h2
  · exact h.nn j h2
  · rw [show j = k by omega]; omega
theorem SzInv.ends {l : List Int} {sz er : Int} (h : SzInv l l.length sz er) (hl : l.length ≤ 3) :
    (er = 8 ∧ szE l = 8 ∧ szV l = 0) ∨ (er = 0 ∧ 4096 < sz ∧ szE l = 8 ∧ szV l = 0) ∨ (er = 0 ∧ sz ≤ 4096 ∧ szE l = 0 ∧ szV l = sz) := by
  have hn := negL_no h.nn
  rcases h.er with ⟨e, h2, h3⟩ | ⟨e, j, h2, h3⟩
  · rw [List.take_of_length_le (Nat.le_refl _)] at h3
    have hb := bigL_no h2
    rcases Int.lt_or_le 4096 (pr l) with h4 | h4
    · have h5 := szE_pr hl hn hb h4
      exact .inr (.inl ⟨e, by omega, h5, szV_zero (by rw [h5]; decide)⟩)
    · have h5 := szE_ok hl hn hb h4
      exact .inr (.inr ⟨e, by omega, h5, by rw [szV_pr h5]; omega⟩)
  · have h5 := szE_big hl hn (bigL_yes h2 h3)
    exact .inl ⟨e, h5, szV_zero (by rw [h5]; decide)⟩

/-! ### Places and offsets -/
/-- What is left of an offset ahead of axis i. -/
def quo (l : List Int) (k : Int) (i : Nat) : Int := k / pr (l.drop i)
/-- The place on axis i. -/
def plc (l : List Int) (k : Int) (i : Nat) : Int := quo l k (i + 1) % l.getD i 0
def plL (l : List Int) (k : Int) : List Int := (List.range l.length).map (plc l k)
theorem plL_length (l : List Int) (k : Int) : (plL l k).length = l.length := by simp [plL]
theorem plL_get {l : List Int} {k : Int} {i : Nat} (h : i < l.length) : (plL l k).getD i 0 = plc l k i := by
  rw [List.getD_eq_getElem?_getD, List.getElem?_eq_getElem (by rw [plL_length]; exact h)]; simp [plL]
theorem quo_last (l : List Int) (k : Int) : quo l k l.length = k := by unfold quo; simp [pr]
theorem quo_step {l : List Int} {k : Int} {i : Nat} (h : i < l.length) (hp : 0 ≤ pr (l.drop (i + 1))) : quo l k (i + 1) / l.getD i 0 = quo l k i := by
  unfold quo
  rw [pr_drop h, Int.ediv_ediv_of_nonneg hp, Int.mul_comm]
/-- The offset, axis by axis, from the first one. -/
def hor (l t : List Int) : Nat → Int
  | 0 => 0
  | i + 1 => hor l t i * l.getD i 0 + t.getD i 0
/-- There is such a place. -/
def inL (l t : List Int) : Nat → Bool
  | 0 => true
  | i + 1 => inL l t i && (decide (0 ≤ t.getD i 0) && decide (t.getD i 0 < l.getD i 0))
def ofB (l t : List Int) : Bool := decide (szE l = 0) && decide (l.length = t.length) && inL l t l.length
def ofV (l t : List Int) : Int := if ofB l t then hor l t l.length else 0
theorem inL_at {l t : List Int} {n : Nat} (h : inL l t n = true) {i : Nat} (hi : i < n) : 0 ≤ t.getD i 0 ∧ t.getD i 0 < l.getD i 0 := by
  induction n with
  | zero => omega
  | succ n ih =>
    simp only [inL, Bool.and_eq_true, decide_eq_true_eq] at h
    rcases Nat.lt_or_ge i n with h1 | h1
    · exact ih h.1 h1
    · rw [show i = n by omega]; exact h.2
theorem inL_of {l t : List Int} {n : Nat} (h : ∀ i, i < n → 0 ≤ t.getD i 0 ∧ t.getD i 0 < l.getD i 0) : inL l t n = true := by
  induction n with
  | zero => rfl
  | succ n ih =>
    simp only [inL, Bool.and_eq_true, decide_eq_true_eq]
    exact ⟨ih fun i hi => h i (by omega), h n (by omega)⟩
theorem inL_not {l t : List Int} {n i : Nat} (hi : i < n) (h : t.getD i 0 < 0 ∨ l.getD i 0 ≤ t.getD i 0) : inL l t n = false := by
  rw [← Bool.not_eq_true]
  intro hh
  have := inL_at hh hi
  omega
/-- The offset stays below the axes multiplied. -/
theorem hor_range {l t : List Int} {n : Nat} (hn : n ≤ l.length) (h : inL l t n = true) : 0 ≤ hor l t n ∧ hor l t n < pr (l.take n) := by
  induction n with
  | zero => simp [hor, pr]
  | succ n ih =>
    have h1 := inL_at h (Nat.lt_succ_self n)
    simp only [inL, Bool.and_eq_true] at h
    obtain ⟨a, b⟩ := ih (by omega) h.1
    rw [pr_take (by omega)]
    have h2 : 0 ≤ hor l t n * l.getD n 0 := Int.mul_nonneg a (by omega)
    have h3 : (hor l t n + 1) * l.getD n 0 ≤ pr (l.take n) * l.getD n 0 := Int.mul_le_mul_of_nonneg_right (by omega) (by omega)
    rw [Int.add_mul, Int.one_mul] at h3
    show 0 ≤ hor l t n * l.getD n 0 + t.getD n 0 ∧ hor l t n * l.getD n 0 + t.getD n 0 < _
    omega
/-- If there is an element at all. -/
structure AllPos (l : List Int) : Prop where
  pos : ∀ j, j < l.length → 0 < l.getD j 0
theorem AllPos.drop {l : List Int} (h : AllPos l) (k : Nat) : 0 < pr (l.drop k) := pr_pos fun j hj => by rw [getD_drop]; exact h.pos _ (by rw [List.length_drop] at hj; omega)
theorem AllPos.take {l : List Int} (h : AllPos l) (k : Nat) : 0 < pr (l.take k) := pr_pos fun j hj => by rw [List.length_take] at hj; rw [getD_take (by omega)]; exact h.pos _ (by omega)
theorem pr_zero_at {l : List Int} {j : Nat} (hj : j < l.length) (h : l.getD j 0 = 0) : pr l = 0 := by
  have e := List.take_append_drop j l
  rw [← e, pr_append, pr_drop hj, h]; simp
theorem MayL.pos {l : List Int} (h : MayL l) (hp : 0 < Go.Proofs.Ytfgjfncmldnlcaa.pr l) : AllPos l := by
  refine ⟨fun j hj => ?_⟩
  have h0 := h.nn j hj
  rcases Int.lt_or_le 0 (l.getD j 0) with h1 | h1
  · exact h1
  · rw [pr_zero_at hj (by omega)] at hp; omega
/-- A part of the axes multiplied isn't above all of them. -/
theorem AllPos.take_le {l : List Int} (h : AllPos l) (k : Nat) : Go.Proofs.Ytfgjfncmldnlcaa.pr (l.take k) ≤ Go.Proofs.Ytfgjfncmldnlcaa.pr l := by
  have e : Go.Proofs.Ytfgjfncmldnlcaa.pr l = Go.Proofs.Ytfgjfncmldnlcaa.pr (l.take k) * Go.Proofs.Ytfgjfncmldnlcaa.pr (l.drop k) := by rw [← pr_append, List.take_append_drop]
  have h1 := h.take k
  have h2 := h.drop k
  have h3 : Go.Proofs.Ytfgjfncmldnlcaa.pr (l.take k) * 1 ≤ Go.Proofs.Ytfgjfncmldnlcaa.pr (l.take k) * Go.Proofs.Ytfgjfncmldnlcaa.pr (l.drop k) := Int.mul_le_mul_of_nonneg_left (by omega) (by omega)
  omega
theorem AllPos.drop_le {l : List Int} (h : AllPos l) (k : Nat) : Go.Proofs.Ytfgjfncmldnlcaa.pr (l.drop k) ≤ Go.Proofs.Ytfgjfncmldnlcaa.pr l := by
  have e : Go.Proofs.Ytfgjfncmldnlcaa.pr l = Go.Proofs.Ytfgjfncmldnlcaa.pr (l.take k) * Go.Proofs.Ytfgjfncmldnlcaa.pr (l.drop k) := by rw [← pr_append, List.take_append_drop]
  have h1 := h.take k
  have h2 := h.drop k
  have h3 : 1 * Go.Proofs.Ytfgjfncmldnlcaa.pr (l.drop k) ≤ Go.Proofs.Ytfgjfncmldnlcaa.pr (l.take k) * Go.Proofs.Ytfgjfncmldnlcaa.pr (l.drop k) := Int.mul_le_mul_of_nonneg_right (by omega) (by omega)
  omega
theorem AllPos.at_le {l : List Int} (h : AllPos l) {k : Nat} (hk : k < l.length) : l.getD k 0 ≤ Go.Proofs.Ytfgjfncmldnlcaa.pr l := by
  have h1 := h.drop_le k
  rw [pr_drop hk] at h1
  have h2 := h.drop (k + 1)
  have h3 := h.pos k hk
  have h4 : l.getD k 0 * 1 ≤ l.getD k 0 * Go.Proofs.Ytfgjfncmldnlcaa.pr (l.drop (k + 1)) := Int.mul_le_mul_of_nonneg_left (by omega) (by omega)
  omega
theorem plc_range {l : List Int} (h : AllPos l) (k : Int) {i : Nat} (hi : i < l.length) : 0 ≤ plc l k i ∧ plc l k i < l.getD i 0 :=
  ⟨Int.emod_nonneg _ (by have := h.pos i hi; omega), Int.emod_lt_of_pos _ (h.pos i hi)⟩
theorem quo_nonneg {l : List Int} (h : AllPos l) {k : Int} (hk : 0 ≤ k) (i : Nat) : 0 ≤ quo l k i := Int.ediv_nonneg hk (by have := h.drop i; omega)
theorem quo_le {l : List Int} (h : AllPos l) {k : Int} (hk : 0 ≤ k) (i : Nat) : quo l k i ≤ k := by
  have := h.drop i
  exact Int.ediv_le_self _ hk
theorem quo_first {l : List Int} {k : Int} (hk : 0 ≤ k) (hlt : k < pr l) : quo l k 0 = 0 := by unfold quo; rw [List.drop_zero]; exact Int.ediv_eq_zero_of_lt hk hlt
theorem quo_join {l : List Int} (h : AllPos l) (k : Int) {i : Nat} (hi : i < l.length) : quo l k i * l.getD i 0 + plc l k i = quo l k (i + 1) := by
  rw [← quo_step hi (Int.le_of_lt (h.drop _))]
  unfold plc
  have := Int.mul_ediv_add_emod (quo l k (i + 1)) (l.getD i 0)
  rw [Int.mul_comm] at this
  exact this
/-- There and back. -/
theorem hor_plL {l : List Int} (h : AllPos l) {k : Int} (hk : 0 ≤ k) (hlt : k < pr l) {i : Nat} (hi : i ≤ l.length) : hor l (plL l k) i = quo l k i := by
  induction i with
  | zero => rw [quo_first hk hlt]; rfl
  | succ i ih =>
    show hor l (plL l k) i * l.getD i 0 + (plL l k).getD i 0 = _
    rw [ih (by omega), plL_get (by omega), quo_join h k (by omega)]
theorem inL_plL {l : List Int} (h : AllPos l) (k : Int) : inL l (plL l k) l.length = true := inL_of fun i hi => by rw [plL_get hi]; exact plc_range h k hi
theorem back_plL {l : List Int} (hm : MayL l) {k : Int} (hk : 0 ≤ k) (hlt : k < pr l) : ofB l (plL l k) = true ∧ ofV l (plL l k) = k := by
  have h := hm.pos (by omega)
  have e : ofB l (plL l k) = true := by
    unfold ofB
    rw [inL_plL h k, szE_may.2 hm, plL_length]; simp
  refine ⟨e, ?_⟩
  unfold ofV
  rw [if_pos e, hor_plL h hk hlt (Nat.le_refl _), quo_last]
/-- Of two elements the one that is ahead on the first axis on which they are apart is ahead. -/
theorem quo_same {l : List Int} (h : AllPos l) {x y : Int} (hx : 0 ≤ x) (hy : 0 ≤ y) (hx2 : x < pr l) (hy2 : y < pr l) {i : Nat} (hi : i ≤ l.length) (he : ∀ j, j < i → plc l x j = plc l y j) : quo l x i = quo l y i := by
  induction i with
  | zero => rw [quo_first hx hx2, quo_first hy hy2]
  | succ i ih =>
    rw [← quo_join h x (by omega), ← quo_join h y (by omega), ih (by omega) (fun j hj => he j (by omega)), he i (by omega)]
theorem plc_rises {l : List Int} (h : AllPos l) {x y : Int} (hx : 0 ≤ x) (hy : 0 ≤ y) (hx2 : x < pr l) (hy2 : y < pr l) {i : Nat} (hi : i < l.length) (he : ∀ j, j < i → plc l x j = plc l y j) (hne : plc l x i ≠ plc l y i) : plc l x i < plc l y i ↔ x < y := by
  have e := quo_same h hx hy hx2 hy2 (by omega) he
  have e1 := quo_join h x hi
  have e2 := quo_join h y hi
  rw [e] at e1
  generalize quo l y i * l.getD i 0 = z at e1 e2
  have hD := h.drop (i + 1)
  constructor
  · intro hlt
    rcases Int.lt_or_le x y with h1 | h1
    · exact h1
    · have : quo l y (i + 1) ≤ quo l x (i + 1) := Int.ediv_le_ediv hD h1
      omega
  · intro hlt
    have : quo l x (i + 1) ≤ quo l y (i + 1) := Int.ediv_le_ediv hD (by omega)
    omega
theorem plc_same {l : List Int} (h : AllPos l) {x y : Int} (hx : 0 ≤ x) (hy : 0 ≤ y) (hx2 : x < pr l) (hy2 : y < pr l) (he : ∀ j, j < l.length → plc l x j = plc l y j) : x = y := by
  have := quo_same h hx hy hx2 hy2 (Nat.le_refl _) he
  rwa [quo_last, quo_last] at this
/-- The document's way: each place times what is behind its axis. -/
def sum (l t : List Int) : Nat → Int
  | 0 => 0
  | i + 1 => sum l t i + t.getD i 0 * pr (l.drop (i + 1))
theorem sum_hor {l t : List Int} {i : Nat} (hi : i ≤ l.length) : sum l t i = hor l t i * pr (l.drop i) := by
  induction i with
  | zero => simp [sum, hor]
  | succ i ih =>
    show sum l t i + t.getD i 0 * pr (l.drop (i + 1)) = (hor l t i * l.getD i 0 + t.getD i 0) * pr (l.drop (i + 1))
    rw [ih (by omega), pr_drop (by omega), Int.add_mul, Int.mul_assoc]
theorem sum_all (l t : List Int) : sum l t l.length = hor l t l.length := by rw [sum_hor (Nat.le_refl _)]; simp [pr]
end Go.Proofs.Ytfgjfncmldnlcaa

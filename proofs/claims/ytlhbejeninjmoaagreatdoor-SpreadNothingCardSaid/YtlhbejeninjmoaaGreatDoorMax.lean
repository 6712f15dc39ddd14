import Derived.Test.YtlhbejeninjmoaaGreatDoorMam
import Derived.Test.YtlhbejeninjmoaaGreatDoorMaw
import Derived.Deep.RegionLaw
import Derived.Deep.AppendLies
/-
  Signs done with the elements of arrays, pair by pair, in the document's words, and what follows.
-/
namespace Go.Proofs.YtlhbejeninjmoaaGreatDoor
set_option linter.unusedVariables false
set_option linter.unusedSimpArgs false

/-- The sign of kind k of each pair, in turn; the first error of these. -/
def spL (k : Nat) : List (Int × Int) → Option (List Int) × Int
  | [] => (some [], 0)
  | q :: r => match dyI k q.1 q.2 with
    | (some z, _) => match spL k r with
      | (some l, _) => (some (z :: l), 0)
      | (none, e) => (none, e)
    | (none, e) => (none, e)
/-- What the sign of kind k is of a pair where there is no error. -/
def dyZ (k : Nat) (q : Int × Int) : Int := ((dyI k q.1 q.2).1).getD 0
theorem dyI_ok {k : Nat} {x y z e : Int} (h : dyI k x y = (some z, e)) : e = 0 := by
  rcases @dyI_none k x y with ⟨h1, _⟩ | ⟨h1, _⟩
  · rw [h] at h1; exact h1
  · rw [h] at h1; cases h1
theorem dyI_no {k : Nat} {x y e : Int} (h : dyI k x y = (none, e)) : e = 1 ∨ e = 5 ∨ e = 8 := by
  rcases @dyI_none k x y with ⟨_, h1⟩ | ⟨_, h1⟩
  · rw [h] at h1; cases h1
  · rw [h] at h1; exact h1
theorem spL_ok {k : Nat} {ps : List (Int × Int)} {l : List Int} {e : Int} (h : spL k ps = (some l, e)) : e = 0 ∧ l = ps.map (dyZ k) ∧ ∀ q ∈ ps, dyI k q.1 q.2 = (some (dyZ k q), 0) := by
  induction ps generalizing l e with
  | nil => cases h; exact ⟨rfl, rfl, fun q hq => by cases hq⟩
  | cons q r ih =>
    obtain ⟨o, c, hd⟩ : ∃ o c, dyI k q.1 q.2 = (o, c) := ⟨_, _, rfl⟩
    obtain ⟨o', c', hs⟩ : ∃ o c, spL k r = (o, c) := ⟨_, _, rfl⟩
    unfold spL at h
    rw [hd] at h
    cases o with
    | none => simp at h
    | some z =>
      simp only [hs] at h
      cases o' with
      | none => simp at h
      | some l' =>
        simp only [Prod.mk.injEq, Option.some.injEq] at h
        obtain ⟨rfl, rfl⟩ := h
        obtain ⟨_, h2, h3⟩ := ih hs
        have hz : dyZ k q = z := by unfold dyZ; rw [hd]; rfl
        have hc := dyI_ok hd
        subst hc
        refine ⟨rfl, by rw [List.map_cons, hz, h2], ?_⟩
        intro q' hq'
        rcases List.mem_cons.1 hq' with rfl | h
        · rw [hz]; exact hd
        · exact h3 q' h
theorem spL_of {k : Nat} {ps : List (Int × Int)} (h : ∀ q ∈ ps, dyI k q.1 q.2 = (some (dyZ k q), 0)) : spL k ps = (some (ps.map (dyZ k)), 0) := by
  induction ps with
  | nil => rfl
  | cons q r ih =>
    unfold spL
    rw [h q (List.mem_cons_self ..), ih fun q' hq' => h q' (List.mem_cons_of_mem _ hq')]
    rfl
theorem spL_no {k : Nat} {ps : List (Int × Int)} {e : Int} (h : spL k ps = (none, e)) : e = 1 ∨ e = 5 ∨ e = 8 := by
  induction ps generalizing e with
  | nil => cases h
  | cons q r ih =>
    obtain ⟨o, c, hd⟩ : ∃ o c, dyI k q.1 q.2 = (o, c) := ⟨_, _, rfl⟩
    obtain ⟨o', c', hs⟩ : ∃ o c, spL k r = (o, c) := ⟨_, _, rfl⟩
    unfold spL at h
    rw [hd] at h
    cases o with
    | none =>
      simp only [Prod.mk.injEq, true_and] at h
      subst h
      exact dyI_no hd
    | some z =>
      simp only [hs] at h
      cases o' with
      | none =>
        simp only [Prod.mk.injEq, true_and] at h
        subst h
        exact ih hs
      | some l' => simp at h
/-- Some of the pairs: what comes out of them is among what comes out of all. -/
theorem spL_part {k : Nat} {ps qs : List (Int × Int)} {l : List Int} {e : Int} (h : spL k ps = (some l, e)) (hq : ∀ q ∈ qs, q ∈ ps) : spL k qs = (some (qs.map (dyZ k)), 0) :=
  spL_of fun q h' => (spL_ok h).2.2 q (hq q h')
theorem spL_len {k : Nat} {ps : List (Int × Int)} {l : List Int} {e : Int} (h : spL k ps = (some l, e)) : l.length = ps.length := by
  rw [(spL_ok h).2.1, List.length_map]
theorem spL_bd {k : Nat} {ps : List (Int × Int)} {l : List Int} {e : Int} (h : spL k ps = (some l, e)) (hb : ∀ q ∈ ps, q.1.natAbs < lim ∧ q.2.natAbs < lim) : ∀ z ∈ l, z.natAbs < lim := by
  obtain ⟨_, rfl, h3⟩ := spL_ok h
  intro z hz
  obtain ⟨q, hq, rfl⟩ := List.mem_map.1 hz
  exact dyI_bd (hb q hq).1 (hb q hq).2 _ (congrArg Prod.fst (h3 q hq))
/-- The other way round. -/
theorem dyI_turn {k : Nat} (hk : k = 0 ∨ k = 2 ∨ k = 5 ∨ k = 6 ∨ k = 9 ∨ k = 10) (x y : Int) : dyI k x y = dyI k y x := by
  rcases hk with h | h | h | h | h | h <;> subst h <;> simp only [dyI]
  · rw [Int.add_comm]
  · rw [Int.mul_comm]
  · congr 2; split <;> split <;> omega
  · congr 2; split <;> split <;> omega
  · congr 3; exact decide_eq_decide.2 ⟨fun h => h.symm, fun h => h.symm⟩
  · congr 4; exact decide_eq_decide.2 ⟨fun h => h.symm, fun h => h.symm⟩
theorem spL_turn {k : Nat} (hk : k = 0 ∨ k = 2 ∨ k = 5 ∨ k = 6 ∨ k = 9 ∨ k = 10) (ps : List (Int × Int)) : spL k (ps.map Prod.swap) = spL k ps := by
  induction ps with
  | nil => rfl
  | cons q r ih =>
    rw [List.map_cons]
    unfold spL
    rw [ih, show dyI k q.swap.1 q.swap.2 = dyI k q.1 q.2 from dyI_turn hk _ _]
/-- A difference is the opposite. -/
theorem spL_minus (ps : List (Int × Int)) : (∃ l, spL 1 ps = (some l, 0) ∧ spL 1 (ps.map Prod.swap) = (some (l.map (fun z => -z)), 0)) ∨ ∃ e, e ≠ 0 ∧ spL 1 ps = (none, e) ∧ spL 1 (ps.map Prod.swap) = (none, e) := by
  induction ps with
  | nil => exact .inl ⟨[], rfl, rfl⟩
  | cons q r ih =>
    have hlt : (q.2 - q.1).natAbs = (q.1 - q.2).natAbs := by omega
    by_cases h : (q.1 - q.2).natAbs < lim
    · have e1 : dyI 1 q.1 q.2 = (some (q.1 - q.2), 0) := by simp only [dyI, tlI]; rw [if_pos h]
      have e2 : dyI 1 q.swap.1 q.swap.2 = (some (-(q.1 - q.2)), 0) := by
        simp only [dyI, tlI, Prod.fst_swap, Prod.snd_swap]
        rw [if_pos (by rw [hlt]; exact h), Int.neg_sub]
      rcases ih with ⟨l, h1, h2⟩ | ⟨e, h0, h1, h2⟩
      · refine .inl ⟨(q.1 - q.2) :: l, ?_, ?_⟩
        · unfold spL; rw [e1, h1]
        · rw [List.map_cons]; unfold spL; rw [e2, h2]; rfl
      · refine .inr ⟨e, h0, ?_, ?_⟩
        · unfold spL; rw [e1, h1]
        · rw [List.map_cons]; unfold spL; rw [e2, h2]
    · have e1 : dyI 1 q.1 q.2 = (none, 8) := by simp only [dyI, tlI]; rw [if_neg h]
      have e2 : dyI 1 q.swap.1 q.swap.2 = (none, 8) := by
        simp only [dyI, tlI, Prod.fst_swap, Prod.snd_swap]
        rw [if_neg (by rw [hlt]; exact h)]
      refine .inr ⟨8, by decide, ?_, ?_⟩
      · unfold spL; rw [e1]
      · rw [List.map_cons]; unfold spL; rw [e2]
/-- An array with itself: zeros, itself everywhere, the lesser and the greater one of itself. -/
theorem spL_self (xs : List Int) : spL 1 (xs.map fun x => (x, x)) = (some (xs.map fun _ => 0), 0) ∧ spL 9 (xs.map fun x => (x, x)) = (some (xs.map fun _ => 1), 0) ∧ spL 10 (xs.map fun x => (x, x)) = (some (xs.map fun _ => 0), 0) ∧ spL 5 (xs.map fun x => (x, x)) = (some xs, 0) ∧ spL 6 (xs.map fun x => (x, x)) = (some xs, 0) := by
  have hl := lim_big
  induction xs with
  | nil => exact ⟨rfl, rfl, rfl, rfl, rfl⟩
  | cons x r ih =>
    obtain ⟨h1, h2, h3, h4, h5⟩ := ih
    have e1 : dyI 1 x x = (some 0, 0) := by simp only [dyI, tlI, Int.sub_self]; rw [if_pos (by simp; omega)]
    have e2 : dyI 9 x x = (some 1, 0) := by simp [dyI, bI]
    have e3 : dyI 10 x x = (some 0, 0) := by simp [dyI, bI]
    have e4 : dyI 5 x x = (some x, 0) := by simp [dyI]
    have e5 : dyI 6 x x = (some x, 0) := by simp [dyI]
    refine ⟨?_, ?_, ?_, ?_, ?_⟩ <;> rw [List.map_cons] <;> unfold spL
    · rw [e1, h1]; rfl
    · rw [e2, h2]; rfl
    · rw [e3, h3]; rfl
    · rw [e4, h4]
    · rw [e5, h5]
/-- The sign of kind k of each element. -/
def mnZ (k : Nat) (x : Int) : Int := ((mnI k x).1).getD 0
theorem mnI_ok {k : Nat} (hk : k < 3) (x : Int) : mnI k x = (some (mnZ k x), 0) := by
  rcases (by omega : k = 0 ∨ k = 1 ∨ k = 2) with h | h | h <;> subst h <;> rfl
theorem mn_twice (x : Int) : mnZ 0 (mnZ 0 x) = x ∧ mnZ 2 (mnZ 2 x) = mnZ 2 x ∧ mnZ 1 (mnZ 1 (mnZ 1 x)) = mnZ 1 x := by
  refine ⟨by simp [mnZ, mnI], ?_, ?_⟩
  · simp only [mnZ, mnI, Option.getD_some]
    exact Int.sign_sign
  · by_cases h : x = 0 <;> simp [mnZ, mnI, bI, h]
end Go.Proofs.YtlhbejeninjmoaaGreatDoor
/-
  The pairs of two arrays' elements: of an array of no axis its only one; of items, the other way round, of an array with itself.
-/
namespace Go.Proofs.YtlhbejeninjmoaaGreatDoor
set_option linter.unusedVariables false
set_option linter.unusedSimpArgs false

/-- The pairs of n places; u, v: is it an array of no axis. -/
def prs (u v : Bool) (xs ys : List Int) (n : Nat) : List (Int × Int) := (List.range n).map fun i => (xs.getD (if u then 0 else i) 0, ys.getD (if v then 0 else i) 0)
theorem prs_length {u v : Bool} {xs ys : List Int} {n : Nat} : (prs u v xs ys n).length = n := by simp [prs]
theorem prs_get {u v : Bool} {xs ys : List Int} {n i : Nat} (h : i < (prs u v xs ys n).length) : (prs u v xs ys n)[i] = (xs.getD (if u then 0 else i) 0, ys.getD (if v then 0 else i) 0) := by
  simp [prs]
theorem prs_swap {u v : Bool} {xs ys : List Int} {n : Nat} : (prs u v xs ys n).map Prod.swap = prs v u ys xs n := by
  simp [prs, Function.comp_def]
theorem prs_self {u : Bool} {xs : List Int} {n : Nat} (hn : n = xs.length) (hu : u = true → n ≤ 1) : prs u u xs xs n = xs.map fun x => (x, x) := by
  subst hn
  apply List.ext_getElem
  · simp [prs]
  · intro i h1 h2
    have hi : i < xs.length := by simpa [prs] using h1
    have e : (if u then 0 else i) = i := by
      cases u with
      | false => rfl
      | true => have := hu rfl; simp; omega
    rw [prs_get, e, List.getElem_map]
    simp [List.getD_eq_getElem?_getD, List.getElem?_eq_getElem hi]
/-- An item of each: of an array of no axis itself. -/
def itm (u : Bool) (xs : List Int) (k i : Nat) : List Int := if u then xs else (xs.drop (i * k)).take k
theorem itm_at {u u' : Bool} {xs : List Int} {k i j : Nat} (hj : j < k) (h1 : u = true → u' = true) (h2 : u = false → u' = true → k = 1) : (itm u xs k i).getD (if u' then 0 else j) 0 = xs.getD (if u then 0 else i * k + j) 0 := by
  cases u with
  | true => rw [h1 rfl]; rfl
  | false =>
    have e : (if u' then 0 else j) = j := by
      cases u' with
      | false => rfl
      | true => have := h2 rfl rfl; simp; omega
    rw [e]
    simp only [itm, Bool.false_eq_true, if_false, List.getD_eq_getElem?_getD]
    rw [List.getElem?_take_of_lt hj, List.getElem?_drop]
theorem prs_item {u v u' v' : Bool} {xs ys : List Int} {n k i : Nat} (h : (i + 1) * k ≤ n) (h1 : u = true → u' = true) (h2 : u = false → u' = true → k = 1) (h3 : v = true → v' = true) (h4 : v = false → v' = true → k = 1) :
    ((prs u v xs ys n).drop (i * k)).take k = prs u' v' (itm u xs k i) (itm v ys k i) k := by
  have e : (i + 1) * k = i * k + k := by rw [Nat.add_mul]; omega
  apply List.ext_getElem
  · simp only [List.length_take, List.length_drop, prs_length]; omega
  · intro j g1 g2
    have hj : j < k := by rw [prs_length] at g2; exact g2
    rw [List.getElem_take, List.getElem_drop, prs_get, prs_get, itm_at hj h1 h2, itm_at hj h3 h4]
/-- What comes out of an item is the item of what comes out. -/
theorem spL_item {s : Nat} {u v u' v' : Bool} {xs ys : List Int} {n k i : Nat} (h : (i + 1) * k ≤ n) (h1 : u = true → u' = true) (h2 : u = false → u' = true → k = 1) (h3 : v = true → v' = true) (h4 : v = false → v' = true → k = 1) {l : List Int} {e : Int} (hs : spL s (prs u v xs ys n) = (some l, e)) :
    spL s (prs u' v' (itm u xs k i) (itm v ys k i) k) = (some ((l.drop (i * k)).take k), 0) := by
  rw [← prs_item h h1 h2 h3 h4, spL_part hs (fun q hq => List.mem_of_mem_drop (List.mem_of_mem_take hq)), (spL_ok hs).2.1, List.map_take, List.map_drop]
theorem prs_bd {u v : Bool} {xs ys : List Int} {n : Nat} (hx : ∀ x ∈ xs, x.natAbs < lim) (hy : ∀ y ∈ ys, y.natAbs < lim) : ∀ q ∈ prs u v xs ys n, q.1.natAbs < lim ∧ q.2.natAbs < lim := by
  have g : ∀ (l : List Int) (j : Nat), (∀ x ∈ l, x.natAbs < lim) → (l.getD j 0).natAbs < lim := by
    intro l j hl
    rw [List.getD_eq_getElem?_getD]
    cases e : l[j]? with
    | none => simp; exact lim_pos
    | some x => exact hl x (List.mem_of_getElem? e)
  intro q hq
  obtain ⟨i, _, rfl⟩ := List.mem_map.1 hq
  exact ⟨g _ _ hx, g _ _ hy⟩
/-- The elements of an array as numbers. -/
theorem nums_of {es : List ByteArray} (h : ∀ s ∈ es, mayL s.data.toList = true) : ∃ xs : List Int, es = xs.map S ∧ ∀ x ∈ xs, x.natAbs < lim := by
  induction es with
  | nil => exact ⟨[], rfl, fun x hx => by cases hx⟩
  | cons s r ih =>
    obtain ⟨xs, h1, h2⟩ := ih fun t ht => h t (List.mem_cons_of_mem _ ht)
    obtain ⟨x, hx, hl⟩ := mayL_is (h s (List.mem_cons_self ..))
    have e : s = S x := by
      obtain ⟨⟨d⟩⟩ := s
      show _ = (⟨(Lib.itoa x).toArray⟩ : ByteArray)
      have : d = Lib.itoa x := hx
      rw [this]
    refine ⟨x :: xs, by rw [h1, e]; rfl, ?_⟩
    intro y hy
    rcases List.mem_cons.1 hy with rfl | hy
    · exact hl
    · exact h2 y hy
end Go.Proofs.YtlhbejeninjmoaaGreatDoor
/-
  Signs done with arrays, in the document's words, and what follows. (An array: its axes, and its elements as numbers; or none, if it may not be.)
-/
namespace Go.Proofs.YtlhbejeninjmoaaGreatDoor
set_option linter.unusedVariables false
set_option linter.unusedSimpArgs false

/-- What two shapes are together: the error, the shape. -/
def meE (l k : List Int) : Int := if l = k ∨ k = [] ∨ l = [] then 0 else 4
def meV (l k : List Int) : List Int := if l = k ∨ k = [] then l else if l = [] then k else []
/-- How many elements axes have. -/
def prD : List Int → Int
  | [] => 1
  | x :: r => x * prD r
abbrev Ar := List Int × List Int
def nx (l : List Int) : Bool := decide (l = [])
def dyA (k : Nat) : Option Ar → Option Ar → Option Ar × Int
  | some (l, xs), some (m, ys) => if ¬ k < 11 then (none, 1) else if meE l m ≠ 0 then (none, meE l m) else
    match spL k (prs (nx l) (nx m) xs ys (prD (meV l m)).toNat) with
    | (some zs, _) => (some (meV l m, zs), 0)
    | (none, e) => (none, e)
  | _, _ => (none, 1)
def mnA (k : Nat) : Option Ar → Option Ar × Int
  | some (l, xs) => if ¬ k < 3 then (none, 1) else (some (l, xs.map (mnZ k)), 0)
  | none => (none, 1)
theorem meE_cases (l k : List Int) : meE l k = 0 ∨ meE l k = 4 := by unfold meE; split <;> simp
theorem meE_turn (l k : List Int) : meE l k = meE k l := by
  unfold meE
  by_cases h : l = k
  · subst h; rfl
  · have h' : ¬ k = l := fun e => h e.symm
    simp only [h, h', false_or]
    by_cases h1 : k = [] <;> by_cases h2 : l = [] <;> simp [h1, h2]
theorem meV_turn {l k : List Int} (h : meE l k = 0) : meV l k = meV k l := by
  unfold meE at h
  unfold meV
  by_cases h0 : l = k
  · subst h0; rfl
  · have h' : ¬ k = l := fun e => h0 e.symm
    simp only [h0, h', false_or] at h ⊢
    by_cases h1 : k = [] <;> by_cases h2 : l = [] <;> simp_all
theorem meV_self (l : List Int) : meV l l = l ∧ meE l l = 0 := by simp [meV, meE]
theorem meE_4 {l k : List Int} : meE l k = 4 ↔ (l ≠ [] ∧ k ≠ [] ∧ l ≠ k) := by
  unfold meE
  by_cases h : l = k ∨ k = [] ∨ l = []
  · rw [if_pos h]
    constructor
    · intro e; exact absurd e (by decide)
    · rintro ⟨h1, h2, h3⟩
      rcases h with h | h | h
      · exact absurd h h3
      · exact absurd h h2
      · exact absurd h h1
  · rw [if_neg h]
    simp only [not_or] at h
    exact ⟨fun _ => ⟨h.2.2, h.2.1, h.1⟩, fun _ => rfl⟩
theorem dyA_two {k : Nat} (hk : k < 11) {l m xs ys : List Int} (h : meE l m = 0) : dyA k (some (l, xs)) (some (m, ys)) = (match spL k (prs (nx l) (nx m) xs ys (prD (meV l m)).toNat) with
    | (some zs, _) => (some (meV l m, zs), 0)
    | (none, e) => (none, e)) := by
  simp only [dyA]
  rw [if_neg (by omega), if_neg (by simp [h])]
theorem dyA_shape {k : Nat} (hk : k < 11) {l m xs ys : List Int} (h : meE l m ≠ 0) : dyA k (some (l, xs)) (some (m, ys)) = (none, 4) := by
  have h4 : meE l m = 4 := by rcases meE_cases l m with g | g; exact absurd g h; exact g
  simp only [dyA]
  rw [if_neg (by omega), if_pos h, h4]
theorem dyA_none {k : Nat} (hk : ¬ k < 11) (p q : Option Ar) : dyA k p q = (none, 1) := by
  cases p <;> cases q <;> simp only [dyA]
  rw [if_pos hk]
theorem dyA_arg {k : Nat} {p q : Option Ar} (h : (p.isSome && q.isSome) = false) : dyA k p q = (none, 1) := by
  cases p <;> cases q <;> first | rfl | exact absurd h (by simp)
/-- With an error there is none, without one there is an array. -/
theorem dyA_end (k : Nat) (p q : Option Ar) : ((dyA k p q).2 = 0 ∧ (dyA k p q).1.isSome = true) ∨ ((dyA k p q).1 = none ∧ ((dyA k p q).2 = 1 ∨ (dyA k p q).2 = 4 ∨ (dyA k p q).2 = 5 ∨ (dyA k p q).2 = 8)) := by
  by_cases hk : k < 11
  · cases p with
    | none => exact .inr ⟨rfl, .inl rfl⟩
    | some a =>
    cases q with
    | none => exact .inr ⟨rfl, .inl rfl⟩
    | some b =>
    obtain ⟨l, xs⟩ := a
    obtain ⟨m, ys⟩ := b
    by_cases hm : meE l m = 0
    · rw [dyA_two hk hm]
      generalize hs : spL k _ = r
      obtain ⟨o, e⟩ := r
      cases o with
      | none => rcases spL_no hs with h | h | h <;> subst h <;> simp
      | some zs => exact .inl ⟨rfl, rfl⟩
    · rw [dyA_shape hk hm]; simp
  · rw [dyA_none hk]; simp
/-- Sums, products, lesser and greater ones, and whether two are the same: the other way round. -/
theorem dyA_turn {k : Nat} (hk : k = 0 ∨ k = 2 ∨ k = 5 ∨ k = 6 ∨ k = 9 ∨ k = 10) (p q : Option Ar) : dyA k p q = dyA k q p := by
  have hk' : k < 11 := by omega
  cases p with
  | none => cases q <;> rfl
  | some a =>
  cases q with
  | none => rfl
  | some b =>
  obtain ⟨l, xs⟩ := a
  obtain ⟨m, ys⟩ := b
  by_cases hm : meE l m = 0
  · rw [dyA_two hk' hm, dyA_two hk' (by rw [← meE_turn]; exact hm), ← meV_turn hm, ← prs_swap, spL_turn hk]
  · rw [dyA_shape hk' hm, dyA_shape hk' (by rw [← meE_turn]; exact hm)]
/-- A difference is the opposite the other way round. -/
theorem dyA_minus (p q : Option Ar) : (∃ s l, dyA 1 p q = (some (s, l), 0) ∧ dyA 1 q p = (some (s, l.map fun z => -z), 0)) ∨ ∃ e, e ≠ 0 ∧ dyA 1 p q = (none, e) ∧ dyA 1 q p = (none, e) := by
  cases p with
  | none => cases q <;> exact .inr ⟨1, by decide, rfl, rfl⟩
  | some a =>
  cases q with
  | none => exact .inr ⟨1, by decide, rfl, rfl⟩
  | some b =>
  obtain ⟨l, xs⟩ := a
  obtain ⟨m, ys⟩ := b
  by_cases hm : meE l m = 0
  · rw [dyA_two (by decide) hm, dyA_two (by decide) (by rw [← meE_turn]; exact hm), ← meV_turn hm, ← prs_swap (u := nx l)]
    rcases spL_minus (prs (nx l) (nx m) xs ys (prD (meV l m)).toNat) with ⟨z, h1, h2⟩ | ⟨e, h0, h1, h2⟩
    · rw [h1, h2]; exact .inl ⟨_, _, rfl, rfl⟩
    · rw [h1, h2]; exact .inr ⟨e, h0, rfl, rfl⟩
  · rw [dyA_shape (by decide) hm, dyA_shape (by decide) (by rw [← meE_turn]; exact hm)]
    exact .inr ⟨4, by decide, rfl, rfl⟩
/-- What has no element comes out so. -/
theorem dyA_nothing {k : Nat} (hk : k < 11) : dyA k (some ([0], [])) (some ([], [0])) = (some ([0], []), 0) := by
  rw [dyA_two hk (by decide)]
  have e : (prD (meV [0] [])).toNat = 0 := by decide
  rw [e]
  rfl
theorem dyA_apart {k : Nat} (hk : k < 11) {l m xs ys : List Int} : (dyA k (some (l, xs)) (some (m, ys))).2 = 4 ↔ (l ≠ [] ∧ m ≠ [] ∧ l ≠ m) := by
  rw [← meE_4]
  by_cases hm : meE l m = 0
  · rw [dyA_two hk hm]
    generalize hs : spL k _ = r
    obtain ⟨o, e⟩ := r
    rw [hm]
    cases o with
    | none => rcases spL_no hs with h | h | h <;> subst h <;> simp
    | some zs => simp
  · rw [dyA_shape hk hm]
    rcases meE_cases l m with g | g
    · exact absurd g hm
    · simp [g]
/-- An array with itself. -/
theorem dyA_self {l xs : List Int} (hx : (xs.length : Int) = prD l) : dyA 1 (some (l, xs)) (some (l, xs)) = (some (l, xs.map fun _ => 0), 0) ∧ dyA 9 (some (l, xs)) (some (l, xs)) = (some (l, xs.map fun _ => 1), 0) ∧ dyA 10 (some (l, xs)) (some (l, xs)) = (some (l, xs.map fun _ => 0), 0)
    ∧ dyA 5 (some (l, xs)) (some (l, xs)) = (some (l, xs), 0) ∧ dyA 6 (some (l, xs)) (some (l, xs)) = (some (l, xs), 0) := by
  obtain ⟨hv, he⟩ := meV_self l
  have hn : (prD (meV l l)).toNat = xs.length := by rw [hv]; omega
  have hp : prs (nx l) (nx l) xs xs (prD (meV l l)).toNat = xs.map fun x => (x, x) := by
    rw [hn]
    refine prs_self rfl fun h => ?_
    have : l = [] := by simpa [nx] using h
    rw [this] at hx
    simp only [prD] at hx
    omega
  obtain ⟨h1, h2, h3, h4, h5⟩ := spL_self xs
  refine ⟨?_, ?_, ?_, ?_, ?_⟩ <;> rw [dyA_two (by decide) he, hp, hv]
  · rw [h1]
  · rw [h2]
  · rw [h3]
  · rw [h4]
  · rw [h5]
/-- An item of an array: of one of no axis itself. -/
def itA (l xs : List Int) (i : Nat) : Ar := if l = [] then (l, xs) else (l.tail, (xs.drop (i * (prD l.tail).toNat)).take (prD l.tail).toNat)
theorem meV_tail {l m : List Int} (h : meE l m = 0) (hs : meV l m ≠ []) : (l = [] ∨ l = meV l m) ∧ (m = [] ∨ m = meV l m) ∧ meE l.tail m.tail = 0 ∧ meV l.tail m.tail = (meV l m).tail := by
  unfold meE at h
  unfold meV at hs ⊢
  unfold meE
  by_cases h0 : l = m
  · subst h0; simp
  · by_cases h1 : m = []
    · subst h1; simp
    · by_cases h2 : l = []
      · subst h2; simp [h0, h1]
      · simp [h0, h1, h2] at h
/-- What comes out of the items is the item of what comes out. -/
theorem dyA_items {k : Nat} {l m xs ys s zs : List Int} {i : Nat} (h : dyA k (some (l, xs)) (some (m, ys)) = (some (s, zs), 0)) (hs : s ≠ []) (hi : (i : Int) < s.getD 0 0) (h0 : ∀ x ∈ s, 0 ≤ x) :
    dyA k (some (itA l xs i)) (some (itA m ys i)) = (some (itA s zs i), 0) := by
  have hk : k < 11 := by
    by_cases hk : k < 11
    · exact hk
    · rw [dyA_none hk] at h; cases h
  have hm : meE l m = 0 := by
    by_cases hm : meE l m = 0
    · exact hm
    · rw [dyA_shape hk hm] at h; cases h
  rw [dyA_two hk hm] at h
  generalize hsp : spL k (prs (nx l) (nx m) xs ys (prD (meV l m)).toNat) = r at h
  obtain ⟨o, e⟩ := r
  cases o with
  | none => cases h
  | some z =>
  simp only [Prod.mk.injEq, Option.some.injEq, and_true] at h
  obtain ⟨h1, rfl⟩ := h
  obtain ⟨g1, g2, g3, g4⟩ := meV_tail hm (by rw [h1]; exact hs)
  rw [h1] at g1 g2 g4 hsp
  obtain ⟨x, r, rfl⟩ : ∃ x r, s = x :: r := by
    cases s with
    | nil => exact absurd rfl hs
    | cons x r => exact ⟨x, r, rfl⟩
  have hx : (i : Int) < x := hi
  have hr : 0 ≤ prD r := by
    have : ∀ t : List Int, (∀ x ∈ t, 0 ≤ x) → 0 ≤ prD t := by
      intro t
      induction t with
      | nil => intro _; exact (by decide : (0 : Int) ≤ 1)
      | cons y t ih => intro hy; exact Int.mul_nonneg (hy y (List.mem_cons_self ..)) (ih fun z hz => hy z (List.mem_cons_of_mem _ hz))
    exact this r fun y hy => h0 y (List.mem_cons_of_mem _ hy)
  obtain ⟨kk, hkk⟩ : ∃ kk : Nat, prD r = kk := ⟨(prD r).toNat, by omega⟩
  have hle : (i + 1) * kk ≤ (prD (x :: r)).toNat := by
    show _ ≤ (x * prD r).toNat
    rw [hkk]
    have : ((i : Int) + 1) * kk ≤ x * kk := Int.mul_le_mul_of_nonneg_right (by omega) (by omega)
    have e2 : (((i + 1) * kk : Nat) : Int) = ((i : Int) + 1) * kk := by rw [Int.natCast_mul]; rfl
    omega
  have side : ∀ t : List Int, (t = [] ∨ t = x :: r) → (nx t = true → nx t.tail = true) ∧ (nx t = false → nx t.tail = true → kk = 1) := by
    intro t ht
    rcases ht with rfl | rfl
    · exact ⟨fun h => h, fun h => by simp [nx] at h⟩
    · refine ⟨fun h => by simp [nx] at h, fun _ h => ?_⟩
      have : r = [] := of_decide_eq_true h
      subst this
      have : (1 : Int) = kk := hkk
      omega
  have cut : ∀ (t us : List Int), (t = [] ∨ t = x :: r) → itA t us i = (t.tail, itm (nx t) us kk i) := by
    intro t us ht
    rcases ht with rfl | rfl
    · simp [itA, nx, itm]
    · simp only [itA, nx, itm, List.tail_cons, hkk, Int.toNat_natCast]
      simp
  rw [cut l xs g1, cut m ys g2, dyA_two hk g3, g4, List.tail_cons]
  have := spL_item hle (side l g1).1 (side l g1).2 (side m g2).1 (side m g2).2 hsp
  rw [show (prD r).toNat = kk by omega, this]
  simp only [itA, List.tail_cons, hkk, Int.toNat_natCast]
  simp
end Go.Proofs.YtlhbejeninjmoaaGreatDoor
/-
  Arrays as what signs are done with: their axes, and their elements as numbers; or none, if they may not be. What is appended to an array's elements, one by one.
-/
namespace Go.Proofs.YtlhbejeninjmoaaGreatDoor
set_option linter.unusedVariables false
set_option linter.unusedSimpArgs false
open Go.RowKit

theorem prD_is : ∀ l : List Int, prD l = pr l
  | [] => rfl
  | x :: r => by show x * prD r = x * pr r; rw [prD_is r]
/-- What an array is: these axes and numbers, or none. -/
def AIs (l : List Int) (es : List ByteArray) : Option Ar → Prop
  | some q => q.1 = l ∧ es = q.2.map S ∧ MayVl l es ∧ ∀ x ∈ q.2, x.natAbs < lim
  | none => mayV l es = false
theorem ais_ex (l : List Int) (es : List ByteArray) : ∃ o, AIs l es o := by
  cases h : mayV l es
  · exact ⟨none, h⟩
  · have hm := mayV_yes.1 h
    obtain ⟨xs, h1, h2⟩ := nums_of (es := es) fun s hs => by
      obtain ⟨j, hj, rfl⟩ := List.getElem_of_mem hs
      have := hm.all j hj
      rwa [List.getD_eq_getElem?_getD, List.getElem?_eq_getElem hj] at this
    exact ⟨some (l, xs), rfl, h1, hm, h2⟩
theorem AIs.may {l : List Int} {es : List ByteArray} {o : Option Ar} (h : AIs l es o) : mayV l es = o.isSome := by
  cases o with
  | none => exact h
  | some q => exact mayV_yes.2 h.2.2.1
/-- The axes and the elements that are told. -/
def TS (o : Option Ar) : List Int × List ByteArray := match o with
  | some q => (q.1, q.2.map S)
  | none => ([], [])
/-- An array and an error are told, new, and nothing that was there has turned. -/
def AEnd (l : List Int) (es : List ByteArray) (ec : Int) (W : World) (e : Ending) (W' : World) : Prop :=
  ∃ a n c b m d, e = .returned (.tuple #[.agg #[.slice a n c, .slice b m d], .int .i64 ec]) ∧ Vl W' a n b m l es ∧ Cp n c m d ∧ Below W.heap.size W W'
theorem valsS_snoc (l : List ByteArray) (s : ByteArray) : valsS (l ++ [s]) = valsS l ++ [.string s] := by simp [valsS]
theorem Bx.newG (W : World) (g : Nat) (hg : g = W.heap.size) (a : Option Addr) (n c : Nat) (b : Option Addr) (m d : Nat) : Bx (W.alloc (.cells #[.slice a n c, .slice b m d] 25)) g a n c b m d := by rw [hg]; exact Bx.new W a n c b m d
theorem Bx.set1 {W : World} {g : Nat} {a : Option Addr} {n c : Nat} {b : Option Addr} {m d : Nat} (h : Bx W g a n c b m d) (b' : Option Addr) (m' d' : Nat) : Bx (W.setCell ⟨g, 1, none⟩ (.slice b' m' d')) g a n c b' m' d' := by
  unfold Bx at h ⊢
  simp [World.setCell, Array.getElem?_modify, h]
theorem own_set {w : World} {B n : Nat} {e : TypeId} {v : Value} {xs : List Value} (h : w.ownsRow B e 1 v n xs) {p : Addr} (hp : p.block < B) (u : Value) : (w.setCell p u).ownsRow B e 1 v n xs := by
  refine ⟨h.1, ?_⟩
  rcases h.2 with h0 | ⟨g, cap, cur, e1, e2, hg, h2⟩
  · exact .inl h0
  · exact .inr ⟨g, cap, cur, e1, e2, (Below.heap_setCell _ _ _ g (by omega)).trans hg, h2⟩
/-- 'append(l, f(x))' of texts, as one step of a region that draws. -/
theorem step_push_s {ops : Array Oper} {o : Oper} {a : Act} {K : Act → World → Prop} {Q : Exit → Act → World → Prop} {E : Prop} {w : World} (wr : World) (s x : Operand) (base : Nat) (av : Option Addr) (n cv : Nat) (xs : List Value) (v : ByteArray)
    (ho : o.op = .call { callee := .builtin .append, args := #[s, x], argTypes := #[23, 23] }) (hgd : o.guard = none)
    (hs : a.eval s = .slice av n cv) (hx : a.eval x = .slice (some ⟨wr.heap.size, 0, none⟩) 1 1) (hh : w.heap = wr.heap.push (.cells #[.string v] 9)) (h1 : w.os = wr.os) (h2 : w.tape = wr.tape) (h3 : w.output = wr.output)
    (hown : wr.ownsRow base 9 1 (.slice av n cv) n xs) (hbase : base ≤ wr.heap.size) (hn : n ≤ 5000)
    (h : ∀ av' cv' w', w'.ownsRow base 9 1 (.slice av' (n + 1) cv') (n + 1) (xs ++ [.string v]) → Below base wr w' → K (a.put o.dst (.slice av' (n + 1) cv')) w') :
    if Region.wanted o (yielded ops a.tmps) = true then Oper.wp Tryz.prog o a w K Q else E := by
  obtain ⟨i0, hi, hz0, hz1, hz2⟩ := info_parts infoStr
  have hown2 : w.ownsRow base 9 1 (.slice av n cv) n xs := by
    have h4 := hown.alloc (.cells #[.string v] 9)
    unfold World.ownsRow at h4 ⊢
    rw [hh]
    exact h4
  have hb2 : Below base wr w := by
    have h4 := (Below.refl base wr).alloc hbase (.cells #[.string v] 9)
    exact ⟨h1, h2, h3, by rw [hh]; exact h4.size, fun k hk => by rw [hh]; exact h4.block k hk⟩
  refine step_append_lies w hgd s x 23 ho base 9 i0 (.string ⟨#[]⟩) 1 16 Tryz.underlying23 hi hz0 hz1 hz2 rfl (by decide) _ _ _ hs hown2 ⟨wr.heap.size, 0, none⟩ 1 1 [.string v] hx rfl ?_ ?_ (by decide) (by unfold maxLen; omega) (by omega) (by rw [hh, Array.size_push]; omega) _ rfl ?_
  · exact World.news_of_block (t := 9) (fr := (0, 0)) (cs := #[.string v]) (by rw [hh]; simp)
  · intro u hu
    rw [List.mem_singleton] at hu
    rw [hu]; rfl
  · intro g cap w' o1 o2 _ _
    exact h _ _ w' o1 (hb2.grown o2 (by rw [hh, Array.size_push]; omega) (fun q hq => (hown2.lt q hq).1))
end Go.Proofs.YtlhbejeninjmoaaGreatDoor

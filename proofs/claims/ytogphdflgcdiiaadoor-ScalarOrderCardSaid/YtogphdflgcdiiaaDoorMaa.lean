import Derived.Lib.ItoaNum
/-
  Plain facts on lists of parts (base 10^9, the least one first): their value, what is left without zeros at the end, and which of two is greater. Nothing of any program.
-/
namespace Go.Proofs.YtogphdflgcdiiaaDoor
set_option linter.unusedVariables false
set_option linter.unusedSimpArgs false

/-! ### Values of lists of parts -/
def val : List Nat → Nat
  | [] => 0
  | a :: r => a + 1000000000 * val r
def Ok (l : List Nat) : Prop := ∀ p ∈ l, p < 1000000000
def trim : List Nat → List Nat
  | [] => []
  | a :: r => if trim r = [] ∧ a = 0 then [] else a :: trim r
def Norm (l : List Nat) : Prop := trim l = l

theorem val_nil : val [] = 0 := rfl
theorem val_cons (a : Nat) (r : List Nat) : val (a :: r) = a + 1000000000 * val r := rfl
theorem val_append (l m : List Nat) : val (l ++ m) = val l + 1000000000 ^ l.length * val m := by
  induction l with
  | nil => simp [val]
  | cons a r ih => simp only [List.cons_append, val, ih, List.length_cons, Nat.pow_succ]; rw [Nat.mul_add, ← Nat.mul_assoc, Nat.mul_comm (1000000000 ^ r.length) 1000000000]; omega
theorem val_snoc (l : List Nat) (a : Nat) : val (l ++ [a]) = val l + 1000000000 ^ l.length * a := by rw [val_append]; simp [val]
theorem val_zeros (n : Nat) : val (List.replicate n 0) = 0 := by
  induction n with
  | zero => rfl
  | succ n ih => simp [List.replicate_succ, val, ih]
theorem ok_cons {a : Nat} {r : List Nat} : Ok (a :: r) ↔ a < 1000000000 ∧ Ok r := by simp [Ok]
theorem ok_append {l m : List Nat} : Ok (l ++ m) ↔ Ok l ∧ Ok m := by
  simp only [Ok, List.mem_append]
  exact ⟨fun h => ⟨fun p hp => h p (.inl hp), fun p hp => h p (.inr hp)⟩, fun h p hp => hp.elim (h.1 p) (h.2 p)⟩
theorem ok_nil : Ok [] := by simp [Ok]
theorem ok_take {l : List Nat} (h : Ok l) (k : Nat) : Ok (l.take k) := fun p hp => h p (List.mem_of_mem_take hp)
theorem ok_drop {l : List Nat} (h : Ok l) (k : Nat) : Ok (l.drop k) := fun p hp => h p (List.mem_of_mem_drop hp)
theorem ok_get {l : List Nat} (h : Ok l) {i : Nat} (hi : i < l.length) : l[i] < 1000000000 := h _ (List.getElem_mem hi)
theorem ok_getD {l : List Nat} (h : Ok l) (i : Nat) : l.getD i 0 < 1000000000 := by
  by_cases hi : i < l.length
  · rw [List.getD_eq_getElem?_getD, List.getElem?_eq_getElem hi]; exact h _ (List.getElem_mem hi)
  · rw [List.getD_eq_getElem?_getD, List.getElem?_eq_none (by omega)]; decide
theorem val_lt {l : List Nat} (h : Ok l) : val l < 1000000000 ^ l.length := by
  induction l with
  | nil => simp [val]
  | cons a r ih =>
    obtain ⟨h1, h2⟩ := ok_cons.1 h
    have := ih h2
    rw [val_cons, List.length_cons, Nat.pow_succ]
    omega
theorem trim_nil : trim [] = [] := rfl
theorem trim_snoc_zero (l : List Nat) : trim (l ++ [0]) = trim l := by
  induction l with
  | nil => simp [trim]
  | cons a r ih => simp only [List.cons_append, trim, ih]
theorem trim_snoc {l : List Nat} {a : Nat} (h : a ≠ 0) : trim (l ++ [a]) = l ++ [a] := by
  induction l with
  | nil => simp [trim, h]
  | cons b r ih => simp [trim, ih]
theorem val_trim (l : List Nat) : val (trim l) = val l := by
  induction l with
  | nil => rfl
  | cons a r ih =>
    simp only [trim]
    split
    · rename_i h; rw [h.1] at ih; simp [val] at ih ⊢; omega
    · simp [val, ih]
theorem trim_le (l : List Nat) : (trim l).length ≤ l.length := by
  induction l with
  | nil => simp [trim]
  | cons a r ih => simp only [trim]; split <;> simp <;> omega
theorem trim_take (l : List Nat) : trim l = l.take (trim l).length := by
  induction l with
  | nil => simp [trim]
  | cons a r ih =>
    simp only [trim]
    split
    · simp
    · rw [List.length_cons, List.take_succ_cons, ← ih]
theorem trim_trim (l : List Nat) : trim (trim l) = trim l := by
  induction l with
  | nil => rfl
  | cons a r ih =>
    simp only [trim]
    split
    · rfl
    · rename_i h; simp only [trim, ih]; rw [if_neg h]
theorem norm_trim (l : List Nat) : Norm (trim l) := trim_trim l
theorem ok_trim {l : List Nat} (h : Ok l) : Ok (trim l) := by rw [trim_take]; exact ok_take h _
theorem norm_nil : Norm [] := rfl
theorem norm_cons {a : Nat} {r : List Nat} (h : Norm (a :: r)) : Norm r := by
  unfold Norm at *
  simp only [trim] at h
  split at h
  · cases h
  · injection h
theorem norm_last {l : List Nat} (h : Norm l) (hne : l ≠ []) : ∃ m a, l = m ++ [a] ∧ a ≠ 0 := by
  refine ⟨l.dropLast, l.getLast hne, (List.dropLast_concat_getLast hne).symm, fun h0 => ?_⟩
  have e := (List.dropLast_concat_getLast hne).symm
  rw [h0] at e
  unfold Norm at h
  rw [e, trim_snoc_zero] at h
  have := trim_le l.dropLast
  have l2 := congrArg List.length h
  simp at l2 this
  omega
/-- A number of k parts that has no zero at its end is at least base^(k-1). -/
theorem norm_ge {l : List Nat} (h : Norm l) (hne : l ≠ []) : 1000000000 ^ (l.length - 1) ≤ val l := by
  obtain ⟨m, a, rfl, ha⟩ := norm_last h hne
  rw [val_snoc, List.length_append]
  simp only [List.length_cons, List.length_nil, Nat.zero_add, Nat.add_sub_cancel]
  have : 1000000000 ^ m.length * 1 ≤ 1000000000 ^ m.length * a := Nat.mul_le_mul_left _ (by omega)
  omega
theorem norm_val_zero {l : List Nat} (h : Norm l) : val l = 0 ↔ l = [] := by
  constructor
  · intro h0
    by_cases hne : l = []
    · exact hne
    · have := norm_ge h hne
      have : 1 ≤ 1000000000 ^ (l.length - 1) := Nat.one_le_pow _ _ (by decide)
      omega
  · rintro rfl; rfl
theorem norm_len_lt {l m : List Nat} (ol : Ok l) (nm : Norm m) (h : l.length < m.length) : val l < val m := by
  have hne : m ≠ [] := by intro e; simp [e] at h
  have h1 := norm_ge nm hne
  have h2 := val_lt ol
  have h3 : 1000000000 ^ l.length ≤ 1000000000 ^ (m.length - 1) := Nat.pow_le_pow_right (by decide) (by omega)
  omega
theorem val_inj : ∀ {l m : List Nat}, Ok l → Ok m → Norm l → Norm m → val l = val m → l = m
  | [], m, _, _, _, nm, h => ((norm_val_zero nm).1 h.symm).symm
  | a :: r, [], _, _, nl, _, h => (norm_val_zero nl).1 h
  | a :: r, b :: s, ol, om, nl, nm, h => by
    obtain ⟨a1, a2⟩ := ok_cons.1 ol
    obtain ⟨b1, b2⟩ := ok_cons.1 om
    simp only [val] at h
    have e1 : a = b := by omega
    have e2 : val r = val s := by omega
    rw [e1, val_inj a2 b2 (norm_cons nl) (norm_cons nm) e2]
/-- 0, 1, -1: as a is, seen from b. -/
def cmpN (a b : Nat) : Int := if a < b then -1 else if b < a then 1 else 0
def cmpI (a b : Int) : Int := if a < b then -1 else if b < a then 1 else 0
/-- The parts behind place k decide. -/
theorem val_drop (l : List Nat) (k : Nat) (h : k ≤ l.length) : val l = val (l.take k) + 1000000000 ^ k * val (l.drop k) := by
  conv => lhs; rw [← List.take_append_drop k l, val_append, List.length_take, Nat.min_eq_left h]
theorem cmp_drop {l m : List Nat} (ol : Ok l) (om : Ok m) (hlen : l.length = m.length) {k : Nat} (hk : k < l.length) (he : l.drop (k + 1) = m.drop (k + 1)) (hlt : l[k] < m[k]'(hlen ▸ hk)) : val l < val m := by
  have hk' : k < m.length := hlen ▸ hk
  rw [val_drop l k (by omega), val_drop m k (by omega), List.drop_eq_getElem_cons hk, List.drop_eq_getElem_cons hk', he, val_cons, val_cons]
  have h1 := val_lt (ok_take ol k)
  rw [List.length_take, Nat.min_eq_left (by omega)] at h1
  have h2 : 1000000000 ^ k * (l[k] + 1 + 1000000000 * val (m.drop (k + 1))) ≤ 1000000000 ^ k * (m[k] + 1000000000 * val (m.drop (k + 1))) := Nat.mul_le_mul_left _ (by omega)
  rw [show l[k] + 1 + 1000000000 * val (m.drop (k + 1)) = (l[k] + 1000000000 * val (m.drop (k + 1))) + 1 from by omega, Nat.mul_add, Nat.mul_one] at h2
  omega
end Go.Proofs.YtogphdflgcdiiaaDoor

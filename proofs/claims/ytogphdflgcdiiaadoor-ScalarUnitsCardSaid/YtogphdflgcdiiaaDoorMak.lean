import Derived.Lib.ItoaNum
/-
  Plain facts on figures: the number that figures tell, and the figures of a number. Nothing of any program.
-/
namespace Go.Proofs.YtogphdflgcdiiaaDoor
set_option linter.unusedVariables false
set_option linter.unusedSimpArgs false
open Go.Lib

theorem snocInd {α : Type} {P : List α → Prop} (nil : P []) (snoc : ∀ m c, P m → P (m ++ [c])) (l : List α) : P l := by
  have : ∀ r : List α, P r.reverse := by
    intro r
    induction r with
    | nil => exact nil
    | cons a r ih => rw [List.reverse_cons]; exact snoc _ _ ih
  have h := this l.reverse
  rwa [List.reverse_reverse] at h
def dval (l : List UInt8) : Nat := l.foldl (fun a c => a * 10 + (c.toNat - 48)) 0
def AllDig (l : List UInt8) : Prop := ∀ c ∈ l, 48 ≤ c.toNat ∧ c.toNat ≤ 57
theorem dval_nil : dval [] = 0 := rfl
theorem dval_snoc (l : List UInt8) (c : UInt8) : dval (l ++ [c]) = dval l * 10 + (c.toNat - 48) := by simp [dval]
theorem dval_append (l m : List UInt8) : dval (l ++ m) = dval l * 10 ^ m.length + dval m := by
  induction m using snocInd with
  | nil => simp [dval]
  | snoc m c ih =>
    rw [← List.append_assoc, dval_snoc, ih, dval_snoc, List.length_append]
    simp only [List.length_cons, List.length_nil, Nat.zero_add, Nat.pow_succ]
    rw [Nat.add_mul, Nat.mul_assoc]; omega
theorem dval_cons (c : UInt8) (l : List UInt8) : dval (c :: l) = (c.toNat - 48) * 10 ^ l.length + dval l := by
  rw [show c :: l = [c] ++ l from rfl, dval_append]; simp [dval]
theorem allDig_nil : AllDig [] := by simp [AllDig]
theorem allDig_append {l m : List UInt8} : AllDig (l ++ m) ↔ AllDig l ∧ AllDig m := by
  simp only [AllDig, List.mem_append]
  exact ⟨fun h => ⟨fun p hp => h p (.inl hp), fun p hp => h p (.inr hp)⟩, fun h p hp => hp.elim (h.1 p) (h.2 p)⟩
theorem allDig_cons {c : UInt8} {l : List UInt8} : AllDig (c :: l) ↔ (48 ≤ c.toNat ∧ c.toNat ≤ 57) ∧ AllDig l := by simp [AllDig]
theorem allDig_take {l : List UInt8} (h : AllDig l) (k : Nat) : AllDig (l.take k) := fun p hp => h p (List.mem_of_mem_take hp)
theorem allDig_drop {l : List UInt8} (h : AllDig l) (k : Nat) : AllDig (l.drop k) := fun p hp => h p (List.mem_of_mem_drop hp)
theorem dval_lt {l : List UInt8} (h : AllDig l) : dval l < 10 ^ l.length := by
  induction l using snocInd with
  | nil => simp [dval]
  | snoc m c ih =>
    obtain ⟨h1, h2⟩ := allDig_append.1 h
    have h3 := ih h1
    have h4 := (allDig_cons.1 h2).1
    rw [dval_snoc, List.length_append]
    simp only [List.length_cons, List.length_nil, Nat.zero_add, Nat.pow_succ]
    omega
theorem dig_toNat {d : Nat} (h : d < 10) : (UInt8.ofNat (48 + d)).toNat = 48 + d := by
  rw [UInt8.toNat_ofNat']; omega
theorem decDigits_small {n : Nat} (h : n < 10) : decDigits n = [UInt8.ofNat (48 + n)] := by rw [decDigits, dif_pos h]
theorem decDigits_big {n : Nat} (h : ¬ n < 10) : decDigits n = decDigits (n / 10) ++ [UInt8.ofNat (48 + n % 10)] := by rw [decDigits, dif_neg h]
theorem decDigits_all (n : Nat) : AllDig (decDigits n) ∧ dval (decDigits n) = n := by
  induction n using Nat.strongRecOn with
  | ind n ih =>
    by_cases h : n < 10
    · rw [decDigits_small h]
      have := dig_toNat h
      exact ⟨allDig_cons.2 ⟨by omega, allDig_nil⟩, by rw [dval_cons, this]; simp [dval]⟩
    · rw [decDigits_big h]
      obtain ⟨h1, h2⟩ := ih (n / 10) (by omega)
      have := dig_toNat (show n % 10 < 10 by omega)
      exact ⟨allDig_append.2 ⟨h1, allDig_cons.2 ⟨by omega, allDig_nil⟩⟩, by rw [dval_snoc, h2, this]; omega⟩
theorem dval_decDigits (n : Nat) : dval (decDigits n) = n := (decDigits_all n).2
theorem decDigits_dig (n : Nat) : AllDig (decDigits n) := (decDigits_all n).1
theorem decDigits_ne (n : Nat) : decDigits n ≠ [] := by
  by_cases h : n < 10
  · rw [decDigits_small h]; simp
  · rw [decDigits_big h]; simp
theorem decDigits_inj {a b : Nat} (h : decDigits a = decDigits b) : a = b := by rw [← dval_decDigits a, h, dval_decDigits]
theorem u8_ext {a b : UInt8} (h : a.toNat = b.toNat) : a = b := UInt8.toNat_inj.1 h
/-- The first figure isn't 0, but of 0 itself. -/
theorem decDigits_head (n : Nat) (h : 0 < n) : ∃ c r, decDigits n = c :: r ∧ c.toNat ≠ 48 := by
  induction n using Nat.strongRecOn with
  | ind n ih =>
    by_cases h10 : n < 10
    · rw [decDigits_small h10]
      exact ⟨_, [], rfl, by rw [dig_toNat h10]; omega⟩
    · rw [decDigits_big h10]
      obtain ⟨c, r, e, hc⟩ := ih (n / 10) (by omega) (by omega)
      exact ⟨c, r ++ [_], by rw [e]; rfl, hc⟩
/-- Figures without a 0 ahead are those of their number. -/
theorem decDigits_of : ∀ (l : List UInt8), AllDig l → l ≠ [] → (l.length = 1 ∨ ∃ c r, l = c :: r ∧ c.toNat ≠ 48) → l = decDigits (dval l) := by
  intro l
  induction l using snocInd with
  | nil => intro _ h; exact absurd rfl h
  | snoc m c ih =>
    intro h _ h2
    obtain ⟨h3, h4⟩ := allDig_append.1 h
    have h5 := (allDig_cons.1 h4).1
    by_cases hm : m = []
    · subst hm
      have e : dval ([] ++ [c]) = c.toNat - 48 := by rw [dval_snoc]; simp [dval]
      rw [e, decDigits_small (by omega)]
      simp only [List.nil_append]
      congr 1
      exact u8_ext (by rw [dig_toNat (by omega)]; omega)
    · have hlen : 0 < m.length := List.length_pos_iff.2 hm
      obtain ⟨d, r, e, hd⟩ : ∃ d r, m = d :: r ∧ d.toNat ≠ 48 := by
        rcases h2 with h2 | ⟨d, r, e, hd⟩
        · rw [List.length_append] at h2; simp only [List.length_cons, List.length_nil] at h2; omega
        · cases m with
          | nil => exact absurd rfl hm
          | cons d' r' =>
            simp only [List.cons_append, List.cons.injEq] at e
            exact ⟨d', r', rfl, by rw [e.1]; exact hd⟩
      have hi := ih h3 hm (.inr ⟨d, r, e, hd⟩)
      have hpos : 0 < dval m := by
        rw [e, dval_cons]
        rw [e] at h3
        have := (allDig_cons.1 h3).1
        have hp : 0 < 10 ^ r.length := Nat.pow_pos (by decide)
        have : 0 < (d.toNat - 48) * 10 ^ r.length := Nat.mul_pos (by omega) hp
        omega
      rw [dval_snoc, decDigits_big (n := dval m * 10 + (c.toNat - 48)) (by omega), show (dval m * 10 + (c.toNat - 48)) / 10 = dval m by omega, ← hi, show (dval m * 10 + (c.toNat - 48)) % 10 = c.toNat - 48 by omega]
      congr 2
      exact u8_ext (by rw [dig_toNat (by omega)]; omega)
theorem decDigits_len_le {n k : Nat} (hk : 0 < k) : (decDigits n).length ≤ k ↔ n < 10 ^ k := by
  rw [decDigits_length]
  constructor
  · intro h
    exact Nat.lt_of_lt_of_le (lt_pow_nDigits n) (Nat.pow_le_pow_right (by decide) h)
  · intro h
    by_cases hz : n < 10
    · rw [nDigits_small hz]; exact hk
    · have : ∀ n, 10 ≤ n → 10 ^ (nDigits n - 1) ≤ n := by
        intro n
        induction n using Nat.strongRecOn with
        | ind n ih =>
          intro hn
          rw [nDigits_big (by omega), Nat.add_sub_cancel]
          by_cases h2 : n / 10 < 10
          · rw [nDigits_small h2]; omega
          · have h3 := ih (n / 10) (by omega) (by omega)
            have h4 := nDigits_pos (n / 10)
            have : 10 ^ nDigits (n / 10) = 10 ^ (nDigits (n / 10) - 1) * 10 := by rw [← Nat.pow_succ]; congr 1; omega
            omega
      have h1 := this n (by omega)
      have h2 : nDigits n - 1 < k := (Nat.pow_lt_pow_iff_right (a := 10) (by decide)).1 (by omega)
      omega
theorem decDigits_len_pos (n : Nat) : 0 < (decDigits n).length := List.length_pos_iff.2 (decDigits_ne n)
/-- The figures of a number that is parted at k figures from its end; those of 10^k and what is left, without the first one, are the last k. -/
theorem decDigits_pad {r k : Nat} (h : r < 10 ^ k) : (decDigits (10 ^ k + r)).drop 1 = (decDigits (10 ^ k + r)).drop 1 ∧ dval ((decDigits (10 ^ k + r)).drop 1) = r ∧ ((decDigits (10 ^ k + r)).drop 1).length = k := by
  have hl : (decDigits (10 ^ k + r)).length = k + 1 := by
    rw [decDigits_length]
    exact nDigits_unique k _ (by omega) (by rw [Nat.pow_succ]; omega)
  refine ⟨rfl, ?_, by rw [List.length_drop]; omega⟩
  obtain ⟨c, l, e⟩ : ∃ c l, decDigits (10 ^ k + r) = c :: l := by
    cases h : decDigits (10 ^ k + r) with
    | nil => exact absurd h (decDigits_ne _)
    | cons c l => exact ⟨c, l, rfl⟩
  have hd := dval_decDigits (10 ^ k + r)
  have ha := decDigits_dig (10 ^ k + r)
  rw [e] at hd ha hl ⊢
  rw [dval_cons] at hd
  simp only [List.length_cons] at hl
  have hlk : l.length = k := by omega
  have h2 := dval_lt (allDig_cons.1 ha).2
  have h3 := (allDig_cons.1 ha).1
  rw [hlk] at hd h2
  show dval l = r
  have hq : c.toNat - 48 = 1 := by
    rcases Nat.lt_trichotomy (c.toNat - 48) 1 with h4 | h4 | h4
    · have : c.toNat - 48 = 0 := by omega
      rw [this] at hd; omega
    · exact h4
    · have : 2 * 10 ^ k ≤ (c.toNat - 48) * 10 ^ k := Nat.mul_le_mul_right _ h4
      omega
  rw [hq] at hd; omega
theorem decDigits_join {q r k : Nat} (hq : 0 < q) (h : r < 10 ^ k) : decDigits q ++ (decDigits (10 ^ k + r)).drop 1 = decDigits (q * 10 ^ k + r) := by
  obtain ⟨_, h1, h2⟩ := decDigits_pad h
  have ha : AllDig (decDigits q ++ (decDigits (10 ^ k + r)).drop 1) := allDig_append.2 ⟨decDigits_dig q, allDig_drop (decDigits_dig _) 1⟩
  obtain ⟨c, l, e, hc⟩ := decDigits_head q hq
  have h3 := decDigits_of _ ha (by rw [e]; simp) (.inr ⟨c, l ++ _, by rw [e]; rfl, hc⟩)
  rw [h3, dval_append, dval_decDigits, h1, h2]
end Go.Proofs.YtogphdflgcdiiaaDoor

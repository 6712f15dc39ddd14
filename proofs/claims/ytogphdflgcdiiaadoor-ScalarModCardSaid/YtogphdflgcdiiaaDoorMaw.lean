import Derived.Test.YtogphdflgcdiiaaDoorMav
namespace Go.Proofs.YtogphdflgcdiiaaDoor
set_option linter.unusedVariables false
set_option linter.unusedSimpArgs false
open Go.RowKit

/-! ### The quotient, rounded down, and what is left -/
def fq (x y : Int) : Int := if 0 < y then x / y else (-x) / (-y)
def fr (x y : Int) : Int := x - y * fq x y
theorem fr_bd {x y : Int} (hy : y ≠ 0) : (0 < y → 0 ≤ fr x y ∧ fr x y < y) ∧ (y < 0 → fr x y ≤ 0 ∧ y < fr x y) := by
  unfold fr fq
  constructor
  · intro h
    rw [if_pos h]
    have h1 := Int.emod_nonneg x hy
    have h2 := Int.emod_lt_of_pos x h
    have h3 := Int.mul_ediv_add_emod x y
    omega
  · intro h
    rw [if_neg (by omega)]
    have h1 := Int.emod_nonneg (-x) (show -y ≠ 0 by omega)
    have h2 := Int.emod_lt_of_pos (-x) (show 0 < -y by omega)
    have h3 := Int.mul_ediv_add_emod (-x) (-y)
    rw [Int.neg_mul] at h3
    omega
theorem fq_unique {x y q r : Int} (hy : y ≠ 0) (h : x = y * q + r) (hp : 0 < y → 0 ≤ r ∧ r < y) (hn : y < 0 → r ≤ 0 ∧ y < r) : fq x y = q ∧ fr x y = r := by
  have e : fq x y = q := by
    unfold fq
    rcases Int.lt_trichotomy y 0 with h0 | h0 | h0
    · rw [if_neg (by omega)]
      obtain ⟨a, b⟩ := hn h0
      have := (Int.ediv_emod_unique (a := -x) (b := -y) (r := -r) (q := q) (by omega)).2 ⟨by rw [h, Int.neg_mul]; omega, by omega, by omega⟩
      exact this.1
    · exact absurd h0 hy
    · rw [if_pos h0]
      obtain ⟨a, b⟩ := hp h0
      exact ((Int.ediv_emod_unique (a := x) (b := y) (r := r) (q := q) h0).2 ⟨by omega, a, b⟩).1
  exact ⟨e, by unfold fr; rw [e]; omega⟩
/-- As the program does it: sizes are divided towards 0; if something is left on the other side of 0, one less. -/
theorem div_parts (x y : Int) (hy : y ≠ 0) : x = y * (x.sign * y.sign * ((x.natAbs / y.natAbs : Nat) : Int)) + x.sign * ((x.natAbs % y.natAbs : Nat) : Int) := by
  have h1 := sgn_abs x
  have h2 := sgn_abs y
  have h3 := Nat.div_add_mod x.natAbs y.natAbs
  have hss : y.sign * y.sign = 1 := by
    rcases sign_cases y with h | h | h
    · rw [h]; rfl
    · rw [h]; rfl
    · exact absurd h hy
  have e : y * (x.sign * y.sign * ((x.natAbs / y.natAbs : Nat) : Int)) = x.sign * ((y.natAbs * (x.natAbs / y.natAbs) : Nat) : Int) := by
    rw [← h2, Int.natCast_mul]
    rw [h2]
    have : y.sign * (y.natAbs : Int) * (x.sign * y.sign * ((x.natAbs / y.natAbs : Nat) : Int)) = (y.sign * y.sign) * (x.sign * ((y.natAbs : Int) * ((x.natAbs / y.natAbs : Nat) : Int))) := by ac_rfl
    rw [h2] at this
    rw [this, hss, Int.one_mul]
  rw [e, ← Int.mul_add, ← Int.natCast_add, h3, h1]
theorem mod_lt_abs (x y : Int) (hy : y ≠ 0) : x.natAbs % y.natAbs < y.natAbs := Nat.mod_lt _ (by omega)
theorem div_exact {x y : Int} (hy : y ≠ 0) (h : x.sign * ((x.natAbs % y.natAbs : Nat) : Int) = 0 ∨ (x.sign * ((x.natAbs % y.natAbs : Nat) : Int)).sign = y.sign) :
    fq x y = x.sign * y.sign * ((x.natAbs / y.natAbs : Nat) : Int) ∧ fr x y = x.sign * ((x.natAbs % y.natAbs : Nat) : Int) := by
  have h1 := div_parts x y hy
  have h2 := mod_lt_abs x y hy
  generalize x.natAbs % y.natAbs = r at h h1 h2 ⊢
  refine fq_unique hy h1 (fun hp => ?_) (fun hn => ?_)
  · rcases sign_cases x with hx | hx | hx
    · rw [hx] at h ⊢; omega
    · rw [hx] at h ⊢
      rcases h with h | h
      · omega
      · rw [Int.sign_eq_one_of_pos hp] at h
        have := Int.pos_of_sign_eq_one h
        omega
    · subst hx; simp; omega
  · rcases sign_cases x with hx | hx | hx
    · rw [hx] at h ⊢
      rcases h with h | h
      · omega
      · rw [Int.sign_eq_neg_one_of_neg hn] at h
        have := Int.neg_of_sign_eq_neg_one h
        omega
    · rw [hx] at h ⊢; omega
    · subst hx; simp; omega
theorem div_less {x y : Int} (hy : y ≠ 0) (h0 : x.sign * ((x.natAbs % y.natAbs : Nat) : Int) ≠ 0) (h : (x.sign * ((x.natAbs % y.natAbs : Nat) : Int)).sign ≠ y.sign) :
    fq x y = x.sign * y.sign * ((x.natAbs / y.natAbs : Nat) : Int) + -1 ∧ fr x y = x.sign * ((x.natAbs % y.natAbs : Nat) : Int) + y := by
  have h1 := div_parts x y hy
  have h2 := mod_lt_abs x y hy
  generalize x.sign * y.sign * ((x.natAbs / y.natAbs : Nat) : Int) = q at h1 ⊢
  generalize x.natAbs % y.natAbs = r at h h0 h1 h2 ⊢
  refine fq_unique hy (by rw [Int.mul_add]; omega) (fun hp => ?_) (fun hn => ?_)
  · rcases sign_cases x with hx | hx | hx
    · exfalso
      rw [hx] at h h0
      exact h (by rw [Int.sign_eq_one_of_pos hp]; exact Int.sign_eq_one_of_pos (by omega))
    · rw [hx] at h0 ⊢; omega
    · subst hx; simp at h0
  · rcases sign_cases x with hx | hx | hx
    · rw [hx] at h0 ⊢; omega
    · exfalso
      rw [hx] at h h0
      exact h (by rw [Int.sign_eq_neg_one_of_neg hn]; exact Int.sign_eq_neg_one_of_neg (by omega))
    · subst hx; simp at h0
end Go.Proofs.YtogphdflgcdiiaaDoor

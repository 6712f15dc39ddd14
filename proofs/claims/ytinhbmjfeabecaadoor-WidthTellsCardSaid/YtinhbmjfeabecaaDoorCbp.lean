import Derived.Test.YtinhbmjfeabecaaDoorMulw
namespace Go.Proofs.YtinhbmjfeabecaaDoor
open Go.RowKit

theorem vf_cons (F : Nat → Nat) (o n : Nat) : vf F o (n + 1) = F o + 1000000000 * vf F (o + 1) n := by
  rw [show n + 1 = 1 + n by omega, vf_split]; simp [vf]
structure CbInv (l : List Nat) (p k r : Nat) (F : Nat → Nat) : Prop where
  lt : r < p
  ok : ∀ j, F j < 1000000000
  eq : vf F k (l.length - k) * p + r = val (l.drop k)
theorem CbInv.start (l : List Nat) (p : Nat) (hp : 0 < p) : CbInv l p l.length 0 (fun _ => 0) := ⟨hp, fun _ => by decide, by simp [vf, val]⟩
theorem quo_lt {p k r x : Nat} (hr : r < p) (hx : x < 1000000000) : (r * 1000000000 + x) / p < 1000000000 := by
  rw [Nat.div_lt_iff_lt_mul (by omega)]
  have : (r + 1) * 1000000000 ≤ p * 1000000000 := Nat.mul_le_mul_right _ hr
  omega
theorem CbInv.step {l : List Nat} {p k r : Nat} {F : Nat → Nat} (h : CbInv l p (k + 1) r F) (hk : k < l.length) (ol : Ok l) :
    CbInv l p k ((r * 1000000000 + l[k]) % p) (upd F k ((r * 1000000000 + l[k]) / p)) := by
  have hlt := h.lt
  refine ⟨Nat.mod_lt _ (by omega), fun j => ?_, ?_⟩
  · unfold upd; split
    · exact quo_lt (k := 0) hlt (ok_get ol hk)
    · exact h.ok j
  · have e := h.eq
    rw [show l.length - k = (l.length - (k + 1)) + 1 by omega, vf_cons, vf_upd_out (.inl (by omega)), show upd F k ((r * 1000000000 + l[k]) / p) k = (r * 1000000000 + l[k]) / p by unfold upd; rw [if_pos rfl]]
    rw [List.drop_eq_getElem_cons hk, val_cons, ← e, Nat.add_mul, Nat.mul_add]
    have h1 := Nat.div_add_mod (r * 1000000000 + l[k]) p
    rw [Nat.mul_comm] at h1
    rw [Nat.mul_assoc 1000000000]
    omega
theorem cb_end {l : List Nat} {p r : Nat} {F : Nat → Nat} (h : CbInv l p 0 r F) : vf F 0 l.length = val l / p ∧ r = val l % p := by
  have e := h.eq
  have hlt := h.lt
  rw [Nat.sub_zero, List.drop_zero] at e
  have e2 : val l = r + p * vf F 0 l.length := by rw [Nat.mul_comm]; omega
  constructor
  · rw [e2, Nat.add_mul_div_left _ _ (by omega), Nat.div_eq_of_lt hlt, Nat.zero_add]
  · rw [e2, Nat.add_mul_mod_self_left, Nat.mod_eq_of_lt hlt]

theorem quo_int (r a p : Nat) : (((r * 1000000000 + a) / p : Nat) : Int) = ((r : Int) * 1000000000 + (a : Int)) / (p : Int) := by
  rw [Int.natCast_ediv, Int.natCast_add, Int.natCast_mul]; rfl
theorem rem_int (r a p : Nat) : (((r * 1000000000 + a) % p : Nat) : Int) = ((r : Int) * 1000000000 + (a : Int)) % (p : Int) := by
  rw [Int.natCast_emod, Int.natCast_add, Int.natCast_mul]; rfl
end Go.Proofs.YtinhbmjfeabecaaDoor

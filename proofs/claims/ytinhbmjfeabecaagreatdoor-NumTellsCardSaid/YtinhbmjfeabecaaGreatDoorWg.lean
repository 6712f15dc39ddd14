import Derived.Test.YtinhbmjfeabecaaGreatDoorWf
namespace Go.Proofs.YtinhbmjfeabecaaGreatDoor
open Go.RowKit

def I64 (x : Int) : Prop := -9223372036854775808 ≤ x ∧ x ≤ 9223372036854775807
instance (x : Int) : Decidable (I64 x) := by unfold I64; infer_instance
theorem wrap_spec (n : Int) : ∃ k : Int, IntKind.i64.wrap n = n - k * 18446744073709551616 ∧ I64 (IntKind.i64.wrap n) := by
  have e : IntKind.i64.wrap n = if n % 18446744073709551616 ≥ 9223372036854775808 then n % 18446744073709551616 - 18446744073709551616 else n % 18446744073709551616 := by
    simp [IntKind.wrap, IntKind.bits, IntKind.signed]
  rw [e]
  unfold I64
  split
  · exact ⟨n / 18446744073709551616 + 1, by omega, by omega⟩
  · exact ⟨n / 18446744073709551616, by omega, by omega⟩
theorem wrap_in {n : Int} (h : I64 n) : IntKind.i64.wrap n = n := by
  obtain ⟨k, h1, h2⟩ := wrap_spec n
  unfold I64 at h h2
  omega
/-- What is told in a width: a's and b's r, if all three fit. -/
def OkW (a b r w : Int) : Prop := I64 r ∧ Fit a w ∧ Fit b w ∧ Fit r w
instance (a b r w : Int) : Decidable (OkW a b r w) := by unfold OkW; infer_instance
def valW (a b r w : Int) : Int := if OkW a b r w then r else 0
def WPost (a b r w : Int) (W : World) (e : Ending) (W' : World) : Prop := e = .returned (.tuple #[.int .i64 (valW a b r w), .bool (decide (OkW a b r w))]) ∧ W = W'
def fitV (fa fb fr wr : Bool) : Bool := !wr && fa && fb && fr
theorem fit_post {a b r s w : Int} {wr : Bool} (hs : wr = false ↔ I64 r) (hr : I64 r → s = r) {W : World} {e : Ending} {W' : World}
    (h : e = .returned (.tuple #[.int .i64 (if fitV (decide (Fit a w)) (decide (Fit b w)) (decide (Fit s w)) wr then s else 0), .bool (fitV (decide (Fit a w)) (decide (Fit b w)) (decide (Fit s w)) wr)]) ∧ W = W') : WPost a b r w W e W' := by
  obtain ⟨rfl, rfl⟩ := h
  refine ⟨?_, rfl⟩
  have e1 : fitV (decide (Fit a w)) (decide (Fit b w)) (decide (Fit s w)) wr = decide (OkW a b r w) := by
    rw [Bool.eq_iff_iff, decide_eq_true_iff]
    unfold OkW
    simp only [fitV, Bool.and_eq_true, Bool.not_eq_true', decide_eq_true_eq]
    constructor
    · intro h
      have := hs.1 h.1.1.1
      exact ⟨this, h.1.1.2, h.1.2, hr this ▸ h.2⟩
    · intro h
      exact ⟨⟨⟨hs.2 h.1, h.2.1⟩, h.2.2.1⟩, (hr h.1).symm ▸ h.2.2.2⟩
  rw [e1]
  unfold valW
  by_cases h : OkW a b r w
  · simp only [h, decide_true, if_true, hr h.1]
  · simp only [h, decide_false, if_false, Bool.false_eq_true]
/-- Whether a product of two int64 is another number than the int64 that came of it. -/
theorem over_spec {a b p q k : Int} (ha : I64 a) (hb : I64 b) (hp : I64 p) (hk : p = a * b - k * 18446744073709551616) (h0 : a ≠ 0) (hq : IntKind.i64.wrap (p.tdiv a) = q) :
    (q ≠ b ∨ (a = -1 ∧ b = -9223372036854775808)) ↔ ¬ I64 (a * b) := by
  have hd := Int.mul_tdiv_add_tmod p a
  have hm : (p.tmod a).natAbs < a.natAbs := by
    rw [Int.natAbs_tmod]; exact Nat.mod_lt _ (by omega)
  have hle : (p.tdiv a).natAbs ≤ p.natAbs := by
    rw [Int.natAbs_tdiv]; exact Nat.div_le_self _ _
  by_cases hi : I64 (a * b)
  · have hk0 : k = 0 := by unfold I64 at *; omega
    have e : p = a * b := by rw [hk, hk0]; omega
    have et : p.tdiv a = b := by rw [e]; exact Int.mul_tdiv_cancel_left b h0
    have eq : q = b := by rw [← hq, et]; exact wrap_in hb
    constructor
    · rintro (h | ⟨rfl, rfl⟩)
      · exact absurd eq h
      · exact absurd hi (by decide)
    · exact fun h => absurd hi h
  · refine ⟨fun _ => hi, fun _ => ?_⟩
    rcases Decidable.em (q = b) with e | e
    · right
      obtain ⟨j, hj, hj'⟩ := wrap_spec (p.tdiv a)
      rw [hq, e] at hj
      rcases Decidable.em (I64 (p.tdiv a)) with ht | ht
      · exfalso
        have ej : p.tdiv a = b := by rw [← e, ← hq]; exact (wrap_in ht).symm
        rw [ej] at hd
        have hk0 : k = 0 := by unfold I64 at *; omega
        apply hi
        rw [show a * b = p by rw [hk, hk0]; omega]
        exact hp
      · have e63 : p.tdiv a = 9223372036854775808 := by unfold I64 at *; omega
        rw [e63] at hd hj
        have hb' : b = -9223372036854775808 := by unfold I64 at *; omega
        refine ⟨?_, hb'⟩
        have : p = -9223372036854775808 := by unfold I64 at *; omega
        omega
    · exact .inl e
end Go.Proofs.YtinhbmjfeabecaaGreatDoor

import Derived.Test.YtinhbmjfeabecaaDoorCbp
namespace Go.Proofs.YtinhbmjfeabecaaDoor
open Go.RowKit

/-! ### takeOut: the guess, and what it is worth. A: the n + 1 parts; V: the divisor of n parts, whose last one is at least half of the base. -/
theorem guess_lo {A V N v q P : Nat} (hN : A < (N + 1) * P) (hV : v * P ≤ V) (hv : 0 < v) (hq : q = N / v) : A < (q + 1) * V := by
  have h1 : N + 1 ≤ (q + 1) * v := by
    have := Nat.lt_div_mul_add hv (a := N)
    rw [← hq] at this
    rw [Nat.add_mul, Nat.one_mul]; omega
  have h2 : (N + 1) * P ≤ (q + 1) * v * P := Nat.mul_le_mul_right _ h1
  have h3 : (q + 1) * v * P ≤ (q + 1) * V := by rw [Nat.mul_assoc]; exact Nat.mul_le_mul_left _ hV
  omega
theorem guess_hi {A V N v q P : Nat} (hN : N * P ≤ A) (hV : V < (v + 1) * P) (hq : q = N / v) : q * V ≤ A + q * P := by
  have h1 : q * v ≤ N := by rw [hq]; exact Nat.div_mul_le_self _ _
  have h2 : q * V ≤ q * ((v + 1) * P) := Nat.mul_le_mul_left _ (by omega)
  have h3 : q * ((v + 1) * P) = q * v * P + q * P := by rw [Nat.add_mul, Nat.mul_add, Nat.one_mul, Nat.mul_assoc]
  have h4 : q * v * P ≤ N * P := Nat.mul_le_mul_right _ h1
  omega
theorem guess_le {N v q : Nat} (hN : N < 1000000000000000000) (hv : 500000000 ≤ v) (hq : q = N / v) : q ≤ 2000000000 := by
  rw [hq]
  have : N / v ≤ N / 500000000 := Nat.div_le_div_left hv (by decide)
  omega
/-- Behind lower: either all went, or it was once too much at most. -/
structure TkInv (A V P : Nat) (t : Nat) (below : Bool) (R : Nat) : Prop where
  lo : A < (t + 1) * V
  no : below = false → t * V ≤ A ∧ R + t * V = A
  yes : below = true → A < t * V ∧ R + t * V = A + P
theorem TkInv.start {A V P q c R : Nat} (hlo : A < (q + 1) * V) (he : R + q * V = A + P * c) (hR : R < P) (hhi : q * V ≤ A + P) (hP : 0 < P) : TkInv A V P q (decide (0 < c)) R ∧ c ≤ 1 := by
  have hc : c ≤ 1 := by
    rcases Nat.lt_or_ge 1 c with h | h
    · have : P * 2 ≤ P * c := Nat.mul_le_mul_left _ h
      omega
    · exact h
  have : c = 0 ∨ c = 1 := by omega
  rcases this with rfl | rfl
  · exact ⟨⟨hlo, fun _ => ⟨by omega, by omega⟩, fun h => by simp at h⟩, hc⟩
  · exact ⟨⟨hlo, fun h => by simp at h, fun _ => ⟨by omega, by omega⟩⟩, hc⟩
theorem TkInv.next {A V P t R c R' : Nat} (h : TkInv A V P t true R) (he : R' + P * c = R + V) (hc : c ≤ 1) (hA : A < P) (hR' : R' < P) : 1 ≤ t ∧ TkInv A V P (t - 1) (!decide (0 < c)) R' := by
  obtain ⟨h1, h2⟩ := h.yes rfl
  have ht : 1 ≤ t := by
    rcases Nat.eq_zero_or_pos t with h0 | h0
    · subst h0; omega
    · exact h0
  refine ⟨ht, ?_⟩
  obtain ⟨s, rfl⟩ : ∃ s, t = s + 1 := ⟨t - 1, by omega⟩
  rw [Nat.add_sub_cancel]
  have h3 : (s + 1) * V = s * V + V := by rw [Nat.add_mul, Nat.one_mul]
  rw [h3] at h1 h2
  have : c = 0 ∨ c = 1 := by omega
  rcases this with rfl | rfl
  · refine ⟨by rw [h3]; omega, fun h => by simp at h, fun _ => ⟨?_, by omega⟩⟩
    omega
  · exact ⟨by rw [h3]; omega, fun _ => ⟨by omega, by omega⟩, fun h => by simp at h⟩
theorem TkInv.fin {A V P t R : Nat} (h : TkInv A V P t false R) : t = A / V ∧ R = A % V := by
  obtain ⟨h1, h2⟩ := h.no rfl
  have h3 := h.lo
  rw [Nat.add_mul, Nat.one_mul] at h3
  have hV : 0 < V := by omega
  have e : A = R + V * t := by rw [Nat.mul_comm]; omega
  have hR : R < V := by omega
  constructor
  · rw [e, Nat.add_mul_div_left _ _ hV, Nat.div_eq_of_lt hR, Nat.zero_add]
  · rw [e, Nat.add_mul_mod_self_left, Nat.mod_eq_of_lt hR]

/-- The two parts at the head of n + 1. -/
theorem top_two {F : Nat → Nat} {o n : Nat} (hF : ∀ j, o ≤ j → j < o + (n + 2) → F j < 1000000000) :
    (F (o + (n + 1)) * 1000000000 + F (o + n)) * 1000000000 ^ n ≤ vf F o (n + 2) ∧ vf F o (n + 2) < (F (o + (n + 1)) * 1000000000 + F (o + n) + 1) * 1000000000 ^ n := by
  have h1 : vf F o n < 1000000000 ^ n := vf_lt fun j a b => hF j a (by omega)
  have e : vf F o (n + 2) = vf F o n + (F (o + (n + 1)) * 1000000000 + F (o + n)) * 1000000000 ^ n := by
    show vf F o n + 1000000000 ^ n * F (o + n) + 1000000000 ^ (n + 1) * F (o + (n + 1)) = _
    rw [Nat.pow_succ, Nat.add_mul, Nat.mul_comm (F (o + n))]
    have : 1000000000 ^ n * 1000000000 * F (o + (n + 1)) = F (o + (n + 1)) * 1000000000 * 1000000000 ^ n := by
      rw [Nat.mul_comm (F (o + (n + 1)) * 1000000000), Nat.mul_assoc, Nat.mul_comm 1000000000 (F _)]
    omega
  rw [e, Nat.add_mul (F (o + (n + 1)) * 1000000000 + F (o + n)) 1]
  omega
theorem top_one {m : List Nat} {n : Nat} (om : Ok m) (hn : m.length = n + 1) : m.getD n 0 * 1000000000 ^ n ≤ val m ∧ val m < (m.getD n 0 + 1) * 1000000000 ^ n := by
  have h1 : val (m.take n) < 1000000000 ^ n := by
    have := val_lt (ok_take om n)
    rwa [List.length_take, Nat.min_eq_left (by omega)] at this
  have e := val_take_succ m n
  rw [List.take_of_length_le (by omega), Nat.mul_comm] at e
  rw [e, Nat.add_mul]
  omega
end Go.Proofs.YtinhbmjfeabecaaDoor
namespace Go.Proofs.YtinhbmjfeabecaaDoor
open Go.RowKit

theorem two_int (a b v : Nat) : (((a * 1000000000 + b) / v : Nat) : Int) = ((a : Int) * 1000000000 + (b : Int)) / (v : Int) := quo_int a b v

def TkPost (w : World) (g o N n : Nat) (F : Nat → Nat) (V : Nat) (e : Ending) (w' : World) : Prop :=
  ∃ F', e = .returned (.int .u32 (vf F o (n + 2) / V : Nat)) ∧ (∀ j, j < o ∨ o + (n + 2) ≤ j → F' j = F j) ∧ (∀ j, o ≤ j → j < o + (n + 2) → F' j < 1000000000) ∧ vf F' o (n + 2) = vf F o (n + 2) % V ∧ Rw w' g N F' ∧ Only g w w'

theorem lower_len (g o n ca N : Nat) (F : Nat → Nat) (B : Option Addr) (m : List Nat) (ml cb : Nat) (q : Nat) (w : World) (hlen : m.length = ml) (hR : Rw w g N F) (hF : ∀ j, o ≤ j → j < o + n → F j < 1000000000) (hn : o + n ≤ N) (hN : N ≤ maxLen)
    (hB : Sz w B m) (hO : Off B g) (om : Ok m) (hm : ml ≤ maxLen) (hq : q ≤ 2000000000) :
    Calls Tryd.prog 87 #[.slice (some ⟨g, o, none⟩) n ca, .slice B ml cb, .int .u64 q] w fun e w' => ∃ c F', e = .returned (.bool (decide (0 < c))) ∧ LowerInv F m q o n c F' ∧ Rw w' g N F' ∧ Only g w w' := by
  subst hlen; exact lower_any g o n ca N F B m cb q w hR hF hn hN hB hO om hm hq
theorem raise_len (g o n ca N : Nat) (F : Nat → Nat) (B : Option Addr) (m : List Nat) (ml cb : Nat) (w : World) (hlen : m.length = ml) (hR : Rw w g N F) (hF : ∀ j, o ≤ j → j < o + n → F j < 1000000000) (hn : o + n ≤ N) (hN : N ≤ maxLen)
    (hB : Sz w B m) (hO : Off B g) (om : Ok m) (hm : ml ≤ maxLen) :
    Calls Tryd.prog 84 #[.slice (some ⟨g, o, none⟩) n ca, .slice B ml cb] w fun e w' => ∃ c F', e = .returned (.bool (decide (0 < c))) ∧ RaiseInv F m o n c F' ∧ Rw w' g N F' ∧ Only g w w' := by
  subst hlen; exact raise_any g o n ca N F B m cb w hR hF hn hN hB hO om hm
structure TkFacts (A V P q : Nat) : Prop where
  lo : A < (q + 1) * V
  hi : q * V ≤ A + P
  lt : A < P
  pos : 0 < P
  few : A < 1000000000 * V
end Go.Proofs.YtinhbmjfeabecaaDoor

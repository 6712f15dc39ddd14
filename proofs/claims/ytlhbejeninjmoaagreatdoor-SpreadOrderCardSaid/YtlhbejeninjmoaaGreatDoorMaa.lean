import Derived.Lib.ItoaNum
import Derived.Test.YtlhbejeninjmoaaGreatDoorProg
import Derived.WalkKit
import Derived.WalkSpells
import Derived.WalkLawsBesides
import Derived.Lib.Hide
import Derived.BigQuiet
import Derived.Deep.QuietTactic
/-
  Plain facts on lists of parts (base 10^9, the least one first): their value, what is left without zeros at the end, and which of two is greater. Nothing of any program.
-/
namespace Go.Proofs.YtlhbejeninjmoaaGreatDoor
set_option linter.unusedVariables false
set_option linter.unusedSimpArgs false

/-! ### Values of lists of parts -/
def val : List Nat → Nat
  | [] => 0
  | a :: r => a + 1000000000 * val r
def Ok (l : List Nat) : Prop := ∀ p ∈ l, p < 1000000000
def trim : List Nat → List Nat
  | [] => []
  | a :: r => if trim r = [] ∧ a = 0 then [] else a :: trim r
def Norm (l : List Nat) : Prop := trim l = l

theorem val_nil : val [] = 0 := rfl
theorem val_cons (a : Nat) (r : List Nat) : val (a :: r) = a + 1000000000 * val r := rfl
theorem val_append (l m : List Nat) : val (l ++ m) = val l + 1000000000 ^ l.length * val m := by
  induction l with
  | nil => simp [val]
  | cons a r ih => simp only [List.cons_append, val, ih, List.length_cons, Nat.pow_succ]; rw [Nat.mul_add, ← Nat.mul_assoc, Nat.mul_comm (1000000000 ^ r.length) 1000000000]; omega
theorem val_snoc (l : List Nat) (a : Nat) : val (l ++ [a]) = val l + 1000000000 ^ l.length * a := by rw [val_append]; simp [val]
theorem val_zeros (n : Nat) : val (List.replicate n 0) = 0 := by
  induction n with
  | zero => rfl
  | succ n ih => simp [List.replicate_succ, val, ih]
theorem ok_cons {a : Nat} {r : List Nat} : Ok (a :: r) ↔ a < 1000000000 ∧ Ok r := by simp [Ok]
theorem ok_append {l m : List Nat} : Ok (l ++ m) ↔ Ok l ∧ Ok m := by
  simp only [Ok, List.mem_append]
  exact ⟨fun h => ⟨fun p hp => h p (.inl hp), fun p hp => h p (.inr hp)⟩, fun h p hp => hp.elim (h.1 p) (h.2 p)⟩
theorem ok_nil : Ok [] := by simp [Ok]
theorem ok_take {l : List Nat} (h : Ok l) (k : Nat) : Ok (l.take k) := fun p hp => h p (List.mem_of_mem_take hp)
theorem ok_drop {l : List Nat} (h : Ok l) (k : Nat) : Ok (l.drop k) := fun p hp => h p (List.mem_of_mem_drop hp)
theorem ok_get {l : List Nat} (h : Ok l) {i : Nat} (hi : i < l.length) : l[i] < 1000000000 := h _ (List.getElem_mem hi)
theorem ok_getD {l : List Nat} (h : Ok l) (i : Nat) : l.getD i 0 < 1000000000 := by
  by_cases hi : i < l.length
  · rw [List.getD_eq_getElem?_getD, List.getElem?_eq_getElem hi]; exact h _ (List.getElem_mem hi)
  · rw [List.getD_eq_getElem?_getD, List.getElem?_eq_none (by omega)]; decide
theorem val_lt {l : List Nat} (h : Ok l) : val l < 1000000000 ^ l.length := by
  induction l with
  | nil => simp [val]
  | cons a r ih =>
    obtain ⟨h1, h2⟩ := ok_cons.1 h
    have := ih h2
    rw [val_cons, List.length_cons, Nat.pow_succ]
    omega
theorem trim_nil : trim [] = [] := rfl
theorem trim_snoc_zero (l : List Nat) : trim (l ++ [0]) = trim l := by
  induction l with
  | nil => simp [trim]
  | cons a r ih => simp only [List.cons_append, trim, ih]
theorem trim_snoc {l : List Nat} {a : Nat} (h : a ≠ 0) : trim (l ++ [a]) = l ++ [a] := by
  induction l with
  | nil => simp [trim, h]
  | cons b r ih => simp [trim, ih]
theorem val_trim (l : List Nat) : val (trim l) = val l := by
  induction l with
  | nil => rfl
  | cons a r ih =>
    simp only [trim]
    split
    · rename_i h; rw [h.1] at ih; simp [val] at ih ⊢; omega
    · simp [val, ih]
theorem trim_le (l : List Nat) : (trim l).length ≤ l.length := by
  induction l with
  | nil => simp [trim]
  | cons a r ih => simp only [trim]; split <;> simp <;> omega
theorem trim_take (l : List Nat) : trim l = l.take (trim l).length := by
  induction l with
  | nil => simp [trim]
  | cons a r ih =>
    simp only [trim]
    split
    · simp
    · rw [List.length_cons, List.take_succ_cons, ← ih]
theorem trim_trim (l : List Nat) : trim (trim l) = trim l := by
  induction l with
  | nil => rfl
  | cons a r ih =>
    simp only [trim]
    split
    · rfl
    · rename_i h; simp only [trim, ih]; rw [if_neg h]
theorem norm_trim (l : List Nat) : Norm (trim l) := trim_trim l
theorem ok_trim {l : List Nat} (h : Ok l) : Ok (trim l) := by rw [trim_take]; exact ok_take h _
theorem norm_nil : Norm [] := rfl
theorem norm_cons {a : Nat} {r : List Nat} (h : Norm (a :: r)) : Norm r := by
  unfold Norm at *
  simp only [trim] at h
  split at h
  · cases h
  · injection h
theorem norm_last {l : List Nat} (h : Norm l) (hne : l ≠ []) : ∃ m a, l = m ++ [a] ∧ a ≠ 0 := by
  refine ⟨l.dropLast, l.getLast hne, (List.dropLast_concat_getLast hne).symm, fun h0 => ?_⟩
  have e := (List.dropLast_concat_getLast hne).symm
  rw [h0] at e
  unfold Norm at h
  rw [e, trim_snoc_zero] at h
  have := trim_le l.dropLast
  have l2 := congrArg List.length h
  simp at l2 this
  omega
/-- A number of k parts that has no zero at its end is at least base^(k-1). -/
theorem norm_ge {l : List Nat} (h : Norm l) (hne : l ≠ []) : 1000000000 ^ (l.length - 1) ≤ val l := by
  obtain ⟨m, a, rfl, ha⟩ := norm_last h hne
  rw [val_snoc, List.length_append]
  simp only [List.length_cons, List.length_nil, Nat.zero_add, Nat.add_sub_cancel]
  have : 1000000000 ^ m.length * 1 ≤ 1000000000 ^ m.length * a := Nat.mul_le_mul_left _ (by omega)
  omega
theorem norm_val_zero {l : List Nat} (h : Norm l) : val l = 0 ↔ l = [] := by
  constructor
  · intro h0
    by_cases hne : l = []
    · exact hne
    · have := norm_ge h hne
      have : 1 ≤ 1000000000 ^ (l.length - 1) := Nat.one_le_pow _ _ (by decide)
      omega
  · rintro rfl; rfl
theorem norm_len_lt {l m : List Nat} (ol : Ok l) (nm : Norm m) (h : l.length < m.length) : val l < val m := by
  have hne : m ≠ [] := by intro e; simp [e] at h
  have h1 := norm_ge nm hne
  have h2 := val_lt ol
  have h3 : 1000000000 ^ l.length ≤ 1000000000 ^ (m.length - 1) := Nat.pow_le_pow_right (by decide) (by omega)
  omega
theorem val_inj : ∀ {l m : List Nat}, Ok l → Ok m → Norm l → Norm m → val l = val m → l = m
  | [], m, _, _, _, nm, h => ((norm_val_zero nm).1 h.symm).symm
  | a :: r, [], _, _, nl, _, h => (norm_val_zero nl).1 h
  | a :: r, b :: s, ol, om, nl, nm, h => by
    obtain ⟨a1, a2⟩ := ok_cons.1 ol
    obtain ⟨b1, b2⟩ := ok_cons.1 om
    simp only [val] at h
    have e1 : a = b := by omega
    have e2 : val r = val s := by omega
    rw [e1, val_inj a2 b2 (norm_cons nl) (norm_cons nm) e2]
/-- 0, 1, -1: as a is, seen from b. -/
def cmpN (a b : Nat) : Int := if a < b then -1 else if b < a then 1 else 0
def cmpI (a b : Int) : Int := if a < b then -1 else if b < a then 1 else 0
/-- The parts behind place k decide. -/
theorem val_drop (l : List Nat) (k : Nat) (h : k ≤ l.length) : val l = val (l.take k) + 1000000000 ^ k * val (l.drop k) := by
  conv => lhs; rw [← List.take_append_drop k l, val_append, List.length_take, Nat.min_eq_left h]
theorem cmp_drop {l m : List Nat} (ol : Ok l) (om : Ok m) (hlen : l.length = m.length) {k : Nat} (hk : k < l.length) (he : l.drop (k + 1) = m.drop (k + 1)) (hlt : l[k] < m[k]'(hlen ▸ hk)) : val l < val m := by
  have hk' : k < m.length := hlen ▸ hk
  rw [val_drop l k (by omega), val_drop m k (by omega), List.drop_eq_getElem_cons hk, List.drop_eq_getElem_cons hk', he, val_cons, val_cons]
  have h1 := val_lt (ok_take ol k)
  rw [List.length_take, Nat.min_eq_left (by omega)] at h1
  have h2 : 1000000000 ^ k * (l[k] + 1 + 1000000000 * val (m.drop (k + 1))) ≤ 1000000000 ^ k * (m[k] + 1000000000 * val (m.drop (k + 1))) := Nat.mul_le_mul_left _ (by omega)
  rw [show l[k] + 1 + 1000000000 * val (m.drop (k + 1)) = (l[k] + 1000000000 * val (m.drop (k + 1))) + 1 from by omega, Nat.mul_add, Nat.mul_one] at h2
  omega
end Go.Proofs.YtlhbejeninjmoaaGreatDoor
namespace Go.Proofs.YtlhbejeninjmoaaGreatDoor
set_option linter.unusedVariables false
set_option linter.unusedSimpArgs false
open Go.RowKit

/-- A slice of parts that is only read: nil, or at an address whose cells are the parts. -/
def Sz (w : World) (A : Option Addr) (l : List Nat) : Prop :=
  (A = none ∧ l = []) ∨ ∃ b o, A = some ⟨b, o, none⟩ ∧ b < w.heap.size ∧ ∀ i (h : i < l.length), w.cell? ⟨b, o + i, none⟩ = some (.int .u32 l[i])

theorem Sz.at_ {w : World} {A : Option Addr} {l : List Nat} (h : Sz w A l) (hne : l ≠ []) :
    ∃ b o, A = some ⟨b, o, none⟩ ∧ b < w.heap.size ∧ ∀ i (h : i < l.length), w.cell? ⟨b, o + i, none⟩ = some (.int .u32 l[i]) := by
  rcases h with ⟨_, e⟩ | h
  · exact absurd e hne
  · exact h
theorem Sz.below {w w' : World} {A : Option Addr} {l : List Nat} (h : Sz w A l) (hb : Below w.heap.size w w') : Sz w' A l := by
  rcases h with h | ⟨b, o, e, hlt, hc⟩
  · exact .inl h
  · exact .inr ⟨b, o, e, Nat.lt_of_lt_of_le hlt hb.size, fun i hi => (hb.cell (p := ⟨b, o + i, none⟩) hlt).trans (hc i hi)⟩

theorem ret_slice {A : Option Addr} {n m c : Nat} (h : n = m) : Ending.returned (.slice A n c) = .returned (.slice A m c) := by rw [h]
theorem ret_int {k : IntKind} {a b : Int} (h : a = b) : Ending.returned (.int k a) = .returned (.int k b) := by rw [h]
theorem ret_str {a b : ByteArray} (h : a = b) : Ending.returned (.string a) = .returned (.string b) := by rw [h]
theorem trim_take_succ {l : List Nat} {m : Nat} (h : m < l.length) (h0 : l[m] = 0) : trim (l.take (m + 1)) = trim (l.take m) := by
  rw [List.take_succ_eq_append_getElem h, h0, trim_snoc_zero]
theorem trim_take_stop {l : List Nat} {m : Nat} (h : m < l.length) (h0 : l[m] ≠ 0) : (trim (l.take (m + 1))).length = m + 1 := by
  rw [List.take_succ_eq_append_getElem h, trim_snoc h0]
  simp; omega

set_option maxHeartbeats 400000 in
theorem trimmed_any (A : Option Addr) (l : List Nat) (c : Nat) (w : World) (hs : Sz w A l) (hc : l.length ≤ c) (hm : c ≤ maxLen) :
    Calls Tryz.prog 134 #[.slice A l.length c] w fun e w' => e = .returned (.slice A (trim l).length c) ∧ w = w' := by
  unfold maxLen at hm
  rcases hs with ⟨rfl, rfl⟩ | ⟨b, o, rfl, hlt, hcell⟩
  · go_enter Tryz.func134, Tryz.ntmps134
    go_wp2
    go_loop [0] (fun v => v = .slice none 0 c) (fun _ => 0)
    case atStart => rfl
    case round =>
      subst hrel
      go_wp2
      go_ret
      exact ⟨rfl, rfl⟩
  · go_enter Tryz.func134, Tryz.ntmps134
    go_wp2
    go_loop [0] (fun v => ∃ m : Nat, m ≤ l.length ∧ v = .slice (some ⟨b, o, none⟩) m c ∧ trim (l.take m) = trim l) (fun v => match v with | .slice _ n _ => n | _ => 0)
    case atStart => exact ⟨l.length, Nat.le_refl _, rfl, by simp⟩
    case round =>
      obtain ⟨m, hml, rfl, hE⟩ := hrel
      have HE := Lib.hid hE
      clear hE
      rcases m with _ | m
      · go_wp2
        go_ret
        have h1 := HE.out
        simp [trim] at h1
        exact ⟨ret_slice (by rw [h1]; rfl), rfl⟩
      · have hcm := hcell m (by omega)
        by_cases h0 : l[m] = 0
        · rw [h0] at hcm
          go_wp2
          go_round
          case rel => exact ⟨m, by omega, rfl, by rw [← trim_take_succ (by omega) h0]; exact HE.out⟩
          case measure => simp
        · have hne : (((l[m] : Nat) : Int) == 0) = false := by simp; omega
          go_wp2
          go_ret
          exact ⟨ret_slice (by rw [← HE.out, trim_take_stop (by omega) h0]), rfl⟩
end Go.Proofs.YtlhbejeninjmoaaGreatDoor
namespace Go.Proofs.YtlhbejeninjmoaaGreatDoor
set_option linter.unusedVariables false
set_option linter.unusedSimpArgs false
open Go.RowKit

set_option maxHeartbeats 400000 in
theorem cmp32_any (a b : Int) (w : World) : Calls Tryz.prog 136 #[.int .u32 a, .int .u32 b] w fun e w' => e = .returned (.int .i64 (cmpI a b)) ∧ w = w' := by
  unfold cmpI
  rcases Int.lt_trichotomy a b with h | rfl | h
  · rw [if_pos h]
    go_enter Tryz.func136, Tryz.ntmps136
    go_wp2
    go_ret
    exact ⟨rfl, rfl⟩
  · rw [if_neg (by omega), if_neg (by omega)]
    go_enter Tryz.func136, Tryz.ntmps136
    go_wp2
    go_ret
    exact ⟨rfl, rfl⟩
  · rw [if_neg (by omega), if_pos h]
    have h' : ¬ a < b := by omega
    go_enter Tryz.func136, Tryz.ntmps136
    go_wp2
    go_ret
    exact ⟨rfl, rfl⟩
set_option maxHeartbeats 400000 in
theorem cmpi_any (a b : Int) (w : World) : Calls Tryz.prog 135 #[.int .i64 a, .int .i64 b] w fun e w' => e = .returned (.int .i64 (cmpI a b)) ∧ w = w' := by
  unfold cmpI
  rcases Int.lt_trichotomy a b with h | rfl | h
  · rw [if_pos h]
    go_enter Tryz.func135, Tryz.ntmps135
    go_wp2
    go_ret
    exact ⟨rfl, rfl⟩
  · rw [if_neg (by omega), if_neg (by omega)]
    go_enter Tryz.func135, Tryz.ntmps135
    go_wp2
    go_ret
    exact ⟨rfl, rfl⟩
  · rw [if_neg (by omega), if_pos h]
    have h' : ¬ a < b := by omega
    go_enter Tryz.func135, Tryz.ntmps135
    go_wp2
    go_ret
    exact ⟨rfl, rfl⟩
set_option maxHeartbeats 400000 in
theorem cmps_any (a b : Int) (w : World) : Calls Tryz.prog 125 #[.int .i64 a, .int .i64 b] w fun e w' => e = .returned (.int .i64 (cmpI a b)) ∧ w = w' := by
  unfold cmpI
  rcases Int.lt_trichotomy a b with h | rfl | h
  · rw [if_pos h]
    go_enter Tryz.func125, Tryz.ntmps125
    go_wp2
    go_ret
    exact ⟨rfl, rfl⟩
  · rw [if_neg (by omega), if_neg (by omega)]
    go_enter Tryz.func125, Tryz.ntmps125
    go_wp2
    go_ret
    exact ⟨rfl, rfl⟩
  · rw [if_neg (by omega), if_pos h]
    have h' : ¬ a < b := by omega
    go_enter Tryz.func125, Tryz.ntmps125
    go_wp2
    go_ret
    exact ⟨rfl, rfl⟩

theorem cmpI_nat (a b : Nat) : cmpI (a : Int) (b : Int) = cmpN a b := by unfold cmpI cmpN; simp only [Int.ofNat_lt]
theorem cmpN_eq {a b : Nat} : cmpN a b = 0 ↔ a = b := by unfold cmpN; split <;> (try split) <;> omega
theorem cmpN_lt {a b : Nat} (h : a < b) : cmpN a b = -1 := by unfold cmpN; rw [if_pos h]
theorem cmpN_gt {a b : Nat} (h : b < a) : cmpN a b = 1 := by unfold cmpN; rw [if_neg (by omega), if_pos h]
theorem cmpN_self (a : Nat) : cmpN a a = 0 := cmpN_eq.2 rfl
theorem cmp_of_drop {l m : List Nat} (ol : Ok l) (om : Ok m) (hlen : l.length = m.length) {k : Nat} (hk : k < l.length) (hk' : k < m.length) (he : l.drop (k + 1) = m.drop (k + 1)) (hne : l[k] ≠ m[k]) :
    cmpN l[k] m[k] = cmpN (val l) (val m) := by
  rcases Nat.lt_or_gt_of_ne hne with h | h
  · rw [cmpN_lt h, cmpN_lt (cmp_drop ol om hlen hk he h)]
  · rw [cmpN_gt h, cmpN_gt (cmp_drop om ol hlen.symm hk' he.symm h)]

/-- Two sizes without zeros at their ends. -/
def CmpVal (l m : List Nat) : Int := cmpN (val l) (val m)
theorem cmp_len {l m : List Nat} (ol : Ok l) (om : Ok m) (nl : Norm l) (nm : Norm m) (h : l.length ≠ m.length) : cmpN l.length m.length = CmpVal l m := by
  unfold CmpVal
  rcases Nat.lt_or_gt_of_ne h with h | h
  · rw [cmpN_lt h, cmpN_lt (norm_len_lt ol nm h)]
  · rw [cmpN_gt h, cmpN_gt (norm_len_lt om nl h)]

def Same (l m : List Nat) (k : Nat) : Prop := l.drop k = m.drop k
theorem same_down {l m : List Nat} {k : Nat} (hk : k < l.length) (hk' : k < m.length) (h : Same l m (k + 1)) (he : l[k] = m[k]) : Same l m k := by
  unfold Same at *
  rw [List.drop_eq_getElem_cons hk, List.drop_eq_getElem_cons hk', h, he]

def Drawn (w w' : World) : Prop := ∃ n, w' = w.drewN n
theorem Drawn.refl (w : World) : Drawn w w := ⟨0, rfl⟩
theorem Drawn.cell {w w' : World} (h : Drawn w w') (a : Addr) : w'.cell? a = w.cell? a := by obtain ⟨n, rfl⟩ := h; rfl
theorem Drawn.more {w w' : World} (h : Drawn w w') (n : Nat) : Drawn w (w'.drewN n) := by
  obtain ⟨m, rfl⟩ := h
  exact ⟨m + n, by rw [World.drewN_drewN]⟩
theorem Drawn.heap {w w' : World} (h : Drawn w w') : w'.heap = w.heap := by obtain ⟨n, rfl⟩ := h; rfl
theorem cmp_at {a b z : Int} (h : cmpI a b = z) (w : World) : Calls Tryz.prog 135 #[.int .i64 a, .int .i64 b] w fun e w' => e = .returned (.int .i64 z) ∧ w = w' := by
  rw [← h]; exact cmpi_any a b w
theorem cmp32_q {a b z : Int} (h : cmpI a b = z) (w : World) : Calls Tryz.prog 136 #[.int .u32 a, .int .u32 b] w fun e w' => e = .returned (.int .i64 z) ∧ w' = w := by
  rw [← h]; exact (cmp32_any a b w).mono fun _ _ h => ⟨h.1, h.2.symm⟩

set_option maxHeartbeats 800000 in
theorem compared_any (A B : Option Addr) (l m : List Nat) (c d : Nat) (w : World) (hA : Sz w A l) (hB : Sz w B m) (ol : Ok l) (om : Ok m) (nl : Norm l) (nm : Norm m) (hc : l.length ≤ maxLen) (hd : m.length ≤ maxLen) :
    Calls Tryz.prog 118 #[.slice A l.length c, .slice B m.length d] w fun e w' => e = .returned (.int .i64 (CmpVal l m)) ∧ Drawn w w' := by
  unfold maxLen at hc hd
  by_cases hlen : l.length = m.length
  · have hz : cmpI (l.length : Int) (m.length : Int) = 0 := by rw [cmpI_nat, cmpN_eq.2 hlen]
    by_cases hne : l = []
    · subst hne
      have hm0 : m = [] := List.eq_nil_of_length_eq_zero hlen.symm
      subst hm0
      have H1 := Lib.hid (cmp_at hz w)
      clear hz
      go_enter Tryz.func118, Tryz.ntmps118
      go_wp2_with fail
      refine H1.out.mono ?_
      rintro e w1 ⟨rfl, rfl⟩
      go_wp2_with fail
      go_loop [6] (fun i => i = .int .i64 (-1)) (fun _ => 0)
      case atStart => rfl
      case round =>
        subst hrel
        go_wp2_with fail
        go_ret
        exact ⟨rfl, Drawn.refl _⟩
    · obtain ⟨b, o, rfl, hlt, hcell⟩ := hA.at_ hne
      obtain ⟨b', o', rfl, hlt', hcell'⟩ := hB.at_ (by rintro rfl; exact hne (List.eq_nil_of_length_eq_zero hlen))
      have H1 := Lib.hid (cmp_at hz w)
      have HL := Lib.hid hlen
      have h1 : 1 ≤ l.length := by cases l with
        | nil => exact absurd rfl hne
        | cons a r => simp
      have h2 : l.length ≤ m.length ∧ m.length ≤ l.length := by omega
      clear hz hlen hA hB
      go_enter Tryz.func118, Tryz.ntmps118
      go_wp2_with fail
      refine H1.out.mono ?_
      rintro e w1 ⟨rfl, rfl⟩
      go_wp2_with fail
      go_loopw [6] (fun i wr => ∃ k : Nat, k ≤ l.length ∧ i = .int .i64 ((k : Int) - 1) ∧ Same l m k ∧ Drawn w wr) (fun i _ => (intOf i + 1).toNat)
      case atStart => exact ⟨l.length, Nat.le_refl _, rfl, by unfold Same; rw [List.drop_length, HL.out, List.drop_length], Drawn.refl _⟩
      case round =>
        obtain ⟨k, hk, rfl, hS, hW⟩ := hrel
        rcases k with _ | k
        · go_wp2_with fail
          go_ret
          have hv : l = m := by simpa [Same] using hS
          exact ⟨ret_int (by unfold CmpVal; rw [hv, cmpN_self]), hW⟩
        · have hcl := (hW.cell ⟨b, o + k, none⟩).trans (hcell k (by omega))
          have hcm := (hW.cell ⟨b', o' + k, none⟩).trans (hcell' k (by omega))
          have e1 : ((k + 1 : Nat) : Int) - 1 = (k : Int) := by omega
          rw [e1]
          by_cases he : l[k] = m[k]
          · have hq := cmp32_q (show cmpI (l[k] : Int) (m[k] : Int) = 0 by rw [cmpI_nat, cmpN_eq.2 he])
            have HQ := Lib.hid hq
            have HE := Lib.hid he
            clear hq he
            go_wp2_with fail
            go_quiet ((go_at_call 136; exact Calls.quiet_of_same (HQ.out _)))
            go_wp2_with fail
            go_roundw
            case rel => exact ⟨k, by omega, rfl, same_down (by omega) (by omega) hS HE.out, hW.more _⟩
            case measure => simp [intOf]
          · obtain ⟨z, hzz⟩ : ∃ z, z = CmpVal l m := ⟨_, rfl⟩
            have hv : cmpN l[k] m[k] = z := by rw [hzz]; exact cmp_of_drop ol om HL.out (by omega) (by omega) hS he
            have hz1 : (z != 0) = true := by rw [bne_iff_ne, ← hv]; exact fun h => he (cmpN_eq.1 h)
            have hq := cmp32_q (show cmpI (l[k] : Int) (m[k] : Int) = z by rw [cmpI_nat, hv])
            have HQ := Lib.hid hq
            have HZ := Lib.hid hzz
            clear hq hv hzz he
            go_wp2_with fail
            go_quiet ((go_at_call 136; exact Calls.quiet_of_same (HQ.out _)))
            go_wp2_with fail
            go_ret
            exact ⟨ret_int HZ.out, hW.more _⟩
  · have hz := cmp_len ol om nl nm hlen
    have hn : cmpI (l.length : Int) (m.length : Int) ≠ 0 := by rw [cmpI_nat]; intro h; exact hlen (cmpN_eq.1 h)
    rw [← cmpI_nat] at hz
    rw [hz] at hn
    have hn' : (CmpVal l m != 0) = true := by rw [bne_iff_ne]; exact hn
    have H1 := Lib.hid (cmp_at hz w)
    clear hz hn
    go_enter Tryz.func118, Tryz.ntmps118
    go_wp2_with fail
    refine H1.out.mono ?_
    rintro e w1 ⟨rfl, rfl⟩
    go_wp2_with fail
    go_ret
    exact ⟨rfl, Drawn.refl _⟩
end Go.Proofs.YtlhbejeninjmoaaGreatDoor

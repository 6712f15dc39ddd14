/-
  Trees as lists of nodes, plainly: from how many trees are below each node, where trees end, how deep they are, where those below begin; and a stack of what is still missing. (Imports nothing of the program.)
-/
import Init
namespace Go.Proofs.Ytiopemimancliaa

/-- Where m trees end that begin here, at place p. -/
def em : List Int → Nat → Nat → Option Nat
  | [], 0, p => some p
  | [], _ + 1, _ => none
  | _ :: _, 0, p => some p
  | k :: r, m + 1, p => if k < 0 then none else em r (m + k.toNat) (p + 1)
def eN (K : List Int) (m p : Nat) : Option Nat := em (K.drop p) m p
theorem eN_zero (K : List Int) (p : Nat) : eN K 0 p = some p := by
  unfold eN
  cases K.drop p <;> rfl
theorem eN_out {K : List Int} {p : Nat} (h : K.length ≤ p) (m : Nat) : eN K (m + 1) p = none := by
  unfold eN
  rw [List.drop_eq_nil_of_le h]; rfl
theorem eN_at {K : List Int} {p : Nat} {k : Int} (h : K[p]? = some k) (m : Nat) : eN K (m + 1) p = if k < 0 then none else eN K (m + k.toNat) (p + 1) := by
  obtain ⟨hl, rfl⟩ := List.getElem?_eq_some_iff.1 h
  unfold eN
  rw [List.drop_eq_getElem_cons hl]; rfl
theorem eN_add (K : List Int) : ∀ n p, K.length - p ≤ n → ∀ a b, eN K (a + b) p = (eN K a p).bind (fun q => eN K b q) := by
  intro n
  induction n with
  | zero =>
    intro p hp a b
    cases a with
    | zero => rw [Nat.zero_add, eN_zero]; rfl
    | succ a => rw [Nat.add_right_comm, eN_out (by omega), eN_out (by omega)]; rfl
  | succ n ih =>
    intro p hp a b
    cases a with
    | zero => rw [Nat.zero_add, eN_zero]; rfl
    | succ a =>
      by_cases hl : p < K.length
      · have hk : K[p]? = some K[p] := List.getElem?_eq_getElem hl
        rw [Nat.add_right_comm, eN_at hk, eN_at hk]
        split
        · rfl
        · rw [Nat.add_right_comm]
          exact ih (p + 1) (by omega) _ _
      · rw [Nat.add_right_comm, eN_out (by omega), eN_out (by omega)]; rfl
theorem eN_sum (K : List Int) (a b p : Nat) : eN K (a + b) p = (eN K a p).bind (fun q => eN K b q) := eN_add K _ p (Nat.le_refl _) a b
/-- m trees from p to e, the deepest of them d deep. -/
inductive Fd (K : List Int) : Nat → Nat → Nat → Nat → Prop
  | nil (p : Nat) : Fd K p 0 p 0
  | cons {p m q e d1 d2 : Nat} {k : Int} (h : K[p]? = some k) (h0 : 0 ≤ k) (hk : Fd K (p + 1) k.toNat q d1) (hr : Fd K q m e d2) : Fd K p (m + 1) e (max (1 + d1) d2)
variable {K : List Int}
theorem Fd.le {p m e d : Nat} (h : Fd K p m e d) : p + m ≤ e ∧ (p ≤ K.length → e ≤ K.length) := by
  induction h with
  | nil p => exact ⟨Nat.le_refl _, id⟩
  | cons h h0 hk hr i1 i2 =>
    have := (List.getElem?_eq_some_iff.1 h).1
    exact ⟨by omega, fun _ => i2.2 (i1.2 (by omega))⟩
theorem Fd.deep {p m e d : Nat} (h : Fd K p m e d) : d ≤ e - p := by
  induction h with
  | nil p => omega
  | cons h h0 hk hr i1 i2 =>
    have := hk.le.1
    have := hr.le.1
    omega
theorem Fd.lt {p m e d : Nat} (h : Fd K p m e d) (hm : 0 < m) : p < K.length := by
  cases h with
  | nil => omega
  | cons h => exact (List.getElem?_eq_some_iff.1 h).1
theorem Fd.ends {p m e d : Nat} (h : Fd K p m e d) : eN K m p = some e := by
  induction h with
  | nil p => exact eN_zero K p
  | cons h h0 hk hr i1 i2 =>
    rw [eN_at h, if_neg (by omega), Nat.add_comm, eN_sum, i1]
    exact i2
theorem Fd.of_ends (K : List Int) : ∀ n p, K.length - p ≤ n → ∀ m e, eN K m p = some e → ∃ d, Fd K p m e d := by
  intro n
  induction n with
  | zero =>
    intro p hp m e he
    cases m with
    | zero => rw [eN_zero] at he; cases he; exact ⟨0, .nil p⟩
    | succ m => rw [eN_out (by omega)] at he; cases he
  | succ n ih =>
    intro p hp m e he
    cases m with
    | zero => rw [eN_zero] at he; cases he; exact ⟨0, .nil p⟩
    | succ m =>
      by_cases hl : p < K.length
      · have hk : K[p]? = some K[p] := List.getElem?_eq_getElem hl
        rw [eN_at hk] at he
        split at he
        · cases he
        · rename_i h0
          rw [Nat.add_comm, eN_sum, Option.bind_eq_some_iff] at he
          obtain ⟨q, h1, h2⟩ := he
          obtain ⟨d1, g1⟩ := ih (p + 1) (by omega) _ _ h1
          have := g1.le
          obtain ⟨d2, g2⟩ := ih q (by omega) _ _ h2
          exact ⟨_, .cons hk (by omega) g1 g2⟩
      · rw [eN_out (by omega)] at he; cases he
theorem Fd.ex {p m e : Nat} (h : eN K m p = some e) : ∃ d, Fd K p m e d := Fd.of_ends K _ p (Nat.le_refl _) m e h
theorem Fd.det {p m e d : Nat} (h : Fd K p m e d) : ∀ {e' d' : Nat}, Fd K p m e' d' → e = e' ∧ d = d' := by
  induction h with
  | nil p =>
    intro e' d' h'
    cases h'
    exact ⟨rfl, rfl⟩
  | cons h h0 hk hr i1 i2 =>
    intro e' d' h'
    cases h' with
    | cons g g0 gk gr =>
      rw [h] at g
      cases g
      obtain ⟨rfl, rfl⟩ := i1 gk
      obtain ⟨rfl, rfl⟩ := i2 gr
      exact ⟨rfl, rfl⟩
theorem Fd.move {p m e d : Nat} (h : Fd K p m e d) {K' : List Int} {s : Nat} : s ≤ p → (∀ i, p ≤ i → i < e → K'[i - s]? = K[i]?) → Fd K' (p - s) m (e - s) d := by
  induction h with
  | nil p => exact fun _ _ => .nil _
  | @cons p m q e d1 d2 k h h0 hk hr i1 i2 =>
    intro hs hK
    have l1 := hk.le.1
    have l2 := hr.le.1
    have g1 := i1 (by omega) (fun i hi hi2 => hK i (by omega) (by omega))
    rw [show p + 1 - s = p - s + 1 by omega] at g1
    exact .cons (by rw [hK p (Nat.le_refl _) (by omega)]; exact h) h0 g1 (i2 (by omega) (fun i hi hi2 => hK i (by omega) (by omega)))
/-- One tree more is a tree at the front and the others. -/
theorem Fd.inv {p m e d : Nat} (h : Fd K p (m + 1) e d) : ∃ k q d1 d2, K[p]? = some k ∧ 0 ≤ k ∧ Fd K (p + 1) k.toNat q d1 ∧ Fd K p 1 q (1 + d1) ∧ Fd K q m e d2 ∧ d = max (1 + d1) d2 := by
  cases h with
  | cons h h0 hk hr =>
    have := Fd.cons h h0 hk (.nil _)
    rw [Nat.max_eq_left (by omega)] at this
    exact ⟨_, _, _, _, h, h0, hk, this, hr, rfl⟩
theorem Fd.inv0 {p e d : Nat} (h : Fd K p 0 e d) : e = p ∧ d = 0 := by
  cases h
  exact ⟨rfl, rfl⟩
/-- Where m trees begin, one behind the other. -/
def un (K : List Int) : Nat → Nat → List Nat
  | 0, _ => []
  | m + 1, p => p :: (match eN K 1 p with | some q => un K m q | none => [])
theorem un_cons {m p q : Nat} (h : eN K 1 p = some q) : un K (m + 1) p = p :: un K m q := by
  show p :: (match eN K 1 p with | some q => un K m q | none => []) = _
  rw [h]
theorem Fd.un_len {m : Nat} : ∀ {p e d : Nat}, Fd K p m e d → (un K m p).length = m := by
  induction m with
  | zero => exact fun _ => rfl
  | succ m ih =>
    intro p e d h
    obtain ⟨k, q, d1, d2, _, _, _, h1, h2, _⟩ := h.inv
    rw [un_cons h1.ends, List.length_cons, ih h2]
/-- A stack, the top first, of how many trees are still missing, from i to e; d: how deep they come. -/
def Fin (K : List Int) : List Nat → Nat → Nat → Nat → Prop
  | [], i, e, d => i = e ∧ d = 0
  | m :: r, i, e, d => ∃ j d1 d2, Fd K i m j d1 ∧ Fin K r j e d2 ∧ d = max (r.length + d1) d2
theorem Fin.le : ∀ {L : List Nat} {i e d : Nat}, Fin K L i e d → i ≤ e
  | [], _, _, _, h => Nat.le_of_eq h.1
  | _ :: _, _, _, _, ⟨_, _, _, h1, h2, _⟩ => Nat.le_trans (Nat.le_trans (Nat.le_add_right _ _) h1.le.1) h2.le
theorem Fin.head_le {m i e d : Nat} {r : List Nat} (h : Fin K (m :: r) i e d) : i + m ≤ e := by
  obtain ⟨j, d1, d2, h1, h2, _⟩ := h
  have := h1.le.1
  have := h2.le
  omega
theorem Fin.start {e d : Nat} (h : Fd K 0 1 e d) : Fin K [1] 0 e d := ⟨e, d, 0, h, ⟨rfl, rfl⟩, by simp⟩
theorem Fin.push {m i e d : Nat} {r : List Nat} (h : Fin K ((m + 1) :: r) i e d) : ∃ k : Nat, K[i]? = some (k : Int) ∧ Fin K (k :: m :: r) (i + 1) e d ∧ r.length + 1 ≤ d ∧ i < e := by
  obtain ⟨j, d1, d2, h1, h2, rfl⟩ := h
  obtain ⟨k, q, d3, d4, hk, h0, g1, _, g2, rfl⟩ := h1.inv
  have := g1.le.1
  have := g2.le.1
  have := h2.le
  exact ⟨k.toNat, by rw [hk, Int.toNat_of_nonneg h0], ⟨q, d3, max (r.length + d4) d2, g1, ⟨j, d4, d2, g2, h2, rfl⟩, by simp only [List.length_cons]; omega⟩, by omega, by omega⟩
theorem Fin.pop {m i e d D x : Nat} {r : List Nat} (h : Fin K (0 :: m :: r) i e d) (hx : (m :: r).length ≤ x) (hD : D = max x d) : ∃ d', Fin K (m :: r) i e d' ∧ D = max x d' := by
  obtain ⟨j, d1, d2, h1, h2, rfl⟩ := h
  obtain ⟨rfl, rfl⟩ := h1.inv0
  exact ⟨d2, h2, by omega⟩
/-- At the end nothing is missing. -/
theorem Fin.done {m e d : Nat} {r : List Nat} (h : Fin K (m :: r) e e d) (hm : r = [] ∨ 1 ≤ m) : d = 0 := by
  obtain ⟨j, d1, d2, h1, h2, rfl⟩ := h
  have l1 := h1.le.1
  have l2 := h2.le
  obtain rfl : m = 0 := by omega
  obtain ⟨rfl, rfl⟩ := h1.inv0
  rcases hm with rfl | h
  · obtain ⟨_, rfl⟩ := h2
    rfl
  · omega
theorem Fin.more {m i e d : Nat} {r : List Nat} (h : Fin K (m :: r) i e d) (hm : r = [] ∨ 1 ≤ m) (hi : i < e) : ∃ m', m = m' + 1 := by
  cases m with
  | succ m => exact ⟨m, rfl⟩
  | zero =>
    rcases hm with rfl | h0
    · obtain ⟨j, d1, d2, h1, h2, rfl⟩ := h
      obtain ⟨rfl, rfl⟩ := h1.inv0
      obtain ⟨rfl, _⟩ := h2
      omega
    · omega
/-- What lies in memory of a stack: the last one is nobody's; all but the top count the one that is gone through. -/
def pl : List Nat → List Int
  | [] => []
  | [_] => []
  | m :: m' :: r => ((m : Int) + 1) :: pl (m' :: r)
def mm : List Nat → List Int
  | [] => []
  | [_] => []
  | t :: m :: r => (pl (m :: r)).reverse ++ [(t : Int)]
theorem pl_len : ∀ L, (pl L).length = L.length - 1
  | [] => rfl
  | [_] => rfl
  | m :: m' :: r => by
    show (pl (m' :: r)).length + 1 = _
    rw [pl_len (m' :: r)]; simp
theorem mm_len (L : List Nat) : (mm L).length = L.length - 1 := by
  match L with
  | [] => rfl
  | [_] => rfl
  | t :: m :: r => show ((pl (m :: r)).reverse ++ _).length = _; rw [List.length_append, List.length_reverse, pl_len]; simp
theorem mm_push (k m : Nat) (r : List Nat) : mm (k :: m :: r) = mm ((m + 1) :: r) ++ [(k : Int)] := by
  show (pl (m :: r)).reverse ++ _ = _
  congr 1
  cases r with
  | nil => rfl
  | cons a r =>
    show (((m : Int) + 1) :: pl (a :: r)).reverse = (pl (a :: r)).reverse ++ [((m + 1 : Nat) : Int)]
    rw [List.reverse_cons]; simp
theorem mm_top (t m : Nat) (r : List Nat) : (mm (t :: m :: r))[r.length]? = some (t : Int) := by
  have : (pl (m :: r)).reverse.length = r.length := by rw [List.length_reverse, pl_len]; simp
  show ((pl (m :: r)).reverse ++ _)[r.length]? = _
  rw [List.getElem?_append_right (by omega), this, Nat.sub_self]; rfl
theorem mm_take (t m : Nat) (r : List Nat) : (mm (t :: m :: r)).take r.length = (pl (m :: r)).reverse := by
  have : (pl (m :: r)).reverse.length = r.length := by rw [List.length_reverse, pl_len]; simp
  show ((pl (m :: r)).reverse ++ _).take r.length = _
  rw [List.take_append_of_le_length (by omega), List.take_of_length_le (by omega)]
theorem pl_last (m a : Nat) (r : List Nat) : (pl (m :: a :: r)).reverse[r.length]? = some ((m : Int) + 1) ∧ (pl (m :: a :: r)).reverse.set r.length (m : Int) = mm (m :: a :: r) := by
  have : (pl (a :: r)).reverse.length = r.length := by rw [List.length_reverse, pl_len]; simp
  show (((m : Int) + 1) :: pl (a :: r)).reverse[r.length]? = _ ∧ (((m : Int) + 1) :: pl (a :: r)).reverse.set r.length _ = (pl (a :: r)).reverse ++ [(m : Int)]
  rw [List.reverse_cons]
  constructor
  · rw [List.getElem?_append_right (by omega), this, Nat.sub_self]; rfl
  · rw [List.set_append_right _ _ (by omega), this, Nat.sub_self]; rfl
end Go.Proofs.Ytiopemimancliaa

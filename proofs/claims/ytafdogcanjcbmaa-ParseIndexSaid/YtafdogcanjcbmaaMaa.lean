import Init
/-
  Trees as lists of nodes, plainly: from how many trees are below each node, where trees end, how deep they are, where those below begin; and a stack of what is still missing. (Imports nothing of the program.)
-/
namespace Go.Proofs.Ytafdogcanjcbmaa
set_option linter.unusedVariables false
set_option linter.unusedSimpArgs false

/-- Where m trees end that begin here, at place p. -/
def em : List Int → Nat → Nat → Option Nat
  | [], 0, p => some p
  | [], _ + 1, _ => none
  | _ :: _, 0, p => some p
  | k :: r, m + 1, p => if k < 0 then none else em r (m + k.toNat) (p + 1)
def eN (K : List Int) (m p : Nat) : Option Nat := em (K.drop p) m p
theorem eN_zero (K : List Int) (p : Nat) : eN K 0 p = some p := by
  unfold eN
  cases K.drop p <;> rfl
theorem eN_out {K : List Int} {p : Nat} (h : K.length ≤ p) (m : Nat) : eN K (m + 1) p = none := by
  unfold eN
  rw [List.drop_eq_nil_of_le h]; rfl
theorem eN_at {K : List Int} {p : Nat} {k : Int} (h : K[p]? = some k) (m : Nat) : eN K (m + 1) p = if k < 0 then none else eN K (m + k.toNat) (p + 1) := by
  obtain ⟨hl, rfl⟩ := List.getElem?_eq_some_iff.1 h
  unfold eN
  rw [List.drop_eq_getElem_cons hl]; rfl
theorem eN_add (K : List Int) : ∀ n p, K.length - p ≤ n → ∀ a b, eN K (a + b) p = (eN K a p).bind (fun q => eN K b q) := by
  intro n
  induction n with
  | zero =>
    intro p hp a b
    cases a with
    | zero => rw [Nat.zero_add, eN_zero]; rfl
    | succ a => rw [Nat.add_right_comm, eN_out (by omega), eN_out (by omega)]; rfl
  | succ n ih =>
    intro p hp a b
    cases a with
    | zero => rw [Nat.zero_add, eN_zero]; rfl
    | succ a =>
      by_cases hl : p < K.length
      · have hk : K[p]? = some K[p] := List.getElem?_eq_getElem hl
        rw [Nat.add_right_comm, eN_at hk, eN_at hk]
        split
        · rfl
        · rw [Nat.add_right_comm]
          exact ih (p + 1) (by omega) _ _
      · rw [Nat.add_right_comm, eN_out (by omega), eN_out (by omega)]; rfl
theorem eN_sum (K : List Int) (a b p : Nat) : eN K (a + b) p = (eN K a p).bind (fun q => eN K b q) := eN_add K _ p (Nat.le_refl _) a b
/-- m trees from p to e, the deepest of them d deep. -/
inductive Fd (K : List Int) : Nat → Nat → Nat → Nat → Prop
  | nil (p : Nat) : Fd K p 0 p 0
  | cons {p m q e d1 d2 : Nat} {k : Int} (h : K[p]? = some k) (h0 : 0 ≤ k) (hk : Fd K (p + 1) k.toNat q d1) (hr : Fd K q m e d2) : Fd K p (m + 1) e (max (1 + d1) d2)
variable {K : List Int}
theorem Fd.le {p m e d : Nat} (h : Fd K p m e d) : p + m ≤ e ∧ (p ≤ K.length → e ≤ K.length) := by
  induction h with
  | nil p => exact ⟨Nat.le_refl _, id⟩
  | cons h h0 hk hr i1 i2 =>
    have := (List.getElem?_eq_some_iff.1 h).1
    exact ⟨by omega, fun _ => i2.2 (i1.2 (by omega))⟩
theorem Fd.deep {p m e d : Nat} (h : Fd K p m e d) : d ≤ e - p := by
  induction h with
  | nil p => omega
  | cons h h0 hk hr i1 i2 =>
    have := hk.le.1
    have := hr.le.1
    omega
theorem Fd.lt {p m e d : Nat} (h : Fd K p m e d) (hm : 0 < m) : p < K.length := by
  cases h with
  | nil => omega
  | cons h => exact (List.getElem?_eq_some_iff.1 h).1
theorem Fd.ends {p m e d : Nat} (h : Fd K p m e d) : eN K m p = some e := by
  induction h with
  | nil p => exact eN_zero K p
  | cons h h0 hk hr i1 i2 =>
    rw [eN_at h, if_neg (by omega), Nat.add_comm, eN_sum, i1]
    exact i2
theorem Fd.of_ends (K : List Int) : ∀ n p, K.length - p ≤ n → ∀ m e, eN K m p = some e → ∃ d, Fd K p m e d := by
  intro n
  induction n with
  | zero =>
    intro p hp m e he
    cases m with
    | zero => rw [eN_zero] at he; cases he; exact ⟨0, .nil p⟩
    | succ m => rw [eN_out (by omega)] at he; cases he
  | succ n ih =>
    intro p hp m e he
    cases m with
    | zero => rw [eN_zero] at he; cases he; exact ⟨0, .nil p⟩
    | succ m =>
      by_cases hl : p < K.length
      · have hk : K[p]? = some K[p] := List.getElem?_eq_getElem hl
        rw [eN_at hk] at he
        split at he
        · cases he
        · rename_i h0
          rw [Nat.add_comm, eN_sum, Option.bind_eq_some_iff] at he
          obtain ⟨q, h1, h2⟩ := he
          obtain ⟨d1, g1⟩ := ih (p + 1) (by omega) _ _ h1
          have := g1.le
          obtain ⟨d2, g2⟩ := ih q (by omega) _ _ h2
          exact ⟨_, .cons hk (by omega) g1 g2⟩
      · rw [eN_out (by omega)] at he; cases he
theorem Fd.ex {p m e : Nat} (h : eN K m p = some e) : ∃ d, Fd K p m e d := Fd.of_ends K _ p (Nat.le_refl _) m e h
theorem Fd.det {p m e d : Nat} (h : Fd K p m e d) : ∀ {e' d' : Nat}, Fd K p m e' d' → e = e' ∧ d = d' := by
  induction h with
  | nil p =>
    intro e' d' h'
    cases h'
    exact ⟨rfl, rfl⟩
  | cons h h0 hk hr i1 i2 =>
    intro e' d' h'
    cases h' with
    | cons g g0 gk gr =>
      rw [h] at g
      cases g
      obtain ⟨rfl, rfl⟩ := i1 gk
      obtain ⟨rfl, rfl⟩ := i2 gr
      exact ⟨rfl, rfl⟩
theorem Fd.move {p m e d : Nat} (h : Fd K p m e d) {K' : List Int} {s : Nat} : s ≤ p → (∀ i, p ≤ i → i < e → K'[i - s]? = K[i]?) → Fd K' (p - s) m (e - s) d := by
  induction h with
  | nil p => exact fun _ _ => .nil _
  | @cons p m q e d1 d2 k h h0 hk hr i1 i2 =>
    intro hs hK
    have l1 := hk.le.1
    have l2 := hr.le.1
    have g1 := i1 (by omega) (fun i hi hi2 => hK i (by omega) (by omega))
    rw [show p + 1 - s = p - s + 1 by omega] at g1
    exact .cons (by rw [hK p (Nat.le_refl _) (by omega)]; exact h) h0 g1 (i2 (by omega) (fun i hi hi2 => hK i (by omega) (by omega)))
/-- One tree more is a tree at the front and the others. -/
theorem Fd.inv {p m e d : Nat} (h : Fd K p (m + 1) e d) : ∃ k q d1 d2, K[p]? = some k ∧ 0 ≤ k ∧ Fd K (p + 1) k.toNat q d1 ∧ Fd K p 1 q (1 + d1) ∧ Fd K q m e d2 ∧ d = max (1 + d1) d2 := by
  cases h with
  | cons h h0 hk hr =>
    have := Fd.cons h h0 hk (.nil _)
    rw [Nat.max_eq_left (by omega)] at this
    exact ⟨_, _, _, _, h, h0, hk, this, hr, rfl⟩
theorem Fd.inv0 {p e d : Nat} (h : Fd K p 0 e d) : e = p ∧ d = 0 := by
  cases h
  exact ⟨rfl, rfl⟩
/-- Where m trees begin, one behind the other. -/
def un (K : List Int) : Nat → Nat → List Nat
  | 0, _ => []
  | m + 1, p => p :: (match eN K 1 p with | some q => un K m q | none => [])
theorem un_cons {m p q : Nat} (h : eN K 1 p = some q) : un K (m + 1) p = p :: un K m q := by
  show p :: (match eN K 1 p with | some q => un K m q | none => []) = _
  rw [h]
theorem Fd.un_len {m : Nat} : ∀ {p e d : Nat}, Fd K p m e d → (un K m p).length = m := by
  induction m with
  | zero => exact fun _ => rfl
  | succ m ih =>
    intro p e d h
    obtain ⟨k, q, d1, d2, _, _, _, h1, h2, _⟩ := h.inv
    rw [un_cons h1.ends, List.length_cons, ih h2]
/-- A stack, the top first, of how many trees are still missing, from i to e; d: how deep they come. -/
def Fin (K : List Int) : List Nat → Nat → Nat → Nat → Prop
  | [], i, e, d => i = e ∧ d = 0
  | m :: r, i, e, d => ∃ j d1 d2, Fd K i m j d1 ∧ Fin K r j e d2 ∧ d = max (r.length + d1) d2
theorem Fin.le : ∀ {L : List Nat} {i e d : Nat}, Fin K L i e d → i ≤ e
  | [], _, _, _, h => Nat.le_of_eq h.1
  | _ :: _, _, _, _, ⟨_, _, _, h1, h2, _⟩ => Nat.le_trans (Nat.le_trans (Nat.le_add_right _ _) h1.le.1) h2.le
theorem Fin.head_le {m i e d : Nat} {r : List Nat} (h : Fin K (m :: r) i e d) : i + m ≤ e := by
  obtain ⟨j, d1, d2, h1, h2, _⟩ := h
  have := h1.le.1
  have := h2.le
  omega
theorem Fin.start {e d : Nat} (h : Fd K 0 1 e d) : Fin K [1] 0 e d := ⟨e, d, 0, h, ⟨rfl, rfl⟩, by simp⟩
theorem Fin.push {m i e d : Nat} {r : List Nat} (h : Fin K ((m + 1) :: r) i e d) : ∃ k : Nat, K[i]? = some (k : Int) ∧ Fin K (k :: m :: r) (i + 1) e d ∧ r.length + 1 ≤ d ∧ i < e := by
  obtain ⟨j, d1, d2, h1, h2, rfl⟩ := h
  obtain ⟨k, q, d3, d4, hk, h0, g1, _, g2, rfl⟩ := h1.inv
  have := g1.le.1
  have := g2.le.1
  have := h2.le
  exact ⟨k.toNat, by rw [hk, Int.toNat_of_nonneg h0], ⟨q, d3, max (r.length + d4) d2, g1, ⟨j, d4, d2, g2, h2, rfl⟩, by simp only [List.length_cons]; omega⟩, by omega, by omega⟩
theorem Fin.pop {m i e d D x : Nat} {r : List Nat} (h : Fin K (0 :: m :: r) i e d) (hx : (m :: r).length ≤ x) (hD : D = max x d) : ∃ d', Fin K (m :: r) i e d' ∧ D = max x d' := by
  obtain ⟨j, d1, d2, h1, h2, rfl⟩ := h
  obtain ⟨rfl, rfl⟩ := h1.inv0
  exact ⟨d2, h2, by omega⟩
/-- At the end nothing is missing. -/
theorem Fin.done {m e d : Nat} {r : List Nat} (h : Fin K (m :: r) e e d) (hm : r = [] ∨ 1 ≤ m) : d = 0 := by
  obtain ⟨j, d1, d2, h1, h2, rfl⟩ := h
  have l1 := h1.le.1
  have l2 := h2.le
  obtain rfl : m = 0 := by omega
  obtain ⟨rfl, rfl⟩ := h1.inv0
  rcases hm with rfl | h
  · obtain ⟨_, rfl⟩ := h2
    rfl
  · omega
theorem Fin.more {m i e d : Nat} {r : List Nat} (h : Fin K (m :: r) i e d) (hm : r = [] ∨ 1 ≤ m) (hi : i < e) : ∃ m', m = m' + 1 := by
  cases m with
  | succ m => exact ⟨m, rfl⟩
  | zero =>
    rcases hm with rfl | h0
    · obtain ⟨j, d1, d2, h1, h2, rfl⟩ := h
      obtain ⟨rfl, rfl⟩ := h1.inv0
      obtain ⟨rfl, _⟩ := h2
      omega
    · omega
/-- What lies in memory of a stack: the last one is nobody's; all but the top count the one that is gone through. -/
def pl : List Nat → List Int
  | [] => []
  | [_] => []
  | m :: m' :: r => ((m : Int) + 1) :: pl (m' :: r)
def mm : List Nat → List Int
  | [] => []
  | [_] => []
  | t :: m :: r => (pl (m :: r)).reverse ++ [(t : Int)]
theorem pl_len : ∀ L, (pl L).length = L.length - 1
  | [] => rfl
  | [_] => rfl
  | m :: m' :: r => by
    show (pl (m' :: r)).length + 1 = _
    rw [pl_len (m' :: r)]; simp
theorem mm_len (L : List Nat) : (mm L).length = L.length - 1 := by
  match L with
  | [] => rfl
  | [_] => rfl
  | t :: m :: r => show ((pl (m :: r)).reverse ++ _).length = _; rw [List.length_append, List.length_reverse, pl_len]; simp
theorem mm_push (k m : Nat) (r : List Nat) : mm (k :: m :: r) = mm ((m + 1) :: r) ++ [(k : Int)] := by
  show (pl (m :: r)).reverse ++ _ = _
  congr 1
  cases r with
  | nil => rfl
  | cons a r =>
    show (((m : Int) + 1) :: pl (a :: r)).reverse = (pl (a :: r)).reverse ++ [((m + 1 : Nat) : Int)]
    rw [List.reverse_cons]; simp
theorem mm_top (t m : Nat) (r : List Nat) : (mm (t :: m :: r))[r.length]? = some (t : Int) := by
  have : (pl (m :: r)).reverse.length = r.length := by rw [List.length_reverse, pl_len]; simp
  show ((pl (m :: r)).reverse ++ _)[r.length]? = _
  rw [List.getElem?_append_right (by omega), this, Nat.sub_self]; rfl
theorem mm_take (t m : Nat) (r : List Nat) : (mm (t :: m :: r)).take r.length = (pl (m :: r)).reverse := by
  have : (pl (m :: r)).reverse.length = r.length := by rw [List.length_reverse, pl_len]; simp
  show ((pl (m :: r)).reverse ++ _).take r.length = _
  rw [List.take_append_of_le_length (by omega), List.take_of_length_le (by omega)]
theorem pl_last (m a : Nat) (r : List Nat) : (pl (m :: a :: r)).reverse[r.length]? = some ((m : Int) + 1) ∧ (pl (m :: a :: r)).reverse.set r.length (m : Int) = mm (m :: a :: r) := by
  have : (pl (a :: r)).reverse.length = r.length := by rw [List.length_reverse, pl_len]; simp
  show (((m : Int) + 1) :: pl (a :: r)).reverse[r.length]? = _ ∧ (((m : Int) + 1) :: pl (a :: r)).reverse.set r.length _ = (pl (a :: r)).reverse ++ [(m : Int)]
  rw [List.reverse_cons]
  constructor
  · rw [List.getElem?_append_right (by omega), this, Nat.sub_self]; rfl
  · rw [List.set_append_right _ _ (by omega), this, Nat.sub_self]; rfl
end Go.Proofs.Ytafdogcanjcbmaa
/-
  The grammar of lines, plainly: what a rule reads of a list of parts, or where it fails; as an inductive relation, one constructor a way. (Imports nothing of the program.)
-/
namespace Go.Proofs.Ytafdogcanjcbmaa
set_option linter.unusedVariables false
set_option linter.unusedSimpArgs false

/-- A part: its kind, its text, its place. -/
structure Pk where
  k : Int
  t : List UInt8
  p : Int
/-- A node, plainly. -/
structure Tn where
  k : Int
  v : List UInt8
  a : List UInt8
  x : List UInt8
  ns : List (List UInt8)
def isMk (c : UInt8) : List Pk → Prop
  | [] => False
  | q :: _ => q.k = 6 ∧ q.t = [c]
def isVb : List Pk → Prop
  | [] => False
  | q :: _ => q.k = 3 ∨ q.k = 4 ∨ (q.k = 6 ∧ q.t = [123])
def isK (k : Int) : List Pk → Prop
  | [] => False
  | q :: _ => q.k = k
/-- The adverbs of a verb of a kind (3: Monad, 4: Dyad). -/
def advs (k : Int) : List UInt8 := if k = 3 then [39, 47, 92, 96] else [39, 46]
/-- The numbers at the front, and what is behind them. -/
def nmL : List Pk → List (List UInt8)
  | [] => []
  | q :: r => if q.k = 1 then q.t :: nmL r else []
inductive Rl where
  | expr
  | aft (L : List Tn)
  | op (k : Int) (L : List Tn)
  | adv (k : Int) (v : List UInt8) (B : List Tn)
  | vb (k : Int)
  | term
  | brk (L : List Tn)
  | atom
  | cl (c : UInt8)
/-- What a rule reads of a list of parts: nodes, and what is behind; or nothing, and the parts from the one on with which nothing goes on. M: a number's text of its part's. -/
inductive Rd' (M : List UInt8 → List UInt8) : Rl → List Pk → Option (List Tn) → List Pk → Prop
  | e_verb {ts r : List Pk} {x : Option (List Tn)} (h : isVb ts) (h1 : Rd' M (.op 3 []) ts x r) : Rd' M .expr ts x r
  | e_bad {ts r : List Pk} (h : ¬ isVb ts) (h1 : Rd' M .term ts none r) : Rd' M .expr ts none r
  | e_term {ts r r' : List Pk} {L : List Tn} {x : Option (List Tn)} (h : ¬ isVb ts) (h1 : Rd' M .term ts (some L) r) (h2 : Rd' M (.aft L) r x r') : Rd' M .expr ts x r'
  | a_end {ts : List Pk} {L : List Tn} (h : ¬ isVb ts) : Rd' M (.aft L) ts (some L) ts
  | a_op {ts r : List Pk} {L : List Tn} {x : Option (List Tn)} (h : isVb ts) (h1 : Rd' M (.op 4 L) ts x r) : Rd' M (.aft L) ts x r
  | o_bad {k : Int} {ts r : List Pk} {L : List Tn} (h1 : Rd' M (.vb k) ts none r) : Rd' M (.op k L) ts none r
  | o_is {k : Int} {ts r r' : List Pk} {L V : List Tn} {x : Option (List Tn)} (h1 : Rd' M (.vb k) ts (some V) r) (h2 : Rd' M .expr r x r') : Rd' M (.op k L) ts (x.map (V ++ L ++ ·)) r'
  | v_one {k : Int} {q : Pk} {r r' : List Pk} {x : Option (List Tn)} (h : q.k = 3 ∨ q.k = 4) (h1 : Rd' M (.adv k q.t []) r x r') : Rd' M (.vb k) (q :: r) x r'
  | v_bad {k : Int} {q : Pk} {r r' : List Pk} (h : q.k = 6) (ht : q.t = [123]) (h1 : Rd' M (.cl 125) r none r') : Rd' M (.vb k) (q :: r) none r'
  | v_body {k : Int} {q : Pk} {r r' r2 : List Pk} {B : List Tn} {x : Option (List Tn)} (h : q.k = 6) (ht : q.t = [123]) (h1 : Rd' M (.cl 125) r (some B) r') (h2 : Rd' M (.adv k q.t B) r' x r2) : Rd' M (.vb k) (q :: r) x r2
  | d_none {k : Int} {v : List UInt8} {B : List Tn} {ts : List Pk} (h : ¬ isK 5 ts) : Rd' M (.adv k v B) ts (some (⟨k, v, [], [], []⟩ :: B)) ts
  | d_is {k : Int} {v : List UInt8} {B : List Tn} {q : Pk} {r : List Pk} {c : UInt8} (h : q.k = 5) (ht : q.t = [c]) (hc : c ∈ advs k) : Rd' M (.adv k v B) (q :: r) (some (⟨k, v, [c], [], []⟩ :: B)) r
  | d_bad {k : Int} {v : List UInt8} {B : List Tn} {q : Pk} {r : List Pk} (h : q.k = 5) (ht : ∀ c ∈ advs k, q.t ≠ [c]) : Rd' M (.adv k v B) (q :: r) none (q :: r)
  | t_bad {ts r : List Pk} (h1 : Rd' M .atom ts none r) : Rd' M .term ts none r
  | t_is {ts r r' : List Pk} {L : List Tn} {x : Option (List Tn)} (h1 : Rd' M .atom ts (some L) r) (h2 : Rd' M (.brk L) r x r') : Rd' M .term ts x r'
  | b_end {ts : List Pk} {L : List Tn} (h : ¬ isMk 91 ts) : Rd' M (.brk L) ts (some L) ts
  | b_bad {q : Pk} {r r' : List Pk} {L : List Tn} (h : q.k = 6) (ht : q.t = [91]) (h1 : Rd' M (.cl 93) r none r') : Rd' M (.brk L) (q :: r) none r'
  | b_is {q : Pk} {r r' r2 : List Pk} {L I : List Tn} {x : Option (List Tn)} (h : q.k = 6) (ht : q.t = [91]) (h1 : Rd' M (.cl 93) r (some I) r') (h2 : Rd' M (.brk (⟨8, [], [], [], []⟩ :: (L ++ I))) r' x r2) : Rd' M (.brk L) (q :: r) x r2
  | m_word {q : Pk} {r : List Pk} (h : q.k = 2) : Rd' M .atom (q :: r) (some [⟨2, [], [], q.t, []⟩]) r
  | m_par {q : Pk} {r r' : List Pk} {x : Option (List Tn)} (h : q.k = 6) (ht : q.t = [40]) (h1 : Rd' M (.cl 41) r x r') : Rd' M .atom (q :: r) x r'
  | m_bad {ts : List Pk} (h2 : ¬ isK 2 ts) (h6 : ¬ isMk 40 ts) (h1 : ¬ isK 1 ts) : Rd' M .atom ts none ts
  | m_many {ts : List Pk} (h : 100 < (nmL ts).length) : Rd' M .atom ts none (ts.drop 100)
  | m_nums {ts : List Pk} (h : 0 < (nmL ts).length) (h1 : (nmL ts).length ≤ 100) : Rd' M .atom ts (some [⟨1, [], [], [], (nmL ts).map M⟩]) (ts.drop (nmL ts).length)
  | c_bad {c : UInt8} {ts r : List Pk} (h1 : Rd' M .expr ts none r) : Rd' M (.cl c) ts none r
  | c_not {c : UInt8} {ts r : List Pk} {L : List Tn} (h1 : Rd' M .expr ts (some L) r) (h : ¬ isMk c r) : Rd' M (.cl c) ts none r
  | c_is {c : UInt8} {ts r : List Pk} {q : Pk} {L : List Tn} (h1 : Rd' M .expr ts (some L) (q :: r)) (h : q.k = 6) (ht : q.t = [c]) : Rd' M (.cl c) ts (some L) r
variable {M : List UInt8 → List UInt8}

/-- A line, read: as Rd', for the rule of lines; what is behind it is still there. -/
inductive Ln (M : List UInt8 → List UInt8) : List Pk → Option (List Tn) → List Pk → Prop
  | assign {q w : Pk} {r r' : List Pk} {x : Option (List Tn)} (h : q.k = 2) (h2 : w.k = 6) (ht : w.t = [58]) (h1 : Rd' M .expr r x r') : Ln M (q :: w :: r) (x.map (⟨5, [], [], q.t, []⟩ :: ·)) r'
  | defbad {q w : Pk} {r : List Pk} (h : q.k = 3) (h2 : w.k = 6) (ht : w.t = [58]) (h1 : ¬ isMk 123 r) : Ln M (q :: w :: r) none r
  | define {q w b : Pk} {r r' : List Pk} {x : Option (List Tn)} (h : q.k = 3) (h2 : w.k = 6) (ht : w.t = [58]) (h3 : b.k = 6) (hb : b.t = [123]) (h1 : Rd' M (.cl 125) r x r') : Ln M (q :: w :: b :: r) (x.map (⟨7, [], [], q.t, []⟩ :: ·)) r'
  | idxbad {q w : Pk} {r r' : List Pk} (h : q.k = 2) (h2 : w.k = 6) (ht : w.t = [91]) (h1 : Rd' M (.cl 93) r none r') : Ln M (q :: w :: r) none r'
  | amend {q w d : Pk} {r r1 r' : List Pk} {I : List Tn} {x : Option (List Tn)} (h : q.k = 2) (h2 : w.k = 6) (ht : w.t = [91]) (h1 : Rd' M (.cl 93) r (some I) (d :: r1)) (h3 : d.k = 6) (hd : d.t = [58]) (h4 : Rd' M .expr r1 x r') :
      Ln M (q :: w :: r) (x.map fun X => ⟨6, [], [], q.t, []⟩ :: (I ++ X)) r'
  | ixbad {q w : Pk} {r r1 r' : List Pk} {I : List Tn} (h : q.k = 2) (h2 : w.k = 6) (ht : w.t = [91]) (h1 : Rd' M (.cl 93) r (some I) r1) (h3 : ¬ isMk 58 r1) (h4 : Rd' M (.brk (⟨8, [], [], [], []⟩ :: ([⟨2, [], [], q.t, []⟩] ++ I))) r1 none r') : Ln M (q :: w :: r) none r'
  | index {q w : Pk} {r r1 r2 r' : List Pk} {I L : List Tn} {x : Option (List Tn)} (h : q.k = 2) (h2 : w.k = 6) (ht : w.t = [91]) (h1 : Rd' M (.cl 93) r (some I) r1) (h3 : ¬ isMk 58 r1) (h4 : Rd' M (.brk (⟨8, [], [], [], []⟩ :: ([⟨2, [], [], q.t, []⟩] ++ I))) r1 (some L) r2) (h5 : Rd' M (.aft L) r2 x r') : Ln M (q :: w :: r) x r'
  | plain {ts r : List Pk} {x : Option (List Tn)} (h1 : ¬ (isK 2 ts ∧ (isMk 58 ts.tail ∨ isMk 91 ts.tail))) (h2 : ¬ (isK 3 ts ∧ isMk 58 ts.tail)) (h : Rd' M .expr ts x r) : Ln M ts x r

theorem nmL_le : ∀ ts : List Pk, (nmL ts).length ≤ ts.length
  | [] => Nat.le_refl _
  | q :: r => by
    unfold nmL
    split
    · exact Nat.succ_le_succ (nmL_le r)
    · exact Nat.zero_le _
theorem nmL_pos {ts : List Pk} (h : isK 1 ts) : 0 < (nmL ts).length := by
  cases ts with
  | nil => exact h.elim
  | cons q r => unfold nmL; rw [if_pos (show q.k = 1 from h)]; exact Nat.succ_pos _
theorem isMk_some {c : UInt8} {ts : List Pk} (h : isMk c ts) : ∃ q r, ts = q :: r ∧ q.k = 6 ∧ q.t = [c] := by
  cases ts with
  | nil => exact h.elim
  | cons q r => exact ⟨q, r, rfl, h.1, h.2⟩
/-- A rule's rank: rules that read nothing go down. -/
def Rl.rank : Rl → Nat
  | .adv .. => 0
  | .brk _ => 1
  | .atom => 1
  | .term => 2
  | .vb _ => 2
  | .op .. => 3
  | .aft _ => 4
  | .expr => 5
  | .cl _ => 6
/-- What a rule leaves is no longer; an expression, a term, a verb that were read leave less. -/
def Rl.eats : Rl → Bool
  | .adv .. | .brk _ | .aft _ => false
  | _ => true
theorem Rd'.le {R : Rl} {ts r : List Pk} {x : Option (List Tn)} (h : Rd' M R ts x r) : r.length ≤ ts.length ∧ (R.eats = true → x ≠ none → r.length < ts.length) := by
  induction h with
  | e_verb h h1 i => exact ⟨i.1, fun _ => i.2 rfl⟩
  | e_bad h h1 i => exact ⟨i.1, fun _ hx => absurd rfl hx⟩
  | e_term h h1 h2 i j =>
    have := i.2 rfl (by simp)
    exact ⟨by omega, fun _ _ => by omega⟩
  | a_end h => exact ⟨Nat.le_refl _, fun h => by cases h⟩
  | a_op h h1 i => exact ⟨i.1, fun h => by cases h⟩
  | o_bad h1 i => exact ⟨i.1, fun _ hx => absurd rfl hx⟩
  | o_is h1 h2 i j =>
    have := i.2 rfl (by simp)
    exact ⟨by omega, fun _ _ => by omega⟩
  | v_one h h1 i => exact ⟨by simp only [List.length_cons]; omega, fun _ _ => by simp only [List.length_cons]; omega⟩
  | v_bad h ht h1 i => exact ⟨by simp only [List.length_cons]; omega, fun _ hx => absurd rfl hx⟩
  | v_body h ht h1 h2 i j => exact ⟨by simp only [List.length_cons]; omega, fun _ _ => by simp only [List.length_cons]; omega⟩
  | d_none h => exact ⟨Nat.le_refl _, fun h => by cases h⟩
  | d_is h ht hc => exact ⟨by simp only [List.length_cons]; omega, fun h => by cases h⟩
  | d_bad h ht => exact ⟨Nat.le_refl _, fun h => by cases h⟩
  | t_bad h1 i => exact ⟨i.1, fun _ hx => absurd rfl hx⟩
  | t_is h1 h2 i j =>
    have := i.2 rfl (by simp)
    exact ⟨by omega, fun _ _ => by omega⟩
  | b_end h => exact ⟨Nat.le_refl _, fun h => by cases h⟩
  | b_bad h ht h1 i => exact ⟨by simp only [List.length_cons]; omega, fun h => by cases h⟩
  | b_is h ht h1 h2 i j => exact ⟨by simp only [List.length_cons]; omega, fun h => by cases h⟩
  | m_word h => exact ⟨by simp only [List.length_cons]; omega, fun _ _ => by simp only [List.length_cons]; omega⟩
  | m_par h ht h1 i => exact ⟨by simp only [List.length_cons]; omega, fun _ _ => by simp only [List.length_cons]; omega⟩
  | m_bad h2 h6 h1 => exact ⟨Nat.le_refl _, fun _ hx => absurd rfl hx⟩
  | m_many h => exact ⟨by rw [List.length_drop]; omega, fun _ hx => absurd rfl hx⟩
  | @m_nums ts h h1 =>
    have := nmL_le ts
    exact ⟨by rw [List.length_drop]; omega, fun _ _ => by rw [List.length_drop]; omega⟩
  | c_bad h1 i => exact ⟨i.1, fun _ hx => absurd rfl hx⟩
  | c_not h1 h i => exact ⟨i.1, fun _ hx => absurd rfl hx⟩
  | c_is h1 h ht i =>
    have := i.1
    simp only [List.length_cons] at this
    exact ⟨by omega, fun _ _ => by omega⟩
/-- Each rule reads something of each list, or fails somewhere; a verb where one begins. -/
theorem rd_ex (M : List UInt8 → List UInt8) : ∀ (n : Nat) (R : Rl) (ts : List Pk), 8 * ts.length + R.rank ≤ n → (∀ k, R = .vb k → isVb ts) → (∀ k L, R = .op k L → isVb ts) → ∃ x r, Rd' M R ts x r := by
  intro n
  induction n using Nat.strongRecOn with
  | ind n ih =>
    intro R ts hn hv ho
    have go : ∀ (R' : Rl) (us : List Pk), 8 * us.length + R'.rank < n → (∀ k, R' = .vb k → isVb us) → (∀ k L, R' = .op k L → isVb us) → ∃ x r, Rd' M R' us x r := fun R' us h hv ho => ih _ h R' us (Nat.le_refl _) hv ho
    cases R with
    | adv k v B =>
      cases ts with
      | nil => exact ⟨_, _, .d_none id⟩
      | cons q r =>
        by_cases h : q.k = 5
        · by_cases hc : ∃ c ∈ advs k, q.t = [c]
          · obtain ⟨c, hc, ht⟩ := hc
            exact ⟨_, _, .d_is h ht hc⟩
          · exact ⟨_, _, .d_bad h fun c h1 h2 => hc ⟨c, h1, h2⟩⟩
        · exact ⟨_, _, .d_none h⟩
    | brk L =>
      by_cases h : isMk 91 ts
      · obtain ⟨q, r, rfl, h6, ht⟩ := isMk_some h
        simp only [List.length_cons, Rl.rank] at hn
        obtain ⟨x, r1, h1⟩ := go (.cl 93) r (by simp only [Rl.rank]; omega) (fun k e => by cases e) (fun k L e => by cases e)
        have := h1.le.1
        cases x with
        | none => exact ⟨_, _, .b_bad h6 ht h1⟩
        | some I =>
          obtain ⟨x, r2, h2⟩ := go (.brk (⟨8, [], [], [], []⟩ :: (L ++ I))) r1 (by simp only [Rl.rank]; omega) (fun k e => by cases e) (fun k L e => by cases e)
          exact ⟨_, _, .b_is h6 ht h1 h2⟩
      · exact ⟨_, _, .b_end h⟩
    | atom =>
      by_cases h2 : isK 2 ts
      · cases ts with
        | nil => exact h2.elim
        | cons q r => exact ⟨_, _, .m_word h2⟩
      by_cases h6 : isMk 40 ts
      · obtain ⟨q, r, rfl, h6, ht⟩ := isMk_some h6
        simp only [List.length_cons, Rl.rank] at hn
        obtain ⟨x, r1, h1⟩ := go (.cl 41) r (by simp only [Rl.rank]; omega) (fun k e => by cases e) (fun k L e => by cases e)
        exact ⟨_, _, .m_par h6 ht h1⟩
      by_cases h1 : isK 1 ts
      · by_cases hl : (nmL ts).length ≤ 100
        · exact ⟨_, _, .m_nums (nmL_pos h1) hl⟩
        · exact ⟨_, _, .m_many (by omega)⟩
      · exact ⟨_, _, .m_bad h2 h6 h1⟩
    | term =>
      simp only [Rl.rank] at hn
      obtain ⟨x, r1, h1⟩ := go .atom ts (by simp only [Rl.rank]; omega) (fun k e => by cases e) (fun k L e => by cases e)
      have := h1.le.1
      cases x with
      | none => exact ⟨_, _, .t_bad h1⟩
      | some L =>
        obtain ⟨x, r2, h2⟩ := go (.brk L) r1 (by simp only [Rl.rank]; omega) (fun k e => by cases e) (fun k L e => by cases e)
        exact ⟨_, _, .t_is h1 h2⟩
    | vb k =>
      have hb := hv k rfl
      cases ts with
      | nil => exact hb.elim
      | cons q r =>
        simp only [List.length_cons, Rl.rank] at hn
        by_cases h : q.k = 3 ∨ q.k = 4
        · obtain ⟨x, r1, h1⟩ := go (.adv k q.t []) r (by simp only [Rl.rank]; omega) (fun k e => by cases e) (fun k L e => by cases e)
          exact ⟨_, _, .v_one h h1⟩
        · have hb : q.k = 3 ∨ q.k = 4 ∨ (q.k = 6 ∧ q.t = [123]) := hb
          have h6 : q.k = 6 ∧ q.t = [123] := by
            rcases hb with hb | hb | hb
            · exact absurd (.inl hb) h
            · exact absurd (.inr hb) h
            · exact hb
          obtain ⟨x, r1, h1⟩ := go (.cl 125) r (by simp only [Rl.rank]; omega) (fun k e => by cases e) (fun k L e => by cases e)
          have := h1.le.1
          cases x with
          | none => exact ⟨_, _, .v_bad h6.1 h6.2 h1⟩
          | some B =>
            obtain ⟨x, r2, h2⟩ := go (.adv k q.t B) r1 (by simp only [Rl.rank]; omega) (fun k e => by cases e) (fun k L e => by cases e)
            exact ⟨_, _, .v_body h6.1 h6.2 h1 h2⟩
    | op k L =>
      have hb := ho k L rfl
      simp only [Rl.rank] at hn
      obtain ⟨x, r1, h1⟩ := go (.vb k) ts (by simp only [Rl.rank]; omega) (fun _ _ => hb) (fun k L e => by cases e)
      cases x with
      | none => exact ⟨_, _, .o_bad h1⟩
      | some V =>
        have := h1.le.2 rfl (by simp)
        obtain ⟨x, r2, h2⟩ := go .expr r1 (by simp only [Rl.rank]; omega) (fun k e => by cases e) (fun k L e => by cases e)
        exact ⟨_, _, .o_is h1 h2⟩
    | aft L =>
      simp only [Rl.rank] at hn
      by_cases hb : isVb ts
      · obtain ⟨x, r1, h1⟩ := go (.op 4 L) ts (by simp only [Rl.rank]; omega) (fun k e => by cases e) (fun _ _ _ => hb)
        exact ⟨_, _, .a_op hb h1⟩
      · exact ⟨_, _, .a_end hb⟩
    | expr =>
      simp only [Rl.rank] at hn
      by_cases hb : isVb ts
      · obtain ⟨x, r1, h1⟩ := go (.op 3 []) ts (by simp only [Rl.rank]; omega) (fun k e => by cases e) (fun _ _ _ => hb)
        exact ⟨_, _, .e_verb hb h1⟩
      · obtain ⟨x, r1, h1⟩ := go .term ts (by simp only [Rl.rank]; omega) (fun k e => by cases e) (fun k L e => by cases e)
        cases x with
        | none => exact ⟨_, _, .e_bad hb h1⟩
        | some L =>
          have := h1.le.2 rfl (by simp)
          obtain ⟨x, r2, h2⟩ := go (.aft L) r1 (by simp only [Rl.rank]; omega) (fun k e => by cases e) (fun k L e => by cases e)
          exact ⟨_, _, .e_term hb h1 h2⟩
    | cl c =>
      simp only [Rl.rank] at hn
      obtain ⟨x, r1, h1⟩ := go .expr ts (by simp only [Rl.rank]; omega) (fun k e => by cases e) (fun k L e => by cases e)
      cases x with
      | none => exact ⟨_, _, .c_bad h1⟩
      | some L =>
        by_cases hc : isMk c r1
        · obtain ⟨q, r2, rfl, h6, ht⟩ := isMk_some hc
          exact ⟨_, _, .c_is h1 h6 ht⟩
        · exact ⟨_, _, .c_not h1 hc⟩
theorem Rd'.any (M : List UInt8 → List UInt8) (R : Rl) (ts : List Pk) (hv : ∀ k, R = .vb k → isVb ts) (ho : ∀ k L, R = .op k L → isVb ts) : ∃ x r, Rd' M R ts x r := rd_ex M _ R ts (Nat.le_refl _) hv ho
/-- Each list is a line, or fails as one. -/
theorem Ln.any (M : List UInt8 → List UInt8) (ts : List Pk) : ∃ x r, Ln M ts x r := by
  have go : ∀ (R : Rl) (us : List Pk), R.eats = true ∨ (∃ L, R = .brk L ∨ R = .aft L) → (∀ k, R ≠ .vb k) → (∀ k L, R ≠ .op k L) → ∃ x r, Rd' M R us x r := fun R us _ hv ho => Rd'.any M R us (fun k e => absurd e (hv k)) (fun k L e => absurd e (ho k L))
  by_cases h2 : isK 2 ts ∧ isMk 58 ts.tail
  · cases ts with
    | nil => exact h2.1.elim
    | cons q r =>
      obtain ⟨w, r, e, h6, ht⟩ := isMk_some h2.2
      cases e
      obtain ⟨x, r', h⟩ := go .expr r (.inl rfl) (fun k e => by cases e) (fun k L e => by cases e)
      exact ⟨_, _, .assign h2.1 h6 ht h⟩
  by_cases h3 : isK 3 ts ∧ isMk 58 ts.tail
  · cases ts with
    | nil => exact h3.1.elim
    | cons q r =>
      obtain ⟨w, r, e, h6, ht⟩ := isMk_some h3.2
      cases e
      by_cases hb : isMk 123 r
      · obtain ⟨b, r, rfl, hb6, hbt⟩ := isMk_some hb
        obtain ⟨x, r', h⟩ := go (.cl 125) r (.inl rfl) (fun k e => by cases e) (fun k L e => by cases e)
        exact ⟨_, _, .define h3.1 h6 ht hb6 hbt h⟩
      · exact ⟨_, _, .defbad h3.1 h6 ht hb⟩
  by_cases h4 : isK 2 ts ∧ isMk 91 ts.tail
  · cases ts with
    | nil => exact h4.1.elim
    | cons q r =>
      obtain ⟨w, r, e, h6, ht⟩ := isMk_some h4.2
      cases e
      obtain ⟨x, r1, h⟩ := go (.cl 93) r (.inl rfl) (fun k e => by cases e) (fun k L e => by cases e)
      cases x with
      | none => exact ⟨_, _, .idxbad h4.1 h6 ht h⟩
      | some I =>
        by_cases hc : isMk 58 r1
        · obtain ⟨d, r1, rfl, hd6, hdt⟩ := isMk_some hc
          obtain ⟨x, r', h5⟩ := go .expr r1 (.inl rfl) (fun k e => by cases e) (fun k L e => by cases e)
          exact ⟨_, _, .amend h4.1 h6 ht h hd6 hdt h5⟩
        · obtain ⟨x, r2, h5⟩ := go (.brk (⟨8, [], [], [], []⟩ :: ([⟨2, [], [], q.t, []⟩] ++ I))) r1 (.inr ⟨_, .inl rfl⟩) (fun k e => by cases e) (fun k L e => by cases e)
          cases x with
          | none => exact ⟨_, _, .ixbad h4.1 h6 ht h hc h5⟩
          | some L =>
            obtain ⟨x, r', h7⟩ := go (.aft L) r2 (.inr ⟨_, .inr rfl⟩) (fun k e => by cases e) (fun k L e => by cases e)
            exact ⟨_, _, .index h4.1 h6 ht h hc h5 h7⟩
  obtain ⟨x, r, h⟩ := go .expr ts (.inl rfl) (fun k e => by cases e) (fun k L e => by cases e)
  exact ⟨_, _, .plain (fun h => h.2.elim (fun e => h2 ⟨h.1, e⟩) (fun e => h4 ⟨h.1, e⟩)) h3 h⟩
end Go.Proofs.Ytafdogcanjcbmaa
/-
  What is read of lists of parts, plainly: elsewhere, with more behind; the trees that come of it. (Imports nothing of the program.)
-/
namespace Go.Proofs.Ytafdogcanjcbmaa
set_option linter.unusedVariables false
set_option linter.unusedSimpArgs false
variable {M : List UInt8 → List UInt8}

section
variable {f : Pk → Pk} (hk : ∀ q, (f q).k = q.k) (ht : ∀ q, (f q).t = q.t)
include hk in
theorem isK_map {k : Int} {ts : List Pk} : isK k (ts.map f) ↔ isK k ts := by
  cases ts with
  | nil => exact Iff.rfl
  | cons q r => show (f q).k = k ↔ q.k = k; rw [hk]
include hk ht in
theorem isMk_map {c : UInt8} {ts : List Pk} : isMk c (ts.map f) ↔ isMk c ts := by
  cases ts with
  | nil => exact Iff.rfl
  | cons q r => show (f q).k = 6 ∧ (f q).t = [c] ↔ q.k = 6 ∧ q.t = [c]; rw [hk, ht]
include hk ht in
theorem isVb_map {ts : List Pk} : isVb (ts.map f) ↔ isVb ts := by
  cases ts with
  | nil => exact Iff.rfl
  | cons q r => show (f q).k = 3 ∨ (f q).k = 4 ∨ ((f q).k = 6 ∧ (f q).t = [123]) ↔ q.k = 3 ∨ q.k = 4 ∨ (q.k = 6 ∧ q.t = [123]); rw [hk, ht]
include hk ht in
theorem nmL_map : ∀ ts : List Pk, nmL (ts.map f) = nmL ts
  | [] => rfl
  | q :: r => by
    show (if (f q).k = 1 then (f q).t :: nmL (r.map f) else []) = if q.k = 1 then q.t :: nmL r else []
    rw [hk, ht, nmL_map r]
include hk ht in
/-- The places of parts don't matter. -/
theorem Rd'.map {R : Rl} {ts r : List Pk} {x : Option (List Tn)} (h : Rd' M R ts x r) : Rd' M R (ts.map f) x (r.map f) := by
  induction h with
  | e_verb h h1 i => exact .e_verb ((isVb_map hk ht).2 h) i
  | e_bad h h1 i => exact .e_bad (fun g => h ((isVb_map hk ht).1 g)) i
  | e_term h h1 h2 i j => exact .e_term (fun g => h ((isVb_map hk ht).1 g)) i j
  | a_end h => exact .a_end (fun g => h ((isVb_map hk ht).1 g))
  | a_op h h1 i => exact .a_op ((isVb_map hk ht).2 h) i
  | o_bad h1 i => exact .o_bad i
  | o_is h1 h2 i j => exact .o_is i j
  | @v_one k q r r' x h h1 i =>
    rw [← ht q] at i
    exact .v_one (by rw [hk]; exact h) i
  | v_bad h h2 h1 i => exact .v_bad (by rw [hk]; exact h) (by rw [ht]; exact h2) i
  | @v_body k q r r' r2 B x h hq h1 h2 i j =>
    rw [← ht q] at j
    exact .v_body (by rw [hk]; exact h) (by rw [ht]; exact hq) i j
  | d_none h => exact .d_none (fun g => h ((isK_map hk).1 g))
  | d_is h h2 hc => exact .d_is (by rw [hk]; exact h) (by rw [ht]; exact h2) hc
  | d_bad h h2 => exact .d_bad (by rw [hk]; exact h) (by rw [ht]; exact h2)
  | t_bad h1 i => exact .t_bad i
  | t_is h1 h2 i j => exact .t_is i j
  | b_end h => exact .b_end (fun g => h ((isMk_map hk ht).1 g))
  | b_bad h h2 h1 i => exact .b_bad (by rw [hk]; exact h) (by rw [ht]; exact h2) i
  | b_is h h2 h1 h3 i j => exact .b_is (by rw [hk]; exact h) (by rw [ht]; exact h2) i j
  | @m_word q r h =>
    have := Rd'.m_word (M := M) (q := f q) (r := r.map f) (by rw [hk]; exact h)
    rw [ht] at this
    exact this
  | m_par h h2 h1 i => exact .m_par (by rw [hk]; exact h) (by rw [ht]; exact h2) i
  | m_bad h2 h6 h1 => exact .m_bad (fun g => h2 ((isK_map hk).1 g)) (fun g => h6 ((isMk_map hk ht).1 g)) (fun g => h1 ((isK_map hk).1 g))
  | @m_many ts h =>
    rw [List.map_drop]
    exact .m_many (by rw [nmL_map hk ht]; exact h)
  | @m_nums ts h h1 =>
    rw [List.map_drop, ← nmL_map hk ht ts]
    exact .m_nums (by rw [nmL_map hk ht]; exact h) (by rw [nmL_map hk ht]; exact h1)
  | c_bad h1 i => exact .c_bad i
  | c_not h1 h i => exact .c_not i (fun g => h ((isMk_map hk ht).1 g))
  | c_is h1 h h2 i => exact .c_is i (by rw [hk]; exact h) (by rw [ht]; exact h2)
include hk ht in
theorem Ln.map {ts r : List Pk} {x : Option (List Tn)} (h : Ln M ts x r) : Ln M (ts.map f) x (r.map f) := by
  cases h with
  | @assign q w r r' x h h2 h3 h1 =>
    have := Ln.assign (M := M) (q := f q) (w := f w) (by rw [hk]; exact h) (by rw [hk]; exact h2) (by rw [ht]; exact h3) (h1.map hk ht)
    rw [ht] at this
    exact this
  | defbad h h2 h3 h1 => exact .defbad (by rw [hk]; exact h) (by rw [hk]; exact h2) (by rw [ht]; exact h3) (fun g => h1 ((isMk_map hk ht).1 g))
  | @define q w b r r' x h h2 h3 h4 h5 h1 =>
    have := Ln.define (M := M) (q := f q) (w := f w) (b := f b) (by rw [hk]; exact h) (by rw [hk]; exact h2) (by rw [ht]; exact h3) (by rw [hk]; exact h4) (by rw [ht]; exact h5) (h1.map hk ht)
    rw [ht] at this
    exact this
  | idxbad h h2 h3 h1 => exact .idxbad (by rw [hk]; exact h) (by rw [hk]; exact h2) (by rw [ht]; exact h3) (h1.map hk ht)
  | @amend q w d r r1 r' I x h h2 h3 h1 h4 h5 h6 =>
    have := Ln.amend (M := M) (q := f q) (w := f w) (d := f d) (by rw [hk]; exact h) (by rw [hk]; exact h2) (by rw [ht]; exact h3) (h1.map hk ht) (by rw [hk]; exact h4) (by rw [ht]; exact h5) (h6.map hk ht)
    rw [ht] at this
    exact this
  | @ixbad q w r r1 r' I h h2 h3 h1 h4 h5 =>
    rw [← ht q] at h5
    exact .ixbad (by rw [hk]; exact h) (by rw [hk]; exact h2) (by rw [ht]; exact h3) (h1.map hk ht) (fun g => h4 ((isMk_map hk ht).1 g)) (h5.map hk ht)
  | @index q w r r1 r2 r' I L x h h2 h3 h1 h4 h5 h6 =>
    rw [← ht q] at h5
    exact .index (by rw [hk]; exact h) (by rw [hk]; exact h2) (by rw [ht]; exact h3) (h1.map hk ht) (fun g => h4 ((isMk_map hk ht).1 g)) (h5.map hk ht) (h6.map hk ht)
  | plain h1 h2 h =>
    refine .plain (fun g => h1 ?_) (fun g => h2 ?_) (h.map hk ht)
    · rw [← List.map_tail, isK_map hk, isMk_map hk ht, isMk_map hk ht] at g
      exact g
    · rw [← List.map_tail, isK_map hk, isMk_map hk ht] at g
      exact g
end

/-- What is left is what the list ends in. -/
theorem Rd'.suffix {R : Rl} {ts r : List Pk} {x : Option (List Tn)} (h : Rd' M R ts x r) : r <:+ ts := by
  induction h with
  | e_verb h h1 i => exact i
  | e_bad h h1 i => exact i
  | e_term h h1 h2 i j => exact j.trans i
  | a_end h => exact List.suffix_refl _
  | a_op h h1 i => exact i
  | o_bad h1 i => exact i
  | o_is h1 h2 i j => exact j.trans i
  | v_one h h1 i => exact i.trans (List.suffix_cons _ _)
  | v_bad h ht h1 i => exact i.trans (List.suffix_cons _ _)
  | v_body h ht h1 h2 i j => exact j.trans (i.trans (List.suffix_cons _ _))
  | d_none h => exact List.suffix_refl _
  | d_is h ht hc => exact List.suffix_cons _ _
  | d_bad h ht => exact List.suffix_refl _
  | t_bad h1 i => exact i
  | t_is h1 h2 i j => exact j.trans i
  | b_end h => exact List.suffix_refl _
  | b_bad h ht h1 i => exact i.trans (List.suffix_cons _ _)
  | b_is h ht h1 h2 i j => exact j.trans (i.trans (List.suffix_cons _ _))
  | m_word h => exact List.suffix_cons _ _
  | m_par h ht h1 i => exact i.trans (List.suffix_cons _ _)
  | m_bad h2 h6 h1 => exact List.suffix_refl _
  | m_many h => exact List.drop_suffix _ _
  | m_nums h h1 => exact List.drop_suffix _ _
  | c_bad h1 i => exact i
  | c_not h1 h i => exact i
  | c_is h1 h ht i => exact (List.suffix_cons _ _).trans i
theorem Ln.suffix {ts r : List Pk} {x : Option (List Tn)} (h : Ln M ts x r) : r <:+ ts := by
  have c2 : ∀ (q w : Pk) (l : List Pk), l <:+ q :: w :: l := fun q w l => (List.suffix_cons w l).trans (List.suffix_cons q _)
  cases h with
  | assign h h2 ht h1 => exact h1.suffix.trans (c2 _ _ _)
  | defbad h h2 ht h1 => exact c2 _ _ _
  | define h h2 ht h3 hb h1 => exact h1.suffix.trans ((List.suffix_cons _ _).trans (c2 _ _ _))
  | idxbad h h2 ht h1 => exact h1.suffix.trans (c2 _ _ _)
  | amend h h2 ht h1 h3 hd h4 => exact h4.suffix.trans ((List.suffix_cons _ _).trans (h1.suffix.trans (c2 _ _ _)))
  | ixbad h h2 ht h1 h3 h4 => exact h4.suffix.trans (h1.suffix.trans (c2 _ _ _))
  | index h h2 ht h1 h3 h4 h5 => exact h5.suffix.trans (h4.suffix.trans (h1.suffix.trans (c2 _ _ _)))
  | plain h1 h2 h => exact h.suffix

theorem isK_app {k : Int} {ts : List Pk} (h : ts ≠ []) (us : List Pk) : isK k (ts ++ us) ↔ isK k ts := by
  cases ts with
  | nil => exact absurd rfl h
  | cons q r => exact Iff.rfl
theorem isMk_app {c : UInt8} {ts : List Pk} (h : ts ≠ []) (us : List Pk) : isMk c (ts ++ us) ↔ isMk c ts := by
  cases ts with
  | nil => exact absurd rfl h
  | cons q r => exact Iff.rfl
theorem isVb_app {ts : List Pk} (h : ts ≠ []) (us : List Pk) : isVb (ts ++ us) ↔ isVb ts := by
  cases ts with
  | nil => exact absurd rfl h
  | cons q r => exact Iff.rfl
theorem isVb_more {ts : List Pk} (h : isVb ts) (us : List Pk) : isVb (ts ++ us) := by
  cases ts with
  | nil => exact h.elim
  | cons q r => exact h
/-- Nothing that an expression at its end goes on with. -/
structure Shut (us : List Pk) : Prop where
  v : ¬ isVb us
  a : ¬ isK 5 us
  b : ¬ isMk 91 us
  n : ¬ isK 1 us
theorem nmL_app {ts us : List Pk} (h : ts.drop (nmL ts).length ≠ [] ∨ ¬ isK 1 us) : nmL (ts ++ us) = nmL ts := by
  induction ts with
  | nil =>
    rcases h with h | h
    · exact absurd rfl h
    · cases us with
      | nil => rfl
      | cons q r => exact if_neg h
  | cons q r ih =>
    show (if q.k = 1 then q.t :: nmL (r ++ us) else []) = if q.k = 1 then q.t :: nmL r else []
    by_cases hq : q.k = 1
    · rw [if_pos hq, if_pos hq, ih]
      rcases h with h | h
      · left
        rw [show nmL (q :: r) = q.t :: nmL r from if_pos hq] at h
        exact h
      · exact .inr h
    · rw [if_neg hq, if_neg hq]
theorem nmL_more (ts us : List Pk) : (nmL ts).length ≤ (nmL (ts ++ us)).length := by
  induction ts with
  | nil => exact Nat.zero_le _
  | cons q r ih =>
    show (if q.k = 1 then q.t :: nmL r else []).length ≤ (if q.k = 1 then q.t :: nmL (r ++ us) else []).length
    split
    · exact Nat.succ_le_succ ih
    · exact Nat.le_refl _
theorem rest_no {α : Type} {P : Prop} {x : Option α} {r : List Pk} (hu : r ≠ [] ∨ (x ≠ none ∧ P)) (hx : x = none) : r ≠ [] := hu.elim id fun h => absurd hx h.1
theorem ne_of_suffix {a b : List Pk} (h : a <:+ b) (ha : a ≠ []) : b ≠ [] := by
  rintro rfl
  exact ha (List.suffix_nil.1 h)
/-- What is behind doesn't matter, as far as a rule doesn't come to it, or doesn't go on with it. -/
theorem Rd'.app {us : List Pk} {R : Rl} {ts r : List Pk} {x : Option (List Tn)} (h : Rd' M R ts x r) : (r ≠ [] ∨ (x ≠ none ∧ Shut us)) → Rd' M R (ts ++ us) x (r ++ us) := by
  induction h with
  | e_verb h h1 i => exact fun hu => .e_verb (isVb_more h us) (i hu)
  | e_bad h h1 i => exact fun hu => .e_bad (fun g => h ((isVb_app (ne_of_suffix h1.suffix (rest_no hu rfl)) us).1 g)) (i hu)
  | @e_term ts r r' L x h h1 h2 i j =>
    intro hu
    have l := h1.le.2 rfl (by simp)
    have ne : ts ≠ [] := by rintro rfl; simp at l
    refine .e_term (fun g => h ((isVb_app ne us).1 g)) (i ?_) (j hu)
    by_cases hr : r = []
    · refine .inr ⟨by simp, ?_⟩
      rcases hu with hu | hu
      · exact absurd hr (ne_of_suffix h2.suffix hu)
      · exact hu.2
    · exact .inl hr
  | @a_end ts L h =>
    intro hu
    refine .a_end fun g => ?_
    rcases hu with hu | hu
    · exact h ((isVb_app hu us).1 g)
    · cases ts with
      | nil => exact hu.2.v g
      | cons q r => exact h g
  | a_op h h1 i => exact fun hu => .a_op (isVb_more h us) (i hu)
  | o_bad h1 i => exact fun hu => .o_bad (i hu)
  | @o_is k ts r r' L V x h1 h2 i j =>
    intro hu
    have ne : r ≠ [] := by
      rintro rfl
      rcases hu with hu | hu
      · exact ne_of_suffix h2.suffix hu rfl
      · cases x with
        | none => exact absurd rfl hu.1
        | some X =>
          have := h2.le.2 rfl (by simp)
          simp at this
    refine .o_is (i (.inl ne)) (j ?_)
    rcases hu with hu | hu
    · exact .inl hu
    · exact .inr ⟨fun e => hu.1 (by rw [e]; rfl), hu.2⟩
  | v_one h h1 i => exact fun hu => .v_one h (i hu)
  | v_bad h ht h1 i => exact fun hu => .v_bad h ht (i hu)
  | @v_body k q r r' r2 B x h ht h1 h2 i j =>
    intro hu
    refine .v_body h ht (i ?_) (j hu)
    by_cases hr : r' = []
    · refine .inr ⟨by simp, ?_⟩
      rcases hu with hu | hu
      · exact absurd hr (ne_of_suffix h2.suffix hu)
      · exact hu.2
    · exact .inl hr
  | @d_none k v B ts h =>
    intro hu
    refine .d_none fun g => ?_
    rcases hu with hu | hu
    · exact h ((isK_app hu us).1 g)
    · cases ts with
      | nil => exact hu.2.a g
      | cons q r => exact h g
  | d_is h ht hc => exact fun hu => .d_is h ht hc
  | d_bad h ht => exact fun hu => .d_bad h ht
  | t_bad h1 i => exact fun hu => .t_bad (i hu)
  | @t_is ts r r' L x h1 h2 i j =>
    intro hu
    refine .t_is (i ?_) (j hu)
    by_cases hr : r = []
    · refine .inr ⟨by simp, ?_⟩
      rcases hu with hu | hu
      · exact absurd hr (ne_of_suffix h2.suffix hu)
      · exact hu.2
    · exact .inl hr
  | @b_end ts L h =>
    intro hu
    refine .b_end fun g => ?_
    rcases hu with hu | hu
    · exact h ((isMk_app hu us).1 g)
    · cases ts with
      | nil => exact hu.2.b g
      | cons q r => exact h g
  | b_bad h ht h1 i => exact fun hu => .b_bad h ht (i hu)
  | @b_is q r r' r2 L I x h ht h1 h2 i j =>
    intro hu
    refine .b_is h ht (i ?_) (j hu)
    by_cases hr : r' = []
    · refine .inr ⟨by simp, ?_⟩
      rcases hu with hu | hu
      · exact absurd hr (ne_of_suffix h2.suffix hu)
      · exact hu.2
    · exact .inl hr
  | m_word h => exact fun hu => .m_word h
  | m_par h ht h1 i => exact fun hu => .m_par h ht (i hu)
  | @m_bad ts h2 h6 h1 =>
    intro hu
    have ne := rest_no hu rfl
    exact .m_bad (fun g => h2 ((isK_app ne us).1 g)) (fun g => h6 ((isMk_app ne us).1 g)) (fun g => h1 ((isK_app ne us).1 g))
  | @m_many ts h =>
    intro hu
    have := nmL_le ts
    have := nmL_more ts us
    rw [← List.drop_append_of_le_length (by omega)]
    exact .m_many (by omega)
  | @m_nums ts h h1 =>
    intro hu
    have e : nmL (ts ++ us) = nmL ts := nmL_app (hu.elim .inl fun h => .inr h.2.n)
    have := nmL_le ts
    have g := Rd'.m_nums (M := M) (ts := ts ++ us) (by rw [e]; exact h) (by rw [e]; exact h1)
    rw [e, List.drop_append_of_le_length (by omega)] at g
    exact g
  | c_bad h1 i => exact fun hu => .c_bad (i hu)
  | @c_not c ts r L h1 h i =>
    intro hu
    have ne := rest_no hu rfl
    exact .c_not (i (.inl ne)) (fun g => h ((isMk_app ne us).1 g))
  | c_is h1 h ht i => exact fun hu => .c_is (i (.inl (by simp))) h ht
/-- At the end nothing is read: brackets and what is behind a term. -/
theorem Rd'.brk_nil {L : List Tn} {x : Option (List Tn)} {r : List Pk} (h : Rd' M (.brk L) [] x r) : x = some L ∧ r = [] := by
  cases h with
  | b_end h => exact ⟨rfl, rfl⟩
theorem Rd'.aft_nil {L : List Tn} {x : Option (List Tn)} {r : List Pk} (h : Rd' M (.aft L) [] x r) : x = some L ∧ r = [] := by
  cases h with
  | a_end h => exact ⟨rfl, rfl⟩
  | a_op h h1 => exact h.elim
theorem nil_of {r : List Pk} {q : Pk} (h : r.length < [q].length) : r = [] := List.length_eq_zero_iff.1 (by rw [List.length_singleton] at h; omega)
/-- A word alone is read whole; a verb alone fails at the end. -/
theorem lone_word {q : Pk} {x : Option (List Tn)} {r : List Pk} (h : Rd' M .expr [q] x r) (hq : isK 2 [q]) : r = [] := by
  have hq : q.k = 2 := hq
  cases h with
  | e_verb h h1 =>
    rcases (show q.k = 3 ∨ q.k = 4 ∨ (q.k = 6 ∧ q.t = [123]) from h) with h | h | h <;> omega
  | e_bad h h1 =>
    cases h1 with
    | t_bad h1 =>
      cases h1 with
      | m_par h ht h1 => omega
      | m_bad h2 h6 h1 => exact absurd hq h2
      | m_many h =>
        have := nmL_le [q]
        simp at this
        omega
    | t_is h1 h2 =>
      cases nil_of (h1.le.2 rfl (by simp))
      cases h2.brk_nil.1
  | e_term h h1 h2 =>
    cases nil_of (h1.le.2 rfl (by simp))
    exact h2.aft_nil.2
theorem lone_verb {q : Pk} {x : Option (List Tn)} {r : List Pk} (h : Rd' M .expr [q] x r) (hq : isK 3 [q]) : r = [] := by
  have hq : q.k = 3 := hq
  cases h with
  | e_verb h h1 =>
    cases h1 with
    | o_bad h1 =>
      cases h1 with
      | v_one h h1 => cases h1
      | v_bad h => omega
      | v_body h => omega
    | o_is h1 h2 =>
      cases nil_of (h1.le.2 rfl (by simp))
      exact List.suffix_nil.1 h2.suffix
  | e_bad h h1 => exact absurd (show isVb [q] from .inl hq) h
  | e_term h h1 h2 => exact absurd (show isVb [q] from .inl hq) h
/-- A line's error stays, whatever comes behind. -/
theorem Ln.app {ts r : List Pk} {x : Option (List Tn)} (h : Ln M ts x r) (hr : r ≠ []) (us : List Pk) : Ln M (ts ++ us) x (r ++ us) := by
  cases h with
  | assign h h2 ht h1 => exact .assign h h2 ht (h1.app (.inl hr))
  | defbad h h2 ht h1 => exact .defbad h h2 ht (fun g => h1 ((isMk_app hr us).1 g))
  | define h h2 ht h3 hb h1 => exact .define h h2 ht h3 hb (h1.app (.inl hr))
  | idxbad h h2 ht h1 => exact .idxbad h h2 ht (h1.app (.inl hr))
  | amend h h2 ht h1 h3 hd h4 => exact .amend h h2 ht (h1.app (.inl (by simp))) h3 hd (h4.app (.inl hr))
  | ixbad h h2 ht h1 h3 h4 =>
    have ne := ne_of_suffix h4.suffix hr
    exact .ixbad h h2 ht (h1.app (.inl ne)) (fun g => h3 ((isMk_app ne us).1 g)) (h4.app (.inl hr))
  | index h h2 ht h1 h3 h4 h5 =>
    have n2 := ne_of_suffix h5.suffix hr
    have ne := ne_of_suffix h4.suffix n2
    exact .index h h2 ht (h1.app (.inl ne)) (fun g => h3 ((isMk_app ne us).1 g)) (h4.app (.inl n2)) (h5.app (.inl hr))
  | plain h1 h2 h =>
    have ne := ne_of_suffix h.suffix hr
    cases ts with
    | nil => exact absurd rfl ne
    | cons q l =>
      cases l with
      | cons w l => exact .plain h1 h2 (h.app (.inl hr))
      | nil => exact .plain (fun g => hr (lone_word h g.1)) (fun g => hr (lone_verb h g.1)) (h.app (.inl hr))
end Go.Proofs.Ytafdogcanjcbmaa

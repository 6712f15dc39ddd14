import Init
/-
  Parts of a line, plainly: bytes, their kinds, and how a line runs. (Imports nothing of the program.)
-/
namespace Go.Proofs.YtljkmdmbndjngaaGreat
set_option linter.unusedVariables false
set_option linter.unusedSimpArgs false
/-- The bytes of which parts are. -/
def figL : List UInt8 := [48, 49, 50, 51, 52, 53, 54, 55, 56, 57]
def smL : List UInt8 := [97, 98, 99, 100, 101, 102, 103, 104, 105, 106, 107, 108, 109, 110, 111, 112, 113, 114, 115, 116, 117, 118, 119, 120, 121, 122]
def grL : List UInt8 := [65, 66, 67, 68, 69, 70, 71, 72, 73, 74, 75, 76, 77, 78, 79, 80, 81, 82, 83, 84, 85, 86, 87, 88, 89, 90]
def sgL : List UInt8 := [43, 45, 42, 37, 33, 38, 124, 60, 62, 61, 126, 44, 35, 94, 36, 63, 64]
def adL : List UInt8 := [39, 47, 92, 46, 96]
def mkL : List UInt8 := [40, 41, 91, 93, 123, 125, 58]
/-- A byte's kind: what it begins; 7: a blank, 0: nothing. -/
def cls (c : UInt8) : Nat :=
  if c == 32 then 7 else if figL.contains c || c == 95 then 1 else if smL.contains c then 2 else if grL.contains c then 3 else if sgL.contains c then 4 else if adL.contains c then 5 else if mkL.contains c then 6 else 0
/-- The bytes with which a part goes on. -/
def moreL : Nat → List UInt8
  | 1 => figL
  | 2 => smL ++ figL
  | 3 => smL ++ grL ++ figL
  | _ => []
structure Tk where
  kind : Nat
  text : List UInt8
  at_ : Nat
def Stop (k : Nat) (r : List UInt8) : Prop := ∀ c, r.head? = some c → (moreL k).contains c = false
/-- A line, from a place on: its parts, and the place of its error, if it has one. -/
inductive Run (N : List UInt8 → Bool) : List UInt8 → Nat → List Tk → Option Nat → Prop
  | nil (p : Nat) : Run N [] p [] none
  | blank {c : UInt8} {l : List UInt8} {p : Nat} {ts : List Tk} {e : Option Nat} (h : cls c = 7) (hr : Run N l (p + 1) ts e) : Run N (c :: l) p ts e
  | part {k : Nat} {c : UInt8} {t r : List UInt8} {p : Nat} {ts : List Tk} {e : Option Nat} (h : cls c = k) (h1 : 1 ≤ k) (h6 : k ≤ 6) (ht : ∀ x ∈ t, (moreL k).contains x = true) (hs : Stop k r) (hn : k = 1 → N (c :: t) = true) (hr : Run N r (p + (t.length + 1)) ts e) : Run N (c :: t ++ r) p (⟨k, c :: t, p⟩ :: ts) e
  | bad {c : UInt8} {r : List UInt8} {p : Nat} (h : cls c = 0) : Run N (c :: r) p [] (some p)
  | figs {c : UInt8} {t r : List UInt8} {p : Nat} (h : cls c = 1) (ht : ∀ x ∈ t, (moreL 1).contains x = true) (hs : Stop 1 r) (hn : N (c :: t) = false) : Run N (c :: t ++ r) p [] (some p)

theorem all_u8 {P : UInt8 → Prop} (h : ∀ n : Fin 256, P (UInt8.ofNat n.val)) (c : UInt8) : P c := by
  have := h ⟨c.toNat, c.toNat_lt⟩
  rwa [show UInt8.ofNat (⟨c.toNat, c.toNat_lt⟩ : Fin 256).val = c from UInt8.toNat_inj.1 (by simp)] at this
theorem cls_le : ∀ c, cls c ≤ 7 := all_u8 (by decide +kernel)
theorem more_blank : ∀ k, (moreL k).contains 32 = false
  | 0 | 1 | 2 | 3 => by decide
  | k + 4 => rfl
theorem cls_blank : cls 32 = 7 := by decide
theorem blank_is : ∀ c, cls c = 7 → c = 32 := all_u8 (by decide +kernel)
theorem Stop.nil (k : Nat) : Stop k [] := fun c h => by cases h
theorem Stop.cons {k : Nat} {c : UInt8} {r : List UInt8} (h : (moreL k).contains c = false) : Stop k (c :: r) := fun d hd => by cases hd; exact h
theorem Stop.blank (k : Nat) (r : List UInt8) : Stop k (32 :: r) := .cons (more_blank k)
theorem Stop.app {k : Nat} {r : List UInt8} (h : Stop k r) (b : List UInt8) : Stop k (r ++ 32 :: b) := by
  cases r with
  | nil => exact .blank k b
  | cons c r => exact .cons (h c rfl)
theorem Stop.take {k : Nat} {r : List UInt8} (h : Stop k r) (m : Nat) : Stop k (r.take m) := by
  cases r with
  | nil => rw [List.take_nil]; exact .nil k
  | cons c r =>
    cases m with
    | zero => exact .nil k
    | succ m => exact .cons (h c rfl)
theorem more_big {k : Nat} (h : 4 ≤ k) : moreL k = [] := by
  match k, h with
  | k + 4, _ => rfl
/-- Each text splits: what goes on, and what stops. -/
theorem split_at (k : Nat) : ∀ l : List UInt8, ∃ t r, l = t ++ r ∧ (∀ x ∈ t, (moreL k).contains x = true) ∧ Stop k r
  | [] => ⟨[], [], rfl, (fun x h => absurd h List.not_mem_nil), Stop.nil k⟩
  | c :: l => by
    by_cases hc : (moreL k).contains c = true
    · obtain ⟨t, r, e, h, hs⟩ := split_at k l
      refine ⟨c :: t, r, by rw [e]; rfl, ?_, hs⟩
      intro x hx
      rcases List.mem_cons.1 hx with rfl | hx
      · exact hc
      · exact h x hx
    · exact ⟨[], c :: l, rfl, (fun x h => absurd h List.not_mem_nil), Stop.cons (by simpa using hc)⟩
theorem run_ex (N : List UInt8 → Bool) : ∀ (n : Nat) (l : List UInt8) (p : Nat), l.length ≤ n → ∃ ts e, Run N l p ts e
  | _, [], p, _ => ⟨_, _, .nil p⟩
  | 0, _ :: _, _, h => by simp at h
  | n + 1, c :: l, p, h => by
    have hl : l.length ≤ n := by simpa using h
    have hc := cls_le c
    by_cases h7 : cls c = 7
    · obtain ⟨ts, e, hr⟩ := run_ex N n l (p + 1) hl
      exact ⟨ts, e, .blank h7 hr⟩
    by_cases h0 : cls c = 0
    · exact ⟨_, _, .bad h0⟩
    obtain ⟨t, r, e, ht, hs⟩ := split_at (cls c) l
    have hr : r.length ≤ n := by rw [e, List.length_append] at hl; omega
    obtain ⟨ts, er, hR⟩ := run_ex N n r (p + (t.length + 1)) hr
    rw [e]
    by_cases hn : cls c = 1 ∧ N (c :: t) = false
    · exact ⟨_, _, .figs (t := t) (r := r) hn.1 (by rw [← hn.1]; exact ht) (by rw [← hn.1]; exact hs) hn.2⟩
    · exact ⟨_, _, .part (t := t) (r := r) rfl (by omega) (by omega) ht hs (fun h1 => by
        cases hv : N (c :: t) with
        | true => rfl
        | false => exact absurd ⟨h1, hv⟩ hn) hR⟩
theorem Run.any (N : List UInt8 → Bool) (l : List UInt8) (p : Nat) : ∃ ts e, Run N l p ts e := run_ex N l.length l p (Nat.le_refl _)

variable {N : List UInt8 → Bool}
theorem Run.err_blank {a : List UInt8} {p q : Nat} {ts : List Tk} {e : Option Nat} (h : Run N a p ts e) (he : e = some q) (b : List UInt8) : Run N (a ++ 32 :: b) p ts (some q) := by
  induction h with
  | nil p => cases he
  | blank h hr ih => exact .blank h (ih he)
  | part h h1 h6 ht hs hn hr ih =>
    rw [List.append_assoc]
    exact .part h h1 h6 ht (hs.app b) hn (ih he)
  | bad h => cases he; exact .bad h
  | figs h ht hs hn =>
    cases he
    rw [List.append_assoc]
    exact .figs h ht (hs.app b) hn
theorem Run.app_blank {a : List UInt8} {p : Nat} {ts : List Tk} {e : Option Nat} (h : Run N a p ts e) (he : e = none) {b : List UInt8} {us : List Tk} {f : Option Nat} :
    Run N b (p + a.length + 1) us f → Run N (a ++ 32 :: b) p (ts ++ us) f := by
  induction h with
  | nil p => exact fun hb => .blank cls_blank hb
  | @blank c l p ts e h hr ih =>
    intro hb
    exact .blank h (ih he (by rw [show p + 1 + l.length + 1 = p + (c :: l).length + 1 by simp; omega]; exact hb))
  | @part k c t r p ts e h h1 h6 ht hs hn hr ih =>
    intro hb
    rw [List.append_assoc]
    exact .part h h1 h6 ht (hs.app b) hn (ih he (by rw [show p + (t.length + 1) + r.length + 1 = p + (c :: t ++ r).length + 1 by simp; omega]; exact hb))
  | bad h => cases he
  | figs h ht hs hn => cases he
theorem Run.err_at {a : List UInt8} {p : Nat} {ts : List Tk} {e : Option Nat} (h : Run N a p ts e) {q : Nat} (he : e = some q) : p ≤ q ∧ q < p + a.length ∧ Run N (a.take (q - p)) p ts none := by
  induction h with
  | nil p => cases he
  | @blank c l p ts e h hr ih =>
    obtain ⟨h1, h2, h3⟩ := ih he
    refine ⟨by omega, by simp; omega, ?_⟩
    rw [show q - p = (q - (p + 1)) + 1 by omega, List.take_succ_cons]
    exact .blank h h3
  | @part k c t r p ts e h h1 h6 ht hs hn hr ih =>
    obtain ⟨g1, g2, g3⟩ := ih he
    refine ⟨by omega, by simp; omega, ?_⟩
    rw [show q - p = (c :: t).length + (q - (p + (t.length + 1))) by simp; omega, List.take_length_add_append]
    exact .part h h1 h6 ht (hs.take _) hn g3
  | @bad c r p h =>
    cases he
    refine ⟨Nat.le_refl _, by simp, ?_⟩
    rw [Nat.sub_self, List.take_zero]
    exact .nil _
  | @figs c t r p h ht hs hn =>
    cases he
    refine ⟨Nat.le_refl _, by simp, ?_⟩
    rw [Nat.sub_self, List.take_zero]
    exact .nil _
def Tk.up (m : Nat) (t : Tk) : Tk := ⟨t.kind, t.text, t.at_ + m⟩
theorem Run.up {a : List UInt8} {p : Nat} {ts : List Tk} {e : Option Nat} (h : Run N a p ts e) (m : Nat) : Run N a (p + m) (ts.map (Tk.up m)) (e.map (· + m)) := by
  induction h with
  | nil p => exact .nil _
  | @blank c l p ts e h hr ih => exact .blank h (by rw [show p + m + 1 = p + 1 + m by omega]; exact ih)
  | @part k c t r p ts e h h1 h6 ht hs hn hr ih => exact .part h h1 h6 ht hs hn (by rw [show p + m + (t.length + 1) = p + (t.length + 1) + m by omega]; exact ih)
  | bad h => exact .bad h
  | figs h ht hs hn => exact .figs h ht hs hn
/-- Texts with one blank between each two. -/
def joinT : List (List UInt8) → List UInt8
  | [] => []
  | [a] => a
  | a :: b :: r => a ++ 32 :: joinT (b :: r)
theorem joinT_cons (a : List UInt8) {r : List (List UInt8)} (h : r ≠ []) : joinT (a :: r) = a ++ 32 :: joinT r := by
  cases r with
  | nil => exact absurd rfl h
  | cons b r => rfl
def alike (t u : Tk) : Prop := t.kind = u.kind ∧ t.text = u.text
theorem Run.again {a : List UInt8} {p : Nat} {ts : List Tk} {e : Option Nat} (h : Run N a p ts e) (he : e = none) : ∀ q, ∃ us, Run N (joinT (ts.map Tk.text)) q us none ∧ us.map Tk.kind = ts.map Tk.kind ∧ us.map Tk.text = ts.map Tk.text := by
  induction h with
  | nil p => exact fun q => ⟨[], .nil q, rfl, rfl⟩
  | blank h hr ih => exact ih he
  | @part k c t r p ts e h h1 h6 ht hs hn hr ih =>
    intro q
    cases ts with
    | nil =>
      refine ⟨[⟨k, c :: t, q⟩], ?_, rfl, rfl⟩
      have := Run.part (r := []) h h1 h6 ht (.nil k) hn (.nil (N := N) (q + (t.length + 1)))
      rw [List.append_nil] at this
      exact this
    | cons u ts =>
      obtain ⟨us, h2, e1, e2⟩ := ih he (q + (t.length + 1) + 1)
      refine ⟨⟨k, c :: t, q⟩ :: us, ?_, by rw [List.map_cons, e1]; rfl, by rw [List.map_cons, e2]; rfl⟩
      rw [List.map_cons, joinT_cons _ (by simp)]
      exact .part h h1 h6 ht (.blank k _) hn (.blank cls_blank h2)
  | bad h => cases he
  | figs h ht hs hn => cases he
/-- Each part stands where it says, one behind the other. -/
def Placed (s : List UInt8) : Nat → List Tk → Prop
  | _, [] => True
  | p, t :: ts => (p ≤ t.at_ ∧ t.at_ + t.text.length ≤ s.length ∧ t.text ≠ [] ∧ (s.drop t.at_).take t.text.length = t.text ∧ 1 ≤ t.kind ∧ t.kind ≤ 6) ∧ Placed s (t.at_ + t.text.length) ts
theorem Placed.down {s : List UInt8} {p q : Nat} {ts : List Tk} (h : Placed s q ts) (hp : p ≤ q) : Placed s p ts := by
  cases ts with
  | nil => trivial
  | cons t ts => exact ⟨⟨Nat.le_trans hp h.1.1, h.1.2⟩, h.2⟩
theorem Run.placed {s a : List UInt8} {p : Nat} {ts : List Tk} {e : Option Nat} (h : Run N a p ts e) : s.drop p = a → Placed s p ts := by
  induction h with
  | nil p => exact fun _ => trivial
  | @blank c l p ts e h hr ih =>
    intro hd
    exact (ih (by rw [← List.drop_drop, hd]; rfl)).down (by omega)
  | @part k c t r p ts e h h1 h6 ht hs hn hr ih =>
    intro hd
    have hl : s.length - p = (c :: t ++ r).length := by rw [← hd, List.length_drop]
    simp at hl
    refine ⟨⟨Nat.le_refl _, by simp; omega, by simp, ?_, h1, h6⟩, ?_⟩
    · show (s.drop p).take (c :: t).length = _
      rw [hd, List.take_left]
    · show Placed s (p + (c :: t).length) ts
      refine ih ?_
      rw [← List.drop_drop, hd]
      exact List.drop_left (l₁ := c :: t)
  | bad h => exact fun _ => trivial
  | figs h ht hs hn => exact fun _ => trivial
/-- How long all texts are, with a blank behind each. -/
def spanT (l : List (List UInt8)) : Nat := (l.map fun t => t.length + 1).sum
theorem joinT_len : ∀ l, (joinT l).length ≤ spanT l
  | [] => by simp [joinT]
  | [a] => by simp [joinT, spanT]
  | a :: b :: r => by
    have := joinT_len (b :: r)
    simp [joinT, spanT] at this ⊢
    omega
theorem Run.span {a : List UInt8} {p : Nat} {ts : List Tk} {e : Option Nat} (h : Run N a p ts e) : spanT (ts.map Tk.text) ≤ 2 * a.length ∧ ts.length ≤ a.length := by
  induction h with
  | nil p => exact ⟨by simp [spanT], by simp⟩
  | blank h hr ih => exact ⟨by simp; omega, by simp; omega⟩
  | part h h1 h6 ht hs hn hr ih => exact ⟨by simp [spanT] at ih ⊢; omega, by simp; omega⟩
  | bad h => exact ⟨by simp [spanT], by simp⟩
  | figs h ht hs hn => exact ⟨by simp [spanT], by simp⟩
/-- A text as a part: the kind that the document's words give it; 0: none. -/
def kindL (l : List UInt8) : Nat :=
  match l with
  | [] => 0
  | c :: t =>
    if smL.contains c && t.all (moreL 2).contains then 2
    else if grL.contains c && t.all (grL ++ smL ++ figL).contains then 3
    else if t.isEmpty && sgL.contains c then 4
    else if t.isEmpty && adL.contains c then 5
    else if t.isEmpty && mkL.contains c then 6
    else if (c == 95 || figL.contains c) && t.all figL.contains then 1
    else 0
theorem cls_facts : ∀ c, (smL.contains c = (cls c == 2)) ∧ (grL.contains c = (cls c == 3)) ∧ (sgL.contains c = (cls c == 4)) ∧ (adL.contains c = (cls c == 5)) ∧ (mkL.contains c = (cls c == 6)) ∧ ((c == 95 || figL.contains c) = (cls c == 1)) := all_u8 (by decide +kernel)
theorem more3 : ∀ c, (grL ++ smL ++ figL).contains c = (moreL 3).contains c := all_u8 (by decide +kernel)
theorem kindL_cons (c : UInt8) (t : List UInt8) : kindL (c :: t) = if 1 ≤ cls c ∧ cls c ≤ 6 ∧ t.all (moreL (cls c)).contains = true then cls c else 0 := by
  obtain ⟨e2, e3, e4, e5, e6, e1⟩ := cls_facts c
  have h7 := cls_le c
  have hm : t.all (grL ++ smL ++ figL).contains = t.all (moreL 3).contains := by
    congr 1; funext x; exact more3 x
  have hE : ∀ k, 4 ≤ k → t.all (moreL k).contains = t.isEmpty := fun k hk => by
    rw [more_big hk]
    cases t with
    | nil => rfl
    | cons d t => simp
  unfold kindL
  simp only [e1, e2, e3, e4, e5, e6, hm]
  generalize hk : cls c = k at *
  match k, h7 with
  | 0, _ => simp
  | 1, _ => simp [moreL]
  | 2, _ => simp
  | 3, _ => simp
  | 4, _ => simp [hE]
  | 5, _ => simp [hE]
  | 6, _ => simp [hE]
  | 7, _ => simp
theorem kindL_yes {c : UInt8} {t : List UInt8} {k : Nat} (h : cls c = k) (h1 : 1 ≤ k) (h6 : k ≤ 6) (ht : ∀ x ∈ t, (moreL k).contains x = true) : kindL (c :: t) = k := by
  rw [kindL_cons, h, if_pos ⟨h1, h6, List.all_eq_true.2 ht⟩]
theorem kindL_no {c d : UInt8} {t : List UInt8} {k : Nat} (h : cls c = k) (hd : (moreL k).contains d = false) : kindL (c :: t ++ [d]) = 0 := by
  show kindL (c :: (t ++ [d])) = 0
  rw [kindL_cons, h, if_neg]
  rintro ⟨-, -, h2⟩
  rw [List.all_append, Bool.and_eq_true] at h2
  have := List.all_eq_true.1 h2.2 d (by simp)
  rw [hd] at this
  cases this
theorem kindL_bad {c : UInt8} (h : cls c = 0 ∨ cls c = 7) : kindL [c] = 0 := by
  rw [kindL_cons, if_neg]
  rintro ⟨h1, h2, -⟩
  omega
end Go.Proofs.YtljkmdmbndjngaaGreat
/-
  Trees as lists of nodes, plainly: from how many trees are below each node, where trees end, how deep they are, where those below begin; and a stack of what is still missing. (Imports nothing of the program.)
-/
namespace Go.Proofs.YtljkmdmbndjngaaGreat
set_option linter.unusedVariables false
set_option linter.unusedSimpArgs false

/-- Where m trees end that begin here, at place p. -/
def em : List Int → Nat → Nat → Option Nat
  | [], 0, p => some p
  | [], _ + 1, _ => none
  | _ :: _, 0, p => some p
  | k :: r, m + 1, p => if k < 0 then none else em r (m + k.toNat) (p + 1)
def eN (K : List Int) (m p : Nat) : Option Nat := em (K.drop p) m p
theorem eN_zero (K : List Int) (p : Nat) : eN K 0 p = some p := by
  unfold eN
  cases K.drop p <;> rfl
theorem eN_out {K : List Int} {p : Nat} (h : K.length ≤ p) (m : Nat) : eN K (m + 1) p = none := by
  unfold eN
  rw [List.drop_eq_nil_of_le h]; rfl
theorem eN_at {K : List Int} {p : Nat} {k : Int} (h : K[p]? = some k) (m : Nat) : eN K (m + 1) p = if k < 0 then none else eN K (m + k.toNat) (p + 1) := by
  obtain ⟨hl, rfl⟩ := List.getElem?_eq_some_iff.1 h
  unfold eN
  rw [List.drop_eq_getElem_cons hl]; rfl
theorem eN_add (K : List Int) : ∀ n p, K.length - p ≤ n → ∀ a b, eN K (a + b) p = (eN K a p).bind (fun q => eN K b q) := by
  intro n
  induction n with
  | zero =>
    intro p hp a b
    cases a with
    | zero => rw [Nat.zero_add, eN_zero]; rfl
    | succ a => rw [Nat.add_right_comm, eN_out (by omega), eN_out (by omega)]; rfl
  | succ n ih =>
    intro p hp a b
    cases a with
    | zero => rw [Nat.zero_add, eN_zero]; rfl
    | succ a =>
      by_cases hl : p < K.length
      · have hk : K[p]? = some K[p] := List.getElem?_eq_getElem hl
        rw [Nat.add_right_comm, eN_at hk, eN_at hk]
        split
        · rfl
        · rw [Nat.add_right_comm]
          exact ih (p + 1) (by omega) _ _
      · rw [Nat.add_right_comm, eN_out (by omega), eN_out (by omega)]; rfl
theorem eN_sum (K : List Int) (a b p : Nat) : eN K (a + b) p = (eN K a p).bind (fun q => eN K b q) := eN_add K _ p (Nat.le_refl _) a b
/-- m trees from p to e, the deepest of them d deep. -/
inductive Fd (K : List Int) : Nat → Nat → Nat → Nat → Prop
  | nil (p : Nat) : Fd K p 0 p 0
  | cons {p m q e d1 d2 : Nat} {k : Int} (h : K[p]? = some k) (h0 : 0 ≤ k) (hk : Fd K (p + 1) k.toNat q d1) (hr : Fd K q m e d2) : Fd K p (m + 1) e (max (1 + d1) d2)
variable {K : List Int}
theorem Fd.le {p m e d : Nat} (h : Fd K p m e d) : p + m ≤ e ∧ (p ≤ K.length → e ≤ K.length) := by
  induction h with
  | nil p => exact ⟨Nat.le_refl _, id⟩
  | cons h h0 hk hr i1 i2 =>
    have := (List.getElem?_eq_some_iff.1 h).1
    exact ⟨by omega, fun _ => i2.2 (i1.2 (by omega))⟩
theorem Fd.deep {p m e d : Nat} (h : Fd K p m e d) : d ≤ e - p := by
  induction h with
  | nil p => omega
  | cons h h0 hk hr i1 i2 =>
    have := hk.le.1
    have := hr.le.1
    omega
theorem Fd.lt {p m e d : Nat} (h : Fd K p m e d) (hm : 0 < m) : p < K.length := by
  cases h with
  | nil => omega
  | cons h => exact (List.getElem?_eq_some_iff.1 h).1
theorem Fd.ends {p m e d : Nat} (h : Fd K p m e d) : eN K m p = some e := by
  induction h with
  | nil p => exact eN_zero K p
  | cons h h0 hk hr i1 i2 =>
    rw [eN_at h, if_neg (by omega), Nat.add_comm, eN_sum, i1]
    exact i2
theorem Fd.of_ends (K : List Int) : ∀ n p, K.length - p ≤ n → ∀ m e, eN K m p = some e → ∃ d, Fd K p m e d := by
  intro n
  induction n with
  | zero =>
    intro p hp m e he
    cases m with
    | zero => rw [eN_zero] at he; cases he; exact ⟨0, .nil p⟩
    | succ m => rw [eN_out (by omega)] at he; cases he
  | succ n ih =>
    intro p hp m e he
    cases m with
    | zero => rw [eN_zero] at he; cases he; exact ⟨0, .nil p⟩
    | succ m =>
      by_cases hl : p < K.length
      · have hk : K[p]? = some K[p] := List.getElem?_eq_getElem hl
        rw [eN_at hk] at he
        split at he
        · cases he
        · rename_i h0
          rw [Nat.add_comm, eN_sum, Option.bind_eq_some_iff] at he
          obtain ⟨q, h1, h2⟩ := he
          obtain ⟨d1, g1⟩ := ih (p + 1) (by omega) _ _ h1
          have := g1.le
          obtain ⟨d2, g2⟩ := ih q (by omega) _ _ h2
          exact ⟨_, .cons hk (by omega) g1 g2⟩
      · rw [eN_out (by omega)] at he; cases he
theorem Fd.ex {p m e : Nat} (h : eN K m p = some e) : ∃ d, Fd K p m e d := Fd.of_ends K _ p (Nat.le_refl _) m e h
theorem Fd.det {p m e d : Nat} (h : Fd K p m e d) : ∀ {e' d' : Nat}, Fd K p m e' d' → e = e' ∧ d = d' := by
  induction h with
  | nil p =>
    intro e' d' h'
    cases h'
    exact ⟨rfl, rfl⟩
  | cons h h0 hk hr i1 i2 =>
    intro e' d' h'
    cases h' with
    | cons g g0 gk gr =>
      rw [h] at g
      cases g
      obtain ⟨rfl, rfl⟩ := i1 gk
      obtain ⟨rfl, rfl⟩ := i2 gr
      exact ⟨rfl, rfl⟩
theorem Fd.move {p m e d : Nat} (h : Fd K p m e d) {K' : List Int} {s : Nat} : s ≤ p → (∀ i, p ≤ i → i < e → K'[i - s]? = K[i]?) → Fd K' (p - s) m (e - s) d := by
  induction h with
  | nil p => exact fun _ _ => .nil _
  | @cons p m q e d1 d2 k h h0 hk hr i1 i2 =>
    intro hs hK
    have l1 := hk.le.1
    have l2 := hr.le.1
    have g1 := i1 (by omega) (fun i hi hi2 => hK i (by omega) (by omega))
    rw [show p + 1 - s = p - s + 1 by omega] at g1
    exact .cons (by rw [hK p (Nat.le_refl _) (by omega)]; exact h) h0 g1 (i2 (by omega) (fun i hi hi2 => hK i (by omega) (by omega)))
/-- One tree more is a tree at the front and the others. -/
theorem Fd.inv {p m e d : Nat} (h : Fd K p (m + 1) e d) : ∃ k q d1 d2, K[p]? = some k ∧ 0 ≤ k ∧ Fd K (p + 1) k.toNat q d1 ∧ Fd K p 1 q (1 + d1) ∧ Fd K q m e d2 ∧ d = max (1 + d1) d2 := by
  cases h with
  | cons h h0 hk hr =>
    have := Fd.cons h h0 hk (.nil _)
    rw [Nat.max_eq_left (by omega)] at this
    exact ⟨_, _, _, _, h, h0, hk, this, hr, rfl⟩
theorem Fd.inv0 {p e d : Nat} (h : Fd K p 0 e d) : e = p ∧ d = 0 := by
  cases h
  exact ⟨rfl, rfl⟩
/-- Where m trees begin, one behind the other. -/
def un (K : List Int) : Nat → Nat → List Nat
  | 0, _ => []
  | m + 1, p => p :: (match eN K 1 p with | some q => un K m q | none => [])
theorem un_cons {m p q : Nat} (h : eN K 1 p = some q) : un K (m + 1) p = p :: un K m q := by
  show p :: (match eN K 1 p with | some q => un K m q | none => []) = _
  rw [h]
theorem Fd.un_len {m : Nat} : ∀ {p e d : Nat}, Fd K p m e d → (un K m p).length = m := by
  induction m with
  | zero => exact fun _ => rfl
  | succ m ih =>
    intro p e d h
    obtain ⟨k, q, d1, d2, _, _, _, h1, h2, _⟩ := h.inv
    rw [un_cons h1.ends, List.length_cons, ih h2]
/-- A stack, the top first, of how many trees are still missing, from i to e; d: how deep they come. -/
def Fin (K : List Int) : List Nat → Nat → Nat → Nat → Prop
  | [], i, e, d => i = e ∧ d = 0
  | m :: r, i, e, d => ∃ j d1 d2, Fd K i m j d1 ∧ Fin K r j e d2 ∧ d = max (r.length + d1) d2
theorem Fin.le : ∀ {L : List Nat} {i e d : Nat}, Fin K L i e d → i ≤ e
  | [], _, _, _, h => Nat.le_of_eq h.1
  | _ :: _, _, _, _, ⟨_, _, _, h1, h2, _⟩ => Nat.le_trans (Nat.le_trans (Nat.le_add_right _ _) h1.le.1) h2.le
theorem Fin.head_le {m i e d : Nat} {r : List Nat} (h : Fin K (m :: r) i e d) : i + m ≤ e := by
  obtain ⟨j, d1, d2, h1, h2, _⟩ := h
  have := h1.le.1
  have := h2.le
  omega
theorem Fin.start {e d : Nat} (h : Fd K 0 1 e d) : Fin K [1] 0 e d := ⟨e, d, 0, h, ⟨rfl, rfl⟩, by simp⟩
theorem Fin.push {m i e d : Nat} {r : List Nat} (h : Fin K ((m + 1) :: r) i e d) : ∃ k : Nat, K[i]? = some (k : Int) ∧ Fin K (k :: m :: r) (i + 1) e d ∧ r.length + 1 ≤ d ∧ i < e := by
  obtain ⟨j, d1, d2, h1, h2, rfl⟩ := h
  obtain ⟨k, q, d3, d4, hk, h0, g1, _, g2, rfl⟩ := h1.inv
  have := g1.le.1
  have := g2.le.1
  have := h2.le
  exact ⟨k.toNat, by rw [hk, Int.toNat_of_nonneg h0], ⟨q, d3, max (r.length + d4) d2, g1, ⟨j, d4, d2, g2, h2, rfl⟩, by simp only [List.length_cons]; omega⟩, by omega, by omega⟩
theorem Fin.pop {m i e d D x : Nat} {r : List Nat} (h : Fin K (0 :: m :: r) i e d) (hx : (m :: r).length ≤ x) (hD : D = max x d) : ∃ d', Fin K (m :: r) i e d' ∧ D = max x d' := by
  obtain ⟨j, d1, d2, h1, h2, rfl⟩ := h
  obtain ⟨rfl, rfl⟩ := h1.inv0
  exact ⟨d2, h2, by omega⟩
/-- At the end nothing is missing. -/
theorem Fin.done {m e d : Nat} {r : List Nat} (h : Fin K (m :: r) e e d) (hm : r = [] ∨ 1 ≤ m) : d = 0 := by
  obtain ⟨j, d1, d2, h1, h2, rfl⟩ := h
  have l1 := h1.le.1
  have l2 := h2.le
  obtain rfl : m = 0 := by omega
  obtain ⟨rfl, rfl⟩ := h1.inv0
  rcases hm with rfl | h
  · obtain ⟨_, rfl⟩ := h2
    rfl
  · omega
theorem Fin.more {m i e d : Nat} {r : List Nat} (h : Fin K (m :: r) i e d) (hm : r = [] ∨ 1 ≤ m) (hi : i < e) : ∃ m', m = m' + 1 := by
  cases m with
  | succ m => exact ⟨m, rfl⟩
  | zero =>
    rcases hm with rfl | h0
    · obtain ⟨j, d1, d2, h1, h2, rfl⟩ := h
      obtain ⟨rfl, rfl⟩ := h1.inv0
      obtain ⟨rfl, _⟩ := h2
      omega
    · omega
/-- What lies in memory of a stack: the last one is nobody's; all but the top count the one that is gone through. -/
def pl : List Nat → List Int
  | [] => []
  | [_] => []
  | m :: m' :: r => ((m : Int) + 1) :: pl (m' :: r)
def mm : List Nat → List Int
  | [] => []
  | [_] => []
  | t :: m :: r => (pl (m :: r)).reverse ++ [(t : Int)]
theorem pl_len : ∀ L, (pl L).length = L.length - 1
  | [] => rfl
  | [_] => rfl
  | m :: m' :: r => by
    show (pl (m' :: r)).length + 1 = _
    rw [pl_len (m' :: r)]; simp
theorem mm_len (L : List Nat) : (mm L).length = L.length - 1 := by
  match L with
  | [] => rfl
  | [_] => rfl
  | t :: m :: r => show ((pl (m :: r)).reverse ++ _).length = _; rw [List.length_append, List.length_reverse, pl_len]; simp
theorem mm_push (k m : Nat) (r : List Nat) : mm (k :: m :: r) = mm ((m + 1) :: r) ++ [(k : Int)] := by
  show (pl (m :: r)).reverse ++ _ = _
  congr 1
  cases r with
  | nil => rfl
  | cons a r =>
    show (((m : Int) + 1) :: pl (a :: r)).reverse = (pl (a :: r)).reverse ++ [((m + 1 : Nat) : Int)]
    rw [List.reverse_cons]; simp
theorem mm_top (t m : Nat) (r : List Nat) : (mm (t :: m :: r))[r.length]? = some (t : Int) := by
  have : (pl (m :: r)).reverse.length = r.length := by rw [List.length_reverse, pl_len]; simp
  show ((pl (m :: r)).reverse ++ _)[r.length]? = _
  rw [List.getElem?_append_right (by omega), this, Nat.sub_self]; rfl
theorem mm_take (t m : Nat) (r : List Nat) : (mm (t :: m :: r)).take r.length = (pl (m :: r)).reverse := by
  have : (pl (m :: r)).reverse.length = r.length := by rw [List.length_reverse, pl_len]; simp
  show ((pl (m :: r)).reverse ++ _).take r.length = _
  rw [List.take_append_of_le_length (by omega), List.take_of_length_le (by omega)]
theorem pl_last (m a : Nat) (r : List Nat) : (pl (m :: a :: r)).reverse[r.length]? = some ((m : Int) + 1) ∧ (pl (m :: a :: r)).reverse.set r.length (m : Int) = mm (m :: a :: r) := by
  have : (pl (a :: r)).reverse.length = r.length := by rw [List.length_reverse, pl_len]; simp
  show (((m : Int) + 1) :: pl (a :: r)).reverse[r.length]? = _ ∧ (((m : Int) + 1) :: pl (a :: r)).reverse.set r.length _ = (pl (a :: r)).reverse ++ [(m : Int)]
  rw [List.reverse_cons]
  constructor
  · rw [List.getElem?_append_right (by omega), this, Nat.sub_self]; rfl
  · rw [List.set_append_right _ _ (by omega), this, Nat.sub_self]; rfl
end Go.Proofs.YtljkmdmbndjngaaGreat
/-
  The grammar of lines, plainly: what a rule reads of a list of parts, or where it fails; as an inductive relation, one constructor a way. (Imports nothing of the program.)
-/
namespace Go.Proofs.YtljkmdmbndjngaaGreat
set_option linter.unusedVariables false
set_option linter.unusedSimpArgs false

/-- A part: its kind, its text, its place. -/
structure Pk where
  k : Int
  t : List UInt8
  p : Int
/-- A node, plainly. -/
structure Tn where
  k : Int
  v : List UInt8
  a : List UInt8
  x : List UInt8
  ns : List (List UInt8)
def isMk (c : UInt8) : List Pk → Prop
  | [] => False
  | q :: _ => q.k = 6 ∧ q.t = [c]
def isVb : List Pk → Prop
  | [] => False
  | q :: _ => q.k = 3 ∨ q.k = 4 ∨ (q.k = 6 ∧ q.t = [123])
def isK (k : Int) : List Pk → Prop
  | [] => False
  | q :: _ => q.k = k
/-- The adverbs of a verb of a kind (3: Monad, 4: Dyad). -/
def advs (k : Int) : List UInt8 := if k = 3 then [39, 47, 92, 96] else [39, 46]
/-- The numbers at the front, and what is behind them. -/
def nmL : List Pk → List (List UInt8)
  | [] => []
  | q :: r => if q.k = 1 then q.t :: nmL r else []
inductive Rl where
  | expr
  | aft (L : List Tn)
  | op (k : Int) (L : List Tn)
  | adv (k : Int) (v : List UInt8) (B : List Tn)
  | vb (k : Int)
  | term
  | brk (L : List Tn)
  | atom
  | cl (c : UInt8)
/-- What a rule reads of a list of parts: nodes, and what is behind; or nothing, and the parts from the one on with which nothing goes on. M: a number's text of its part's. -/
inductive Rd' (M : List UInt8 → List UInt8) : Rl → List Pk → Option (List Tn) → List Pk → Prop
  | e_verb {ts r : List Pk} {x : Option (List Tn)} (h : isVb ts) (h1 : Rd' M (.op 3 []) ts x r) : Rd' M .expr ts x r
  | e_bad {ts r : List Pk} (h : ¬ isVb ts) (h1 : Rd' M .term ts none r) : Rd' M .expr ts none r
  | e_term {ts r r' : List Pk} {L : List Tn} {x : Option (List Tn)} (h : ¬ isVb ts) (h1 : Rd' M .term ts (some L) r) (h2 : Rd' M (.aft L) r x r') : Rd' M .expr ts x r'
  | a_end {ts : List Pk} {L : List Tn} (h : ¬ isVb ts) : Rd' M (.aft L) ts (some L) ts
  | a_op {ts r : List Pk} {L : List Tn} {x : Option (List Tn)} (h : isVb ts) (h1 : Rd' M (.op 4 L) ts x r) : Rd' M (.aft L) ts x r
  | o_bad {k : Int} {ts r : List Pk} {L : List Tn} (h1 : Rd' M (.vb k) ts none r) : Rd' M (.op k L) ts none r
  | o_is {k : Int} {ts r r' : List Pk} {L V : List Tn} {x : Option (List Tn)} (h1 : Rd' M (.vb k) ts (some V) r) (h2 : Rd' M .expr r x r') : Rd' M (.op k L) ts (x.map (V ++ L ++ ·)) r'
  | v_one {k : Int} {q : Pk} {r r' : List Pk} {x : Option (List Tn)} (h : q.k = 3 ∨ q.k = 4) (h1 : Rd' M (.adv k q.t []) r x r') : Rd' M (.vb k) (q :: r) x r'
  | v_bad {k : Int} {q : Pk} {r r' : List Pk} (h : q.k = 6) (ht : q.t = [123]) (h1 : Rd' M (.cl 125) r none r') : Rd' M (.vb k) (q :: r) none r'
  | v_body {k : Int} {q : Pk} {r r' r2 : List Pk} {B : List Tn} {x : Option (List Tn)} (h : q.k = 6) (ht : q.t = [123]) (h1 : Rd' M (.cl 125) r (some B) r') (h2 : Rd' M (.adv k q.t B) r' x r2) : Rd' M (.vb k) (q :: r) x r2
  | d_none {k : Int} {v : List UInt8} {B : List Tn} {ts : List Pk} (h : ¬ isK 5 ts) : Rd' M (.adv k v B) ts (some (⟨k, v, [], [], []⟩ :: B)) ts
  | d_is {k : Int} {v : List UInt8} {B : List Tn} {q : Pk} {r : List Pk} {c : UInt8} (h : q.k = 5) (ht : q.t = [c]) (hc : c ∈ advs k) : Rd' M (.adv k v B) (q :: r) (some (⟨k, v, [c], [], []⟩ :: B)) r
  | d_bad {k : Int} {v : List UInt8} {B : List Tn} {q : Pk} {r : List Pk} (h : q.k = 5) (ht : ∀ c ∈ advs k, q.t ≠ [c]) : Rd' M (.adv k v B) (q :: r) none (q :: r)
  | t_bad {ts r : List Pk} (h1 : Rd' M .atom ts none r) : Rd' M .term ts none r
  | t_is {ts r r' : List Pk} {L : List Tn} {x : Option (List Tn)} (h1 : Rd' M .atom ts (some L) r) (h2 : Rd' M (.brk L) r x r') : Rd' M .term ts x r'
  | b_end {ts : List Pk} {L : List Tn} (h : ¬ isMk 91 ts) : Rd' M (.brk L) ts (some L) ts
  | b_bad {q : Pk} {r r' : List Pk} {L : List Tn} (h : q.k = 6) (ht : q.t = [91]) (h1 : Rd' M (.cl 93) r none r') : Rd' M (.brk L) (q :: r) none r'
  | b_is {q : Pk} {r r' r2 : List Pk} {L I : List Tn} {x : Option (List Tn)} (h : q.k = 6) (ht : q.t = [91]) (h1 : Rd' M (.cl 93) r (some I) r') (h2 : Rd' M (.brk (⟨8, [], [], [], []⟩ :: (L ++ I))) r' x r2) : Rd' M (.brk L) (q :: r) x r2
  | m_word {q : Pk} {r : List Pk} (h : q.k = 2) : Rd' M .atom (q :: r) (some [⟨2, [], [], q.t, []⟩]) r
  | m_par {q : Pk} {r r' : List Pk} {x : Option (List Tn)} (h : q.k = 6) (ht : q.t = [40]) (h1 : Rd' M (.cl 41) r x r') : Rd' M .atom (q :: r) x r'
  | m_bad {ts : List Pk} (h2 : ¬ isK 2 ts) (h6 : ¬ isMk 40 ts) (h1 : ¬ isK 1 ts) : Rd' M .atom ts none ts
  | m_many {ts : List Pk} (h : 100 < (nmL ts).length) : Rd' M .atom ts none (ts.drop 100)
  | m_nums {ts : List Pk} (h : 0 < (nmL ts).length) (h1 : (nmL ts).length ≤ 100) : Rd' M .atom ts (some [⟨1, [], [], [], (nmL ts).map M⟩]) (ts.drop (nmL ts).length)
  | c_bad {c : UInt8} {ts r : List Pk} (h1 : Rd' M .expr ts none r) : Rd' M (.cl c) ts none r
  | c_not {c : UInt8} {ts r : List Pk} {L : List Tn} (h1 : Rd' M .expr ts (some L) r) (h : ¬ isMk c r) : Rd' M (.cl c) ts none r
  | c_is {c : UInt8} {ts r : List Pk} {q : Pk} {L : List Tn} (h1 : Rd' M .expr ts (some L) (q :: r)) (h : q.k = 6) (ht : q.t = [c]) : Rd' M (.cl c) ts (some L) r
variable {M : List UInt8 → List UInt8}

/-- A line, read: as Rd', for the rule of lines; what is behind it is still there. -/
inductive Ln (M : List UInt8 → List UInt8) : List Pk → Option (List Tn) → List Pk → Prop
  | assign {q w : Pk} {r r' : List Pk} {x : Option (List Tn)} (h : q.k = 2) (h2 : w.k = 6) (ht : w.t = [58]) (h1 : Rd' M .expr r x r') : Ln M (q :: w :: r) (x.map (⟨5, [], [], q.t, []⟩ :: ·)) r'
  | defbad {q w : Pk} {r : List Pk} (h : q.k = 3) (h2 : w.k = 6) (ht : w.t = [58]) (h1 : ¬ isMk 123 r) : Ln M (q :: w :: r) none r
  | define {q w b : Pk} {r r' : List Pk} {x : Option (List Tn)} (h : q.k = 3) (h2 : w.k = 6) (ht : w.t = [58]) (h3 : b.k = 6) (hb : b.t = [123]) (h1 : Rd' M (.cl 125) r x r') : Ln M (q :: w :: b :: r) (x.map (⟨7, [], [], q.t, []⟩ :: ·)) r'
  | idxbad {q w : Pk} {r r' : List Pk} (h : q.k = 2) (h2 : w.k = 6) (ht : w.t = [91]) (h1 : Rd' M (.cl 93) r none r') : Ln M (q :: w :: r) none r'
  | amend {q w d : Pk} {r r1 r' : List Pk} {I : List Tn} {x : Option (List Tn)} (h : q.k = 2) (h2 : w.k = 6) (ht : w.t = [91]) (h1 : Rd' M (.cl 93) r (some I) (d :: r1)) (h3 : d.k = 6) (hd : d.t = [58]) (h4 : Rd' M .expr r1 x r') :
      Ln M (q :: w :: r) (x.map fun X => ⟨6, [], [], q.t, []⟩ :: (I ++ X)) r'
  | ixbad {q w : Pk} {r r1 r' : List Pk} {I : List Tn} (h : q.k = 2) (h2 : w.k = 6) (ht : w.t = [91]) (h1 : Rd' M (.cl 93) r (some I) r1) (h3 : ¬ isMk 58 r1) (h4 : Rd' M (.brk (⟨8, [], [], [], []⟩ :: ([⟨2, [], [], q.t, []⟩] ++ I))) r1 none r') : Ln M (q :: w :: r) none r'
  | index {q w : Pk} {r r1 r2 r' : List Pk} {I L : List Tn} {x : Option (List Tn)} (h : q.k = 2) (h2 : w.k = 6) (ht : w.t = [91]) (h1 : Rd' M (.cl 93) r (some I) r1) (h3 : ¬ isMk 58 r1) (h4 : Rd' M (.brk (⟨8, [], [], [], []⟩ :: ([⟨2, [], [], q.t, []⟩] ++ I))) r1 (some L) r2) (h5 : Rd' M (.aft L) r2 x r') : Ln M (q :: w :: r) x r'
  | plain {ts r : List Pk} {x : Option (List Tn)} (h1 : ¬ (isK 2 ts ∧ (isMk 58 ts.tail ∨ isMk 91 ts.tail))) (h2 : ¬ (isK 3 ts ∧ isMk 58 ts.tail)) (h : Rd' M .expr ts x r) : Ln M ts x r

theorem nmL_le : ∀ ts : List Pk, (nmL ts).length ≤ ts.length
  | [] => Nat.le_refl _
  | q :: r => by
    unfold nmL
    split
    · exact Nat.succ_le_succ (nmL_le r)
    · exact Nat.zero_le _
theorem nmL_pos {ts : List Pk} (h : isK 1 ts) : 0 < (nmL ts).length := by
  cases ts with
  | nil => exact h.elim
  | cons q r => unfold nmL; rw [if_pos (show q.k = 1 from h)]; exact Nat.succ_pos _
theorem isMk_some {c : UInt8} {ts : List Pk} (h : isMk c ts) : ∃ q r, ts = q :: r ∧ q.k = 6 ∧ q.t = [c] := by
  cases ts with
  | nil => exact h.elim
  | cons q r => exact ⟨q, r, rfl, h.1, h.2⟩
/-- A rule's rank: rules that read nothing go down. -/
def Rl.rank : Rl → Nat
  | .adv .. => 0
  | .brk _ => 1
  | .atom => 1
  | .term => 2
  | .vb _ => 2
  | .op .. => 3
  | .aft _ => 4
  | .expr => 5
  | .cl _ => 6
/-- What a rule leaves is no longer; an expression, a term, a verb that were read leave less. -/
def Rl.eats : Rl → Bool
  | .adv .. | .brk _ | .aft _ => false
  | _ => true
theorem Rd'.le {R : Rl} {ts r : List Pk} {x : Option (List Tn)} (h : Rd' M R ts x r) : r.length ≤ ts.length ∧ (R.eats = true → x ≠ none → r.length < ts.length) := by
  induction h with
  | e_verb h h1 i => exact ⟨i.1, fun _ => i.2 rfl⟩
  | e_bad h h1 i => exact ⟨i.1, fun _ hx => absurd rfl hx⟩
  | e_term h h1 h2 i j =>
    have := i.2 rfl (by simp)
    exact ⟨by omega, fun _ _ => by omega⟩
  | a_end h => exact ⟨Nat.le_refl _, fun h => by cases h⟩
  | a_op h h1 i => exact ⟨i.1, fun h => by cases h⟩
  | o_bad h1 i => exact ⟨i.1, fun _ hx => absurd rfl hx⟩
  | o_is h1 h2 i j =>
    have := i.2 rfl (by simp)
    exact ⟨by omega, fun _ _ => by omega⟩
  | v_one h h1 i => exact ⟨by simp only [List.length_cons]; omega, fun _ _ => by simp only [List.length_cons]; omega⟩
  | v_bad h ht h1 i => exact ⟨by simp only [List.length_cons]; omega, fun _ hx => absurd rfl hx⟩
  | v_body h ht h1 h2 i j => exact ⟨by simp only [List.length_cons]; omega, fun _ _ => by simp only [List.length_cons]; omega⟩
  | d_none h => exact ⟨Nat.le_refl _, fun h => by cases h⟩
  | d_is h ht hc => exact ⟨by simp only [List.length_cons]; omega, fun h => by cases h⟩
  | d_bad h ht => exact ⟨Nat.le_refl _, fun h => by cases h⟩
  | t_bad h1 i => exact ⟨i.1, fun _ hx => absurd rfl hx⟩
  | t_is h1 h2 i j =>
    have := i.2 rfl (by simp)
    exact ⟨by omega, fun _ _ => by omega⟩
  | b_end h => exact ⟨Nat.le_refl _, fun h => by cases h⟩
  | b_bad h ht h1 i => exact ⟨by simp only [List.length_cons]; omega, fun h => by cases h⟩
  | b_is h ht h1 h2 i j => exact ⟨by simp only [List.length_cons]; omega, fun h => by cases h⟩
  | m_word h => exact ⟨by simp only [List.length_cons]; omega, fun _ _ => by simp only [List.length_cons]; omega⟩
  | m_par h ht h1 i => exact ⟨by simp only [List.length_cons]; omega, fun _ _ => by simp only [List.length_cons]; omega⟩
  | m_bad h2 h6 h1 => exact ⟨Nat.le_refl _, fun _ hx => absurd rfl hx⟩
  | m_many h => exact ⟨by rw [List.length_drop]; omega, fun _ hx => absurd rfl hx⟩
  | @m_nums ts h h1 =>
    have := nmL_le ts
    exact ⟨by rw [List.length_drop]; omega, fun _ _ => by rw [List.length_drop]; omega⟩
  | c_bad h1 i => exact ⟨i.1, fun _ hx => absurd rfl hx⟩
  | c_not h1 h i => exact ⟨i.1, fun _ hx => absurd rfl hx⟩
  | c_is h1 h ht i =>
    have := i.1
    simp only [List.length_cons] at this
    exact ⟨by omega, fun _ _ => by omega⟩
/-- Each rule reads something of each list, or fails somewhere; a verb where one begins. -/
theorem rd_ex (M : List UInt8 → List UInt8) : ∀ (n : Nat) (R : Rl) (ts : List Pk), 8 * ts.length + R.rank ≤ n → (∀ k, R = .vb k → isVb ts) → (∀ k L, R = .op k L → isVb ts) → ∃ x r, Rd' M R ts x r := by
  intro n
  induction n using Nat.strongRecOn with
  | ind n ih =>
    intro R ts hn hv ho
    have go : ∀ (R' : Rl) (us : List Pk), 8 * us.length + R'.rank < n → (∀ k, R' = .vb k → isVb us) → (∀ k L, R' = .op k L → isVb us) → ∃ x r, Rd' M R' us x r := fun R' us h hv ho => ih _ h R' us (Nat.le_refl _) hv ho
    cases R with
    | adv k v B =>
      cases ts with
      | nil => exact ⟨_, _, .d_none id⟩
      | cons q r =>
        by_cases h : q.k = 5
        · by_cases hc : ∃ c ∈ advs k, q.t = [c]
          · obtain ⟨c, hc, ht⟩ := hc
            exact ⟨_, _, .d_is h ht hc⟩
          · exact ⟨_, _, .d_bad h fun c h1 h2 => hc ⟨c, h1, h2⟩⟩
        · exact ⟨_, _, .d_none h⟩
    | brk L =>
      by_cases h : isMk 91 ts
      · obtain ⟨q, r, rfl, h6, ht⟩ := isMk_some h
        simp only [List.length_cons, Rl.rank] at hn
        obtain ⟨x, r1, h1⟩ := go (.cl 93) r (by simp only [Rl.rank]; omega) (fun k e => by cases e) (fun k L e => by cases e)
        have := h1.le.1
        cases x with
        | none => exact ⟨_, _, .b_bad h6 ht h1⟩
        | some I =>
          obtain ⟨x, r2, h2⟩ := go (.brk (⟨8, [], [], [], []⟩ :: (L ++ I))) r1 (by simp only [Rl.rank]; omega) (fun k e => by cases e) (fun k L e => by cases e)
          exact ⟨_, _, .b_is h6 ht h1 h2⟩
      · exact ⟨_, _, .b_end h⟩
    | atom =>
      by_cases h2 : isK 2 ts
      · cases ts with
        | nil => exact h2.elim
        | cons q r => exact ⟨_, _, .m_word h2⟩
      by_cases h6 : isMk 40 ts
      · obtain ⟨q, r, rfl, h6, ht⟩ := isMk_some h6
        simp only [List.length_cons, Rl.rank] at hn
        obtain ⟨x, r1, h1⟩ := go (.cl 41) r (by simp only [Rl.rank]; omega) (fun k e => by cases e) (fun k L e => by cases e)
        exact ⟨_, _, .m_par h6 ht h1⟩
      by_cases h1 : isK 1 ts
      · by_cases hl : (nmL ts).length ≤ 100
        · exact ⟨_, _, .m_nums (nmL_pos h1) hl⟩
        · exact ⟨_, _, .m_many (by omega)⟩
      · exact ⟨_, _, .m_bad h2 h6 h1⟩
    | term =>
      simp only [Rl.rank] at hn
      obtain ⟨x, r1, h1⟩ := go .atom ts (by simp only [Rl.rank]; omega) (fun k e => by cases e) (fun k L e => by cases e)
      have := h1.le.1
      cases x with
      | none => exact ⟨_, _, .t_bad h1⟩
      | some L =>
        obtain ⟨x, r2, h2⟩ := go (.brk L) r1 (by simp only [Rl.rank]; omega) (fun k e => by cases e) (fun k L e => by cases e)
        exact ⟨_, _, .t_is h1 h2⟩
    | vb k =>
      have hb := hv k rfl
      cases ts with
      | nil => exact hb.elim
      | cons q r =>
        simp only [List.length_cons, Rl.rank] at hn
        by_cases h : q.k = 3 ∨ q.k = 4
        · obtain ⟨x, r1, h1⟩ := go (.adv k q.t []) r (by simp only [Rl.rank]; omega) (fun k e => by cases e) (fun k L e => by cases e)
          exact ⟨_, _, .v_one h h1⟩
        · have hb : q.k = 3 ∨ q.k = 4 ∨ (q.k = 6 ∧ q.t = [123]) := hb
          have h6 : q.k = 6 ∧ q.t = [123] := by
            rcases hb with hb | hb | hb
            · exact absurd (.inl hb) h
            · exact absurd (.inr hb) h
            · exact hb
          obtain ⟨x, r1, h1⟩ := go (.cl 125) r (by simp only [Rl.rank]; omega) (fun k e => by cases e) (fun k L e => by cases e)
          have := h1.le.1
          cases x with
          | none => exact ⟨_, _, .v_bad h6.1 h6.2 h1⟩
          | some B =>
            obtain ⟨x, r2, h2⟩ := go (.adv k q.t B) r1 (by simp only [Rl.rank]; omega) (fun k e => by cases e) (fun k L e => by cases e)
            exact ⟨_, _, .v_body h6.1 h6.2 h1 h2⟩
    | op k L =>
      have hb := ho k L rfl
      simp only [Rl.rank] at hn
      obtain ⟨x, r1, h1⟩ := go (.vb k) ts (by simp only [Rl.rank]; omega) (fun _ _ => hb) (fun k L e => by cases e)
      cases x with
      | none => exact ⟨_, _, .o_bad h1⟩
      | some V =>
        have := h1.le.2 rfl (by simp)
        obtain ⟨x, r2, h2⟩ := go .expr r1 (by simp only [Rl.rank]; omega) (fun k e => by cases e) (fun k L e => by cases e)
        exact ⟨_, _, .o_is h1 h2⟩
    | aft L =>
      simp only [Rl.rank] at hn
      by_cases hb : isVb ts
      · obtain ⟨x, r1, h1⟩ := go (.op 4 L) ts (by simp only [Rl.rank]; omega) (fun k e => by cases e) (fun _ _ _ => hb)
        exact ⟨_, _, .a_op hb h1⟩
      · exact ⟨_, _, .a_end hb⟩
    | expr =>
      simp only [Rl.rank] at hn
      by_cases hb : isVb ts
      · obtain ⟨x, r1, h1⟩ := go (.op 3 []) ts (by simp only [Rl.rank]; omega) (fun k e => by cases e) (fun _ _ _ => hb)
        exact ⟨_, _, .e_verb hb h1⟩
      · obtain ⟨x, r1, h1⟩ := go .term ts (by simp only [Rl.rank]; omega) (fun k e => by cases e) (fun k L e => by cases e)
        cases x with
        | none => exact ⟨_, _, .e_bad hb h1⟩
        | some L =>
          have := h1.le.2 rfl (by simp)
          obtain ⟨x, r2, h2⟩ := go (.aft L) r1 (by simp only [Rl.rank]; omega) (fun k e => by cases e) (fun k L e => by cases e)
          exact ⟨_, _, .e_term hb h1 h2⟩
    | cl c =>
      simp only [Rl.rank] at hn
      obtain ⟨x, r1, h1⟩ := go .expr ts (by simp only [Rl.rank]; omega) (fun k e => by cases e) (fun k L e => by cases e)
      cases x with
      | none => exact ⟨_, _, .c_bad h1⟩
      | some L =>
        by_cases hc : isMk c r1
        · obtain ⟨q, r2, rfl, h6, ht⟩ := isMk_some hc
          exact ⟨_, _, .c_is h1 h6 ht⟩
        · exact ⟨_, _, .c_not h1 hc⟩
theorem Rd'.any (M : List UInt8 → List UInt8) (R : Rl) (ts : List Pk) (hv : ∀ k, R = .vb k → isVb ts) (ho : ∀ k L, R = .op k L → isVb ts) : ∃ x r, Rd' M R ts x r := rd_ex M _ R ts (Nat.le_refl _) hv ho
/-- Each list is a line, or fails as one. -/
theorem Ln.any (M : List UInt8 → List UInt8) (ts : List Pk) : ∃ x r, Ln M ts x r := by
  have go : ∀ (R : Rl) (us : List Pk), R.eats = true ∨ (∃ L, R = .brk L ∨ R = .aft L) → (∀ k, R ≠ .vb k) → (∀ k L, R ≠ .op k L) → ∃ x r, Rd' M R us x r := fun R us _ hv ho => Rd'.any M R us (fun k e => absurd e (hv k)) (fun k L e => absurd e (ho k L))
  by_cases h2 : isK 2 ts ∧ isMk 58 ts.tail
  · cases ts with
    | nil => exact h2.1.elim
    | cons q r =>
      obtain ⟨w, r, e, h6, ht⟩ := isMk_some h2.2
      cases e
      obtain ⟨x, r', h⟩ := go .expr r (.inl rfl) (fun k e => by cases e) (fun k L e => by cases e)
      exact ⟨_, _, .assign h2.1 h6 ht h⟩
  by_cases h3 : isK 3 ts ∧ isMk 58 ts.tail
  · cases ts with
    | nil => exact h3.1.elim
    | cons q r =>
      obtain ⟨w, r, e, h6, ht⟩ := isMk_some h3.2
      cases e
      by_cases hb : isMk 123 r
      · obtain ⟨b, r, rfl, hb6, hbt⟩ := isMk_some hb
        obtain ⟨x, r', h⟩ := go (.cl 125) r (.inl rfl) (fun k e => by cases e) (fun k L e => by cases e)
        exact ⟨_, _, .define h3.1 h6 ht hb6 hbt h⟩
      · exact ⟨_, _, .defbad h3.1 h6 ht hb⟩
  by_cases h4 : isK 2 ts ∧ isMk 91 ts.tail
  · cases ts with
    | nil => exact h4.1.elim
    | cons q r =>
      obtain ⟨w, r, e, h6, ht⟩ := isMk_some h4.2
      cases e
      obtain ⟨x, r1, h⟩ := go (.cl 93) r (.inl rfl) (fun k e => by cases e) (fun k L e => by cases e)
      cases x with
      | none => exact ⟨_, _, .idxbad h4.1 h6 ht h⟩
      | some I =>
        by_cases hc : isMk 58 r1
        · obtain ⟨d, r1, rfl, hd6, hdt⟩ := isMk_some hc
          obtain ⟨x, r', h5⟩ := go .expr r1 (.inl rfl) (fun k e => by cases e) (fun k L e => by cases e)
          exact ⟨_, _, .amend h4.1 h6 ht h hd6 hdt h5⟩
        · obtain ⟨x, r2, h5⟩ := go (.brk (⟨8, [], [], [], []⟩ :: ([⟨2, [], [], q.t, []⟩] ++ I))) r1 (.inr ⟨_, .inl rfl⟩) (fun k e => by cases e) (fun k L e => by cases e)
          cases x with
          | none => exact ⟨_, _, .ixbad h4.1 h6 ht h hc h5⟩
          | some L =>
            obtain ⟨x, r', h7⟩ := go (.aft L) r2 (.inr ⟨_, .inr rfl⟩) (fun k e => by cases e) (fun k L e => by cases e)
            exact ⟨_, _, .index h4.1 h6 ht h hc h5 h7⟩
  obtain ⟨x, r, h⟩ := go .expr ts (.inl rfl) (fun k e => by cases e) (fun k L e => by cases e)
  exact ⟨_, _, .plain (fun h => h.2.elim (fun e => h2 ⟨h.1, e⟩) (fun e => h4 ⟨h.1, e⟩)) h3 h⟩
end Go.Proofs.YtljkmdmbndjngaaGreat

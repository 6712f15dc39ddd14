import Init
/-
  Parts of a line, plainly: bytes, their kinds, and how a line runs. (Imports nothing of the program.)
-/
namespace Go.Proofs.YtomkjmhebnecbaaGreatDoor
set_option linter.unusedVariables false
set_option linter.unusedSimpArgs false
/-- The bytes of which parts are. -/
def figL : List UInt8 := [48, 49, 50, 51, 52, 53, 54, 55, 56, 57]
def smL : List UInt8 := [97, 98, 99, 100, 101, 102, 103, 104, 105, 106, 107, 108, 109, 110, 111, 112, 113, 114, 115, 116, 117, 118, 119, 120, 121, 122]
def grL : List UInt8 := [65, 66, 67, 68, 69, 70, 71, 72, 73, 74, 75, 76, 77, 78, 79, 80, 81, 82, 83, 84, 85, 86, 87, 88, 89, 90]
def sgL : List UInt8 := [43, 45, 42, 37, 33, 38, 124, 60, 62, 61, 126, 44, 35, 94, 36, 63, 64]
def adL : List UInt8 := [39, 47, 92, 46, 96]
def mkL : List UInt8 := [40, 41, 91, 93, 123, 125, 58]
/-- A byte's kind: what it begins; 7: a blank, 0: nothing. -/
def cls (c : UInt8) : Nat :=
  if c == 32 then 7 else if figL.contains c || c == 95 then 1 else if smL.contains c then 2 else if grL.contains c then 3 else if sgL.contains c then 4 else if adL.contains c then 5 else if mkL.contains c then 6 else 0
/-- The bytes with which a part goes on. -/
def moreL : Nat → List UInt8
  | 1 => figL
  | 2 => smL ++ figL
  | 3 => smL ++ grL ++ figL
  | _ => []
structure Tk where
  kind : Nat
  text : List UInt8
  at_ : Nat
def Stop (k : Nat) (r : List UInt8) : Prop := ∀ c, r.head? = some c → (moreL k).contains c = false
/-- A line, from a place on: its parts, and the place of its error, if it has one. -/
inductive Run (N : List UInt8 → Bool) : List UInt8 → Nat → List Tk → Option Nat → Prop
  | nil (p : Nat) : Run N [] p [] none
  | blank {c : UInt8} {l : List UInt8} {p : Nat} {ts : List Tk} {e : Option Nat} (h : cls c = 7) (hr : Run N l (p + 1) ts e) : Run N (c :: l) p ts e
  | part {k : Nat} {c : UInt8} {t r : List UInt8} {p : Nat} {ts : List Tk} {e : Option Nat} (h : cls c = k) (h1 : 1 ≤ k) (h6 : k ≤ 6) (ht : ∀ x ∈ t, (moreL k).contains x = true) (hs : Stop k r) (hn : k = 1 → N (c :: t) = true) (hr : Run N r (p + (t.length + 1)) ts e) : Run N (c :: t ++ r) p (⟨k, c :: t, p⟩ :: ts) e
  | bad {c : UInt8} {r : List UInt8} {p : Nat} (h : cls c = 0) : Run N (c :: r) p [] (some p)
  | figs {c : UInt8} {t r : List UInt8} {p : Nat} (h : cls c = 1) (ht : ∀ x ∈ t, (moreL 1).contains x = true) (hs : Stop 1 r) (hn : N (c :: t) = false) : Run N (c :: t ++ r) p [] (some p)

theorem all_u8 {P : UInt8 → Prop} (h : ∀ n : Fin 256, P (UInt8.ofNat n.val)) (c : UInt8) : P c := by
  have := h ⟨c.toNat, c.toNat_lt⟩
  rwa [show UInt8.ofNat (⟨c.toNat, c.toNat_lt⟩ : Fin 256).val = c from UInt8.toNat_inj.1 (by simp)] at this
theorem cls_le : ∀ c, cls c ≤ 7 := all_u8 (by decide +kernel)
theorem more_blank : ∀ k, (moreL k).contains 32 = false
  | 0 | 1 | 2 | 3 => by decide
  | k + 4 => rfl
theorem cls_blank : cls 32 = 7 := by decide
theorem blank_is : ∀ c, cls c = 7 → c = 32 := all_u8 (by decide +kernel)
theorem Stop.nil (k : Nat) : Stop k [] := fun c h => by cases h
theorem Stop.cons {k : Nat} {c : UInt8} {r : List UInt8} (h : (moreL k).contains c = false) : Stop k (c :: r) := fun d hd => by cases hd; exact h
theorem Stop.blank (k : Nat) (r : List UInt8) : Stop k (32 :: r) := .cons (more_blank k)
theorem Stop.app {k : Nat} {r : List UInt8} (h : Stop k r) (b : List UInt8) : Stop k (r ++ 32 :: b) := by
  cases r with
  | nil => exact .blank k b
  | cons c r => exact .cons (h c rfl)
theorem Stop.take {k : Nat} {r : List UInt8} (h : Stop k r) (m : Nat) : Stop k (r.take m) := by
  cases r with
  | nil => rw [List.take_nil]; exact .nil k
  | cons c r =>
    cases m with
    | zero => exact .nil k
    | succ m => exact .cons (h c rfl)
theorem more_big {k : Nat} (h : 4 ≤ k) : moreL k = [] := by
  match k, h with
  | k + 4, _ => rfl
/-- Each text splits: what goes on, and what stops. -/
theorem split_at (k : Nat) : ∀ l : List UInt8, ∃ t r, l = t ++ r ∧ (∀ x ∈ t, (moreL k).contains x = true) ∧ Stop k r
  | [] => ⟨[], [], rfl, (fun x h => absurd h List.not_mem_nil), Stop.nil k⟩
  | c :: l => by
    by_cases hc : (moreL k).contains c = true
    · obtain ⟨t, r, e, h, hs⟩ := split_at k l
      refine ⟨c :: t, r, by rw [e]; rfl, ?_, hs⟩
      intro x hx
      rcases List.mem_cons.1 hx with rfl | hx
      · exact hc
      · exact h x hx
    · exact ⟨[], c :: l, rfl, (fun x h => absurd h List.not_mem_nil), Stop.cons (by simpa using hc)⟩
theorem run_ex (N : List UInt8 → Bool) : ∀ (n : Nat) (l : List UInt8) (p : Nat), l.length ≤ n → ∃ ts e, Run N l p ts e
  | _, [], p, _ => ⟨_, _, .nil p⟩
  | 0, _ :: _, _, h => by simp at h
  | n + 1, c :: l, p, h => by
    have hl : l.length ≤ n := by simpa using h
    have hc := cls_le c
    by_cases h7 : cls c = 7
    · obtain ⟨ts, e, hr⟩ := run_ex N n l (p + 1) hl
      exact ⟨ts, e, .blank h7 hr⟩
    by_cases h0 : cls c = 0
    · exact ⟨_, _, .bad h0⟩
    obtain ⟨t, r, e, ht, hs⟩ := split_at (cls c) l
    have hr : r.length ≤ n := by rw [e, List.length_append] at hl; omega
    obtain ⟨ts, er, hR⟩ := run_ex N n r (p + (t.length + 1)) hr
    rw [e]
    by_cases hn : cls c = 1 ∧ N (c :: t) = false
    · exact ⟨_, _, .figs (t := t) (r := r) hn.1 (by rw [← hn.1]; exact ht) (by rw [← hn.1]; exact hs) hn.2⟩
    · exact ⟨_, _, .part (t := t) (r := r) rfl (by omega) (by omega) ht hs (fun h1 => by
        cases hv : N (c :: t) with
        | true => rfl
        | false => exact absurd ⟨h1, hv⟩ hn) hR⟩
theorem Run.any (N : List UInt8 → Bool) (l : List UInt8) (p : Nat) : ∃ ts e, Run N l p ts e := run_ex N l.length l p (Nat.le_refl _)

variable {N : List UInt8 → Bool}
theorem Run.err_blank {a : List UInt8} {p q : Nat} {ts : List Tk} {e : Option Nat} (h : Run N a p ts e) (he : e = some q) (b : List UInt8) : Run N (a ++ 32 :: b) p ts (some q) := by
  induction h with
  | nil p => cases he
  | blank h hr ih => exact .blank h (ih he)
  | part h h1 h6 ht hs hn hr ih =>
    rw [List.append_assoc]
    exact .part h h1 h6 ht (hs.app b) hn (ih he)
  | bad h => cases he; exact .bad h
  | figs h ht hs hn =>
    cases he
    rw [List.append_assoc]
    exact .figs h ht (hs.app b) hn
theorem Run.app_blank {a : List UInt8} {p : Nat} {ts : List Tk} {e : Option Nat} (h : Run N a p ts e) (he : e = none) {b : List UInt8} {us : List Tk} {f : Option Nat} :
    Run N b (p + a.length + 1) us f → Run N (a ++ 32 :: b) p (ts ++ us) f := by
  induction h with
  | nil p => exact fun hb => .blank cls_blank hb
  | @blank c l p ts e h hr ih =>
    intro hb
    exact .blank h (ih he (by rw [show p + 1 + l.length + 1 = p + (c :: l).length + 1 by simp; omega]; exact hb))
  | @part k c t r p ts e h h1 h6 ht hs hn hr ih =>
    intro hb
    rw [List.append_assoc]
    exact .part h h1 h6 ht (hs.app b) hn (ih he (by rw [show p + (t.length + 1) + r.length + 1 = p + (c :: t ++ r).length + 1 by simp; omega]; exact hb))
  | bad h => cases he
  | figs h ht hs hn => cases he
theorem Run.err_at {a : List UInt8} {p : Nat} {ts : List Tk} {e : Option Nat} (h : Run N a p ts e) {q : Nat} (he : e = some q) : p ≤ q ∧ q < p + a.length ∧ Run N (a.take (q - p)) p ts none := by
  induction h with
  | nil p => cases he
  | @blank c l p ts e h hr ih =>
    obtain ⟨h1, h2, h3⟩ := ih he
    refine ⟨by omega, by simp; omega, ?_⟩
    rw [show q - p = (q - (p + 1)) + 1 by omega, List.take_succ_cons]
    exact .blank h h3
  | @part k c t r p ts e h h1 h6 ht hs hn hr ih =>
    obtain ⟨g1, g2, g3⟩ := ih he
    refine ⟨by omega, by simp; omega, ?_⟩
    rw [show q - p = (c :: t).length + (q - (p + (t.length + 1))) by simp; omega, List.take_length_add_append]
    exact .part h h1 h6 ht (hs.take _) hn g3
  | @bad c r p h =>
    cases he
    refine ⟨Nat.le_refl _, by simp, ?_⟩
    rw [Nat.sub_self, List.take_zero]
    exact .nil _
  | @figs c t r p h ht hs hn =>
    cases he
    refine ⟨Nat.le_refl _, by simp, ?_⟩
    rw [Nat.sub_self, List.take_zero]
    exact .nil _
def Tk.up (m : Nat) (t : Tk) : Tk := ⟨t.kind, t.text, t.at_ + m⟩
theorem Run.up {a : List UInt8} {p : Nat} {ts : List Tk} {e : Option Nat} (h : Run N a p ts e) (m : Nat) : Run N a (p + m) (ts.map (Tk.up m)) (e.map (· + m)) := by
  induction h with
  | nil p => exact .nil _
  | @blank c l p ts e h hr ih => exact .blank h (by rw [show p + m + 1 = p + 1 + m by omega]; exact ih)
  | @part k c t r p ts e h h1 h6 ht hs hn hr ih => exact .part h h1 h6 ht hs hn (by rw [show p + m + (t.length + 1) = p + (t.length + 1) + m by omega]; exact ih)
  | bad h => exact .bad h
  | figs h ht hs hn => exact .figs h ht hs hn
/-- Texts with one blank between each two. -/
def joinT : List (List UInt8) → List UInt8
  | [] => []
  | [a] => a
  | a :: b :: r => a ++ 32 :: joinT (b :: r)
theorem joinT_cons (a : List UInt8) {r : List (List UInt8)} (h : r ≠ []) : joinT (a :: r) = a ++ 32 :: joinT r := by
  cases r with
  | nil => exact absurd rfl h
  | cons b r => rfl
def alike (t u : Tk) : Prop := t.kind = u.kind ∧ t.text = u.text
theorem Run.again {a : List UInt8} {p : Nat} {ts : List Tk} {e : Option Nat} (h : Run N a p ts e) (he : e = none) : ∀ q, ∃ us, Run N (joinT (ts.map Tk.text)) q us none ∧ us.map Tk.kind = ts.map Tk.kind ∧ us.map Tk.text = ts.map Tk.text := by
  induction h with
  | nil p => exact fun q => ⟨[], .nil q, rfl, rfl⟩
  | blank h hr ih => exact ih he
  | @part k c t r p ts e h h1 h6 ht hs hn hr ih =>
    intro q
    cases ts with
    | nil =>
      refine ⟨[⟨k, c :: t, q⟩], ?_, rfl, rfl⟩
      have := Run.part (r := []) h h1 h6 ht (.nil k) hn (.nil (N := N) (q + (t.length + 1)))
      rw [List.append_nil] at this
      exact this
    | cons u ts =>
      obtain ⟨us, h2, e1, e2⟩ := ih he (q + (t.length + 1) + 1)
      refine ⟨⟨k, c :: t, q⟩ :: us, ?_, by rw [List.map_cons, e1]; rfl, by rw [List.map_cons, e2]; rfl⟩
      rw [List.map_cons, joinT_cons _ (by simp)]
      exact .part h h1 h6 ht (.blank k _) hn (.blank cls_blank h2)
  | bad h => cases he
  | figs h ht hs hn => cases he
/-- Each part stands where it says, one behind the other. -/
def Placed (s : List UInt8) : Nat → List Tk → Prop
  | _, [] => True
  | p, t :: ts => (p ≤ t.at_ ∧ t.at_ + t.text.length ≤ s.length ∧ t.text ≠ [] ∧ (s.drop t.at_).take t.text.length = t.text ∧ 1 ≤ t.kind ∧ t.kind ≤ 6) ∧ Placed s (t.at_ + t.text.length) ts
theorem Placed.down {s : List UInt8} {p q : Nat} {ts : List Tk} (h : Placed s q ts) (hp : p ≤ q) : Placed s p ts := by
  cases ts with
  | nil => trivial
  | cons t ts => exact ⟨⟨Nat.le_trans hp h.1.1, h.1.2⟩, h.2⟩
theorem Run.placed {s a : List UInt8} {p : Nat} {ts : List Tk} {e : Option Nat} (h : Run N a p ts e) : s.drop p = a → Placed s p ts := by
  induction h with
  | nil p => exact fun _ => trivial
  | @blank c l p ts e h hr ih =>
    intro hd
    exact (ih (by rw [← List.drop_drop, hd]; rfl)).down (by omega)
  | @part k c t r p ts e h h1 h6 ht hs hn hr ih =>
    intro hd
    have hl : s.length - p = (c :: t ++ r).length := by rw [← hd, List.length_drop]
    simp at hl
    refine ⟨⟨Nat.le_refl _, by simp; omega, by simp, ?_, h1, h6⟩, ?_⟩
    · show (s.drop p).take (c :: t).length = _
      rw [hd, List.take_left]
    · show Placed s (p + (c :: t).length) ts
      refine ih ?_
      rw [← List.drop_drop, hd]
      exact List.drop_left (l₁ := c :: t)
  | bad h => exact fun _ => trivial
  | figs h ht hs hn => exact fun _ => trivial
/-- How long all texts are, with a blank behind each. -/
def spanT (l : List (List UInt8)) : Nat := (l.map fun t => t.length + 1).sum
theorem joinT_len : ∀ l, (joinT l).length ≤ spanT l
  | [] => by simp [joinT]
  | [a] => by simp [joinT, spanT]
  | a :: b :: r => by
    have := joinT_len (b :: r)
    simp [joinT, spanT] at this ⊢
    omega
theorem Run.span {a : List UInt8} {p : Nat} {ts : List Tk} {e : Option Nat} (h : Run N a p ts e) : spanT (ts.map Tk.text) ≤ 2 * a.length ∧ ts.length ≤ a.length := by
  induction h with
  | nil p => exact ⟨by simp [spanT], by simp⟩
  | blank h hr ih => exact ⟨by simp; omega, by simp; omega⟩
  | part h h1 h6 ht hs hn hr ih => exact ⟨by simp [spanT] at ih ⊢; omega, by simp; omega⟩
  | bad h => exact ⟨by simp [spanT], by simp⟩
  | figs h ht hs hn => exact ⟨by simp [spanT], by simp⟩
/-- A text as a part: the kind that the document's words give it; 0: none. -/
def kindL (l : List UInt8) : Nat :=
  match l with
  | [] => 0
  | c :: t =>
    if smL.contains c && t.all (moreL 2).contains then 2
    else if grL.contains c && t.all (grL ++ smL ++ figL).contains then 3
    else if t.isEmpty && sgL.contains c then 4
    else if t.isEmpty && adL.contains c then 5
    else if t.isEmpty && mkL.contains c then 6
    else if (c == 95 || figL.contains c) && t.all figL.contains then 1
    else 0
theorem cls_facts : ∀ c, (smL.contains c = (cls c == 2)) ∧ (grL.contains c = (cls c == 3)) ∧ (sgL.contains c = (cls c == 4)) ∧ (adL.contains c = (cls c == 5)) ∧ (mkL.contains c = (cls c == 6)) ∧ ((c == 95 || figL.contains c) = (cls c == 1)) := all_u8 (by decide +kernel)
theorem more3 : ∀ c, (grL ++ smL ++ figL).contains c = (moreL 3).contains c := all_u8 (by decide +kernel)
theorem kindL_cons (c : UInt8) (t : List UInt8) : kindL (c :: t) = if 1 ≤ cls c ∧ cls c ≤ 6 ∧ t.all (moreL (cls c)).contains = true then cls c else 0 := by
  obtain ⟨e2, e3, e4, e5, e6, e1⟩ := cls_facts c
  have h7 := cls_le c
  have hm : t.all (grL ++ smL ++ figL).contains = t.all (moreL 3).contains := by
    congr 1; funext x; exact more3 x
  have hE : ∀ k, 4 ≤ k → t.all (moreL k).contains = t.isEmpty := fun k hk => by
    rw [more_big hk]
    cases t with
    | nil => rfl
    | cons d t => simp
  unfold kindL
  simp only [e1, e2, e3, e4, e5, e6, hm]
  generalize hk : cls c = k at *
  match k, h7 with
  | 0, _ => simp
  | 1, _ => simp [moreL]
  | 2, _ => simp
  | 3, _ => simp
  | 4, _ => simp [hE]
  | 5, _ => simp [hE]
  | 6, _ => simp [hE]
  | 7, _ => simp
theorem kindL_yes {c : UInt8} {t : List UInt8} {k : Nat} (h : cls c = k) (h1 : 1 ≤ k) (h6 : k ≤ 6) (ht : ∀ x ∈ t, (moreL k).contains x = true) : kindL (c :: t) = k := by
  rw [kindL_cons, h, if_pos ⟨h1, h6, List.all_eq_true.2 ht⟩]
theorem kindL_no {c d : UInt8} {t : List UInt8} {k : Nat} (h : cls c = k) (hd : (moreL k).contains d = false) : kindL (c :: t ++ [d]) = 0 := by
  show kindL (c :: (t ++ [d])) = 0
  rw [kindL_cons, h, if_neg]
  rintro ⟨-, -, h2⟩
  rw [List.all_append, Bool.and_eq_true] at h2
  have := List.all_eq_true.1 h2.2 d (by simp)
  rw [hd] at this
  cases this
theorem kindL_bad {c : UInt8} (h : cls c = 0 ∨ cls c = 7) : kindL [c] = 0 := by
  rw [kindL_cons, if_neg]
  rintro ⟨h1, h2, -⟩
  omega
end Go.Proofs.YtomkjmhebnecbaaGreatDoor

import Derived.Test.YtomkjmhebnecbaaGreatDoorMap
/-
  A text's pieces between blanks; numbers in a row, a vector's elements, axes, and whole arrays, as a reader finds them, plainly: what is read has the very text, and each array's text is read. (Imports nothing of the program.)
-/
namespace Go.Proofs.YtomkjmhebnecbaaGreatDoor
set_option linter.unusedVariables false
set_option linter.unusedSimpArgs false

/-- A text's pieces between blanks. -/
inductive Cu : List UInt8 → List (List UInt8) → Prop
  | last {a : List UInt8} : (∀ c ∈ a, c ≠ 32) → Cu a [a]
  | more {a r : List UInt8} {ws : List (List UInt8)} : (∀ c ∈ a, c ≠ 32) → Cu r ws → Cu (a ++ 32 :: r) (a :: ws)
theorem cut_blank : ∀ s : List UInt8, (∀ c ∈ s, c ≠ 32) ∨ ∃ a r, s = a ++ 32 :: r ∧ ∀ c ∈ a, c ≠ 32
  | [] => .inl fun c h => by cases h
  | x :: s => by
    by_cases hx : x = 32
    · exact .inr ⟨[], s, by rw [hx]; rfl, fun c h => by cases h⟩
    · rcases cut_blank s with h | ⟨a, r, e, h⟩
      · exact .inl fun c hc => by
          rcases List.mem_cons.1 hc with rfl | hc
          · exact hx
          · exact h c hc
      · exact .inr ⟨x :: a, r, by rw [e]; rfl, fun c hc => by
          rcases List.mem_cons.1 hc with rfl | hc
          · exact hx
          · exact h c hc⟩
theorem cu_ex : ∀ (n : Nat) (s : List UInt8), s.length ≤ n → ∃ ws, Cu s ws
  | n, s, hn => by
    rcases cut_blank s with h | ⟨a, r, e, h⟩
    · exact ⟨_, .last h⟩
    · match n, hn with
      | 0, hn => rw [e] at hn; simp at hn
      | n + 1, hn =>
        obtain ⟨ws, hw⟩ := cu_ex n r (by rw [e] at hn; simp at hn; omega)
        rw [e]
        exact ⟨_, .more h hw⟩
theorem Cu.any (s : List UInt8) : ∃ ws, Cu s ws := cu_ex s.length s (Nat.le_refl _)
theorem Cu.ne {s : List UInt8} {ws : List (List UInt8)} (h : Cu s ws) : ws ≠ [] := by cases h <;> simp
theorem Cu.join {s : List UInt8} {ws : List (List UInt8)} (h : Cu s ws) : joinT ws = s := by
  induction h with
  | last _ => rfl
  | more _ h ih => rw [joinT_cons _ h.ne, ih]
theorem Cu.free {s : List UInt8} {ws : List (List UInt8)} (h : Cu s ws) : ∀ w ∈ ws, ∀ c ∈ w, c ≠ 32 := by
  induction h with
  | last h => intro w hw; rw [List.mem_singleton.1 hw]; exact h
  | more h _ ih =>
    intro w hw
    rcases List.mem_cons.1 hw with rfl | hw
    · exact h
    · exact ih w hw
theorem Cu.len {s : List UInt8} {ws : List (List UInt8)} (h : Cu s ws) : ws.length ≤ s.length + 1 ∧ ∀ w ∈ ws, w.length ≤ s.length := by
  induction h with
  | last h => exact ⟨by simp, fun w hw => by rw [List.mem_singleton.1 hw]; exact Nat.le_refl _⟩
  | more h _ ih =>
    refine ⟨by simp; omega, fun w hw => ?_⟩
    rcases List.mem_cons.1 hw with rfl | hw
    · simp
    · have := ih.2 w hw; simp; omega
theorem first_blank {a b : List UInt8} (ha : ∀ c ∈ a, c ≠ 32) (hb : ∀ c ∈ b, c ≠ 32) {r t : List UInt8} (e : a ++ 32 :: r = b ++ 32 :: t) : a = b ∧ r = t := by
  induction a generalizing b with
  | nil =>
    cases b with
    | nil => injection e with _ e; exact ⟨rfl, e⟩
    | cons x b => injection e with e _; exact absurd e.symm (hb x (by simp))
  | cons x a ih =>
    cases b with
    | nil => injection e with e _; exact absurd e (ha x (by simp))
    | cons y b =>
      injection e with e1 e2
      obtain ⟨h1, h2⟩ := ih (fun c h => ha c (by simp [h])) (fun c h => hb c (by simp [h])) e2
      exact ⟨by rw [e1, h1], h2⟩
theorem Cu.det {s : List UInt8} {ws vs : List (List UInt8)} (h : Cu s ws) (g : Cu s vs) : ws = vs := by
  induction h generalizing vs with
  | @last a ha =>
    cases g with
    | last _ => rfl
    | @more b r vs hb g => exact absurd rfl (ha 32 (by simp))
  | @more a r ws ha h ih =>
    revert g
    generalize he : a ++ 32 :: r = s
    intro g
    cases g with
    | last hs => exact absurd rfl (hs 32 (by rw [← he]; simp))
    | more hb g =>
      obtain ⟨rfl, rfl⟩ := first_blank ha hb he
      rw [ih g]
theorem cu_join : ∀ {ws : List (List UInt8)}, ws ≠ [] → (∀ w ∈ ws, ∀ c ∈ w, c ≠ 32) → Cu (joinT ws) ws
  | [], h, _ => absurd rfl h
  | [w], _, h => .last (h w (by simp))
  | w :: v :: r, _, h => .more (h w (by simp)) (cu_join (by simp) fun x hx => h x (by simp [hx]))
/-- A part's number, told again, is the part. -/
theorem num_lit {w : List UInt8} (h : numB w = true) : mayL (numT w) = true ∧ litT (numT w) = w := by
  have e : numT w = swapN w := if_pos h
  unfold numB at h
  rw [Bool.and_eq_true, Bool.not_eq_true'] at h
  obtain ⟨h1, h2⟩ := h
  rw [e]
  refine ⟨h2, ?_⟩
  rw [show litT (swapN w) = swapL (swapN w) from if_pos h2]
  cases w with
  | nil => exact absurd h2 (by decide)
  | cons c r =>
    have hc : c ≠ 45 := fun hc => by rw [hc] at h1; exact absurd h1 (by simp)
    by_cases h9 : c = 95
    · rw [h9]; rfl
    · rw [show swapN (c :: r) = c :: r from if_neg h9, show swapL (c :: r) = c :: r from if_neg hc]
/-- A row of numbers that a text is. -/
def RowIs (s : List UInt8) (es : List (List UInt8)) : Prop := es ≠ [] ∧ (∀ e ∈ es, mayL e = true) ∧ s = rowT litT es
theorem RowIs.cu {s : List UInt8} {es : List (List UInt8)} (h : RowIs s es) : Cu s (es.map litT) ∧ (∀ w ∈ es.map litT, numB w = true) ∧ (es.map litT).map numT = es := by
  obtain ⟨h1, h2, rfl⟩ := h
  refine ⟨cu_join (by simpa using h1) fun w hw c hc => ?_, fun w hw => ?_, ?_⟩
  · obtain ⟨e, he, rfl⟩ := List.mem_map.1 hw
    exact ((lit_word (h2 e he)).1.2 c hc).1
  · obtain ⟨e, he, rfl⟩ := List.mem_map.1 hw
    exact (lit_word (h2 e he)).2.1
  · rw [List.map_map]
    conv => rhs; rw [← List.map_id es]
    exact List.map_congr_left fun e he => (lit_word (h2 e he)).2.2
theorem Cu.row {s : List UInt8} {ws : List (List UInt8)} (h : Cu s ws) (hn : ∀ w ∈ ws, numB w = true) : RowIs s (ws.map numT) := by
  refine ⟨by simpa using h.ne, fun e he => ?_, ?_⟩
  · obtain ⟨w, hw, rfl⟩ := List.mem_map.1 he
    exact (num_lit (hn w hw)).1
  · unfold rowT
    have hm : ws.map (litT ∘ numT) = ws := by
      conv => rhs; rw [← List.map_id ws]
      exact List.map_congr_left fun w hw => (num_lit (hn w hw)).2
    rw [List.map_map, hm, h.join]
theorem RowIs.det {s : List UInt8} {es fs : List (List UInt8)} (h : RowIs s es) (g : RowIs s fs) : es = fs := by
  rw [← h.cu.2.2, ← g.cu.2.2, h.cu.1.det g.cu.1]
/-- What numbers tells: the row, or that there is none of so many. -/
def NbS (s : List UInt8) (m : Nat) (es : List (List UInt8)) (b : Bool) : Prop := (b = true ∧ RowIs s es ∧ es.length ≤ m) ∨ (b = false ∧ es = [] ∧ ∀ fs, RowIs s fs → ¬ fs.length ≤ m)
theorem nb_yes {s : List UInt8} {ws : List (List UInt8)} {m : Nat} (h : Cu s ws) (hn : ∀ w ∈ ws, numB w = true) (hm : ws.length ≤ m) : NbS s m (ws.map numT) true := .inl ⟨rfl, h.row hn, by simpa using hm⟩
theorem nb_no {s : List UInt8} {ws : List (List UInt8)} {m : Nat} (h : Cu s ws) (hn : (∃ w ∈ ws, numB w = false) ∨ m < ws.length) : NbS s m [] false := .inr ⟨rfl, rfl, fun fs hf hm => by
  obtain rfl := h.det hf.cu.1
  rcases hn with ⟨w, hw, h1⟩ | h1
  · rw [hf.cu.2.1 w hw] at h1; cases h1
  · rw [List.length_map] at h1; omega⟩
/-- A vector's elements that a text tells. -/
def VecIs (s : List UInt8) (es : List (List UInt8)) : Prop := (∀ e ∈ es, mayL e = true) ∧ s = vecT litT es
theorem vec_one {s : List UInt8} {e : List UInt8} : VecIs s [e] ↔ ∃ r, s = 44 :: r ∧ RowIs r [e] :=
  ⟨fun h => ⟨_, h.2, by simp, h.1, rfl⟩, fun ⟨r, e1, h⟩ => ⟨h.2.1, by rw [e1, h.2.2]; rfl⟩⟩
theorem row_head {s : List UInt8} {es : List (List UInt8)} (h : RowIs s es) : s.head? ≠ some 44 ∧ s ≠ [33, 48] := by
  have := h.2.2
  subst this
  have hf := row_free (lit := litT) (P := fun e => mayL e = true) (fun e he => (lit_word he).1) h.2.1
  refine ⟨fun g => (hf 44 (List.mem_of_mem_head? g)).2.2 rfl, fun g => (hf 33 (by rw [g]; simp)).2.1 rfl⟩
theorem vec_many {s : List UInt8} {es : List (List UInt8)} (h : 2 ≤ es.length) : VecIs s es ↔ RowIs s es := by
  match es, h with
  | e :: f :: r, _ => exact ⟨fun h => ⟨by simp, h.1, h.2⟩, fun h => ⟨h.2.1, h.2.2⟩⟩
theorem vec_det {s : List UInt8} {es fs : List (List UInt8)} (h : VecIs s es) (g : VecIs s fs) : es = fs := by
  have r1 := vec_read (lit := litT) (un := numT) (P := fun e => mayL e = true) (fun e he => (lit_word he).1) (fun e he => (lit_word he).2.2) h.1
  have r2 := vec_read (lit := litT) (un := numT) (P := fun e => mayL e = true) (fun e he => (lit_word he).1) (fun e he => (lit_word he).2.2) g.1
  rw [← h.2] at r1
  rw [← g.2] at r2
  rw [← r1, ← r2]
/-- What elements tells: the vector's, or that there are none of so many. -/
def ElS (s : List UInt8) (m : Nat) (es : List (List UInt8)) (b : Bool) : Prop := (b = true ∧ VecIs s es ∧ es.length ≤ m) ∨ (b = false ∧ ∀ fs, VecIs s fs → ¬ fs.length ≤ m)
theorem el_none (m : Nat) : ElS [33, 48] m [] true := .inl ⟨rfl, ⟨fun e h => (by cases h), rfl⟩, Nat.zero_le _⟩
theorem el_comma {r : List UInt8} {m : Nat} {es : List (List UInt8)} {b : Bool} (h : NbS r m es b) : ElS (44 :: r) m es (b && (true == ((es.length : Int) == 1))) := by
  have key : ∀ fs, VecIs (44 :: r) fs → ∃ e, fs = [e] ∧ RowIs r [e] := fun fs hf => by
    match fs, hf with
    | [], hf => exact absurd hf.2 (by simp [vecT])
    | [e], hf =>
      obtain ⟨t, e1, h1⟩ := vec_one.1 hf
      injection e1 with _ e1
      exact ⟨e, rfl, by rw [e1]; exact h1⟩
    | e :: f :: t, hf => exact absurd rfl (row_head ((vec_many (by simp)).1 hf)).1
  rcases h with ⟨rfl, h, hm⟩ | ⟨rfl, rfl, h⟩
  · by_cases h1 : es.length = 1
    · obtain ⟨e, rfl⟩ := List.length_eq_one_iff.1 h1
      exact .inl ⟨rfl, vec_one.2 ⟨r, rfl, h⟩, hm⟩
    · have e1 : ((es.length : Int) == 1) = false := beq_eq_false_iff_ne.2 (by omega)
      rw [e1]
      exact .inr ⟨rfl, fun fs hf hm => by
        obtain ⟨e, rfl, hr⟩ := key fs hf
        rw [h.det hr] at h1
        exact h1 rfl⟩
  · exact .inr ⟨rfl, fun fs hf hm => by
      obtain ⟨e, rfl, hr⟩ := key fs hf
      exact h _ hr hm⟩
theorem el_row {s : List UInt8} {m : Nat} {es : List (List UInt8)} {b : Bool} (h0 : s ≠ [33, 48]) (h4 : s.head? ≠ some 44) (h : NbS s m es b) : ElS s m es (b && (false == ((es.length : Int) == 1))) := by
  have key : ∀ fs, VecIs s fs → 2 ≤ fs.length ∧ RowIs s fs := fun fs hf => by
    match fs, hf with
    | [], hf => exact absurd hf.2 h0
    | [e], hf =>
      obtain ⟨t, e1, h1⟩ := vec_one.1 hf
      rw [e1] at h4
      exact absurd rfl h4
    | e :: f :: t, hf => exact ⟨by simp, (vec_many (by simp)).1 hf⟩
  rcases h with ⟨rfl, h, hm⟩ | ⟨rfl, rfl, h⟩
  · by_cases h1 : es.length = 1
    · have e1 : ((es.length : Int) == 1) = true := by rw [h1]; rfl
      rw [e1]
      exact .inr ⟨rfl, fun fs hf hm => by
        obtain ⟨h2, hr⟩ := key fs hf
        rw [h.det hr] at h1
        omega⟩
    · have e1 : ((es.length : Int) == 1) = false := beq_eq_false_iff_ne.2 (by omega)
      rw [e1]
      have : es.length ≠ 0 := fun g => h.1 (List.length_eq_zero_iff.1 g)
      exact .inl ⟨rfl, (vec_many (by omega)).2 h, hm⟩
  · exact .inr ⟨rfl, fun fs hf hm => h _ (key fs hf).2 hm⟩
section
variable {fo : Int → List UInt8} {P : Int → Prop}
/-- Axes that a text tells; P: what an axis may be; fo: its figures. -/
def AxIs (fo : Int → List UInt8) (P : Int → Prop) (s : List UInt8) (xs : List Int) : Prop := 2 ≤ xs.length ∧ xs.length ≤ 3 ∧ (∀ x ∈ xs, P x) ∧ s = rowT litT (xs.map fo)
/-- What axes tells. -/
def AxS (fo : Int → List UInt8) (P : Int → Prop) (s : List UInt8) (xs : List Int) (b : Bool) : Prop := (b = true ∧ AxIs fo P s xs) ∨ (b = false ∧ ∀ ys, ¬ AxIs fo P s ys)
theorem ax_row (hP : ∀ x, P x → mayL (fo x) = true) {s : List UInt8} {xs : List Int} (h : AxIs fo P s xs) : RowIs s (xs.map fo) :=
  ⟨fun e => by have := List.map_eq_nil_iff.1 e; rw [this] at h; exact absurd h.1 (by simp), fun e he => by
    obtain ⟨x, hx, rfl⟩ := List.mem_map.1 he
    exact hP x (h.2.2.1 x hx), h.2.2.2⟩
theorem ax_no1 (hP : ∀ x, P x → mayL (fo x) = true) {s : List UInt8} {es : List (List UInt8)} (h : NbS s 3 es false) : AxS fo P s [] false := .inr ⟨rfl, fun ys hy => by
  rcases h with ⟨h, _⟩ | ⟨_, _, h⟩
  · cases h
  · exact h _ (ax_row hP hy) (by rw [List.length_map]; exact hy.2.1)⟩
theorem ax_no2 (hP : ∀ x, P x → mayL (fo x) = true) {s : List UInt8} {es : List (List UInt8)} (h : NbS s 3 es true) (h2 : es.length < 2) : AxS fo P s [] false := .inr ⟨rfl, fun ys hy => by
  rcases h with ⟨_, h, _⟩ | ⟨h, _⟩
  · rw [h.det (ax_row hP hy), List.length_map] at h2
    have := hy.1
    omega
  · cases h⟩
theorem ax_no3 (hP : ∀ x, P x → mayL (fo x) = true) {s : List UInt8} {es : List (List UInt8)} (h : NbS s 3 es true) {e : List UInt8} (he : e ∈ es) (hx : ∀ x, P x → fo x ≠ e) (xs : List Int) : AxS fo P s xs false := .inr ⟨rfl, fun ys hy => by
  rcases h with ⟨_, h, _⟩ | ⟨h, _⟩
  · rw [h.det (ax_row hP hy)] at he
    obtain ⟨x, hm, rfl⟩ := List.mem_map.1 he
    exact hx x (hy.2.2.1 x hm) rfl
  · cases h⟩
theorem ax_yes {s : List UInt8} {es : List (List UInt8)} (h : NbS s 3 es true) (h2 : 2 ≤ es.length) {xs : List Int} (hx : xs.map fo = es) (hp : ∀ x ∈ xs, P x) : AxS fo P s xs true := .inl ⟨rfl, by
  have hl : xs.length = es.length := by rw [← hx, List.length_map]
  rcases h with ⟨_, h, hm⟩ | ⟨h, _⟩
  · exact ⟨by omega, by omega, hp, by rw [h.2.2, hx]⟩
  · cases h⟩
/-- An array that may be: what a text must tell, to be read: M: elements at most; Q: what else the axes and the elements must be. -/
structure Tl (fo : Int → List UInt8) (P : Int → Prop) (M : Nat) (s : List UInt8) (l : List Int) (es : List (List UInt8)) : Prop where
  el : ∀ e ∈ es, mayL e = true
  few : es.length ≤ M
  rank : l.length ≤ 3
  h0 : l = [] → es.length = 1
  h1 : ∀ x, l = [x] → x = ((es.length : Nat) : Int)
  h2 : ∀ x ∈ l, P x
  tx : s = arrT litT fo l es
/-- What read tells, ahead of asking whether the array may be. -/
def RdS (fo : Int → List UInt8) (P : Int → Prop) (M : Nat) (s : List UInt8) (l : List Int) (es : List (List UInt8)) (b : Bool) : Prop :=
  (b = true ∧ l.length ≤ 3 ∧ es.length ≤ M ∧ s = arrT litT fo l es ∧ ∀ k fs, Tl fo P M s k fs → k = l ∧ fs = es) ∨ (b = false ∧ ∀ k fs, ¬ Tl fo P M s k fs)
theorem all_free {s : List UInt8} (h : ∀ c ∈ s, c ≠ 35) {a r : List UInt8} : s ≠ a ++ 35 :: r := fun e => h 35 (by rw [e]; simp) rfl
theorem first_sign {a b : List UInt8} (ha : ∀ c ∈ a, c ≠ 35) (hb : ∀ c ∈ b, c ≠ 35) {r t : List UInt8} (e : a ++ 35 :: r = b ++ 35 :: t) : a = b ∧ r = t := by
  obtain ⟨h1, h2⟩ := take_free (r := r) ha
  obtain ⟨g1, g2⟩ := take_free (r := t) hb
  rw [e] at h1 h2
  rw [h2] at g2
  injection g2 with _ g2
  exact ⟨h1.symm.trans g1, g2⟩
theorem row_sign {s : List UInt8} {es : List (List UInt8)} (h : RowIs s es) : ∀ c ∈ s, c ≠ 35 := by
  have := h.2.2
  subst this
  exact fun c hc => (row_free (lit := litT) (P := fun e => mayL e = true) (fun e he => (lit_word he).1) h.2.1 c hc).1
theorem vec_sign {s : List UInt8} {es : List (List UInt8)} (h : VecIs s es) : ∀ c ∈ s, c ≠ 35 := by
  have := h.2
  subst this
  exact vec_free (lit := litT) (P := fun e => mayL e = true) (fun e he => (lit_word he).1) h.1
/-- The three forms of a text that is told. -/
theorem Tl.form {M : Nat} {s : List UInt8} {l : List Int} {es : List (List UInt8)} (hP : ∀ x, P x → mayL (fo x) = true) (h : Tl fo P M s l es) :
    (l = [] ∧ ∃ e, es = [e] ∧ RowIs s [e]) ∨ (∃ x, l = [x] ∧ VecIs s es) ∨ (∃ a b, AxIs fo P a l ∧ VecIs b es ∧ s = a ++ 35 :: b) := by
  have ht := h.tx
  match l, h with
  | [], h =>
    obtain ⟨e, rfl⟩ := List.length_eq_one_iff.1 (h.h0 rfl)
    exact .inl ⟨rfl, e, rfl, by simp, h.el, ht⟩
  | [x], h => exact .inr (.inl ⟨x, rfl, h.el, ht⟩)
  | x :: y :: r, h => exact .inr (.inr ⟨_, _, ⟨by simp, h.rank, h.h2, rfl⟩, ⟨h.el, rfl⟩, ht⟩)
theorem row_num {s e : List UInt8} (h : RowIs s [e]) : numB s = true ∧ numT s = e := by
  have := h.2.2
  subst this
  have := lit_word (h.2.1 e (by simp))
  exact ⟨this.2.1, this.2.2⟩
theorem num_row {s : List UInt8} (h : numB s = true) : RowIs s [numT s] := ⟨by simp, fun e he => by rw [List.mem_singleton.1 he]; exact (num_lit h).1, (num_lit h).2.symm⟩
theorem num_sign {s : List UInt8} (h : numB s = true) : ∀ c ∈ s, c ≠ 35 := row_sign (num_row h)
theorem rd_scalar {M : Nat} (hM : 1 ≤ M) (hP : ∀ x, P x → mayL (fo x) = true) {s : List UInt8} (h : numB s = true) : RdS fo P M s [] [numT s] true := .inl ⟨rfl, by simp, hM, (num_row h).2.2, fun k fs ht => by
  have hr := num_row h
  rcases ht.form hP with ⟨rfl, e, rfl, hs⟩ | ⟨x, rfl, hv⟩ | ⟨a, c, _, _, e⟩
  · rw [hs.det hr]; exact ⟨rfl, rfl⟩
  · match fs, hv with
    | [], hv => exact absurd hv.2 (row_head hr).2
    | [e], hv =>
      obtain ⟨t, e1, _⟩ := vec_one.1 hv
      exact absurd (by rw [e1]; rfl) (row_head hr).1
    | e :: f :: t, hv =>
      have := ((vec_many (by simp)).1 hv).det hr
      simp at this
  · exact absurd e (all_free (num_sign h))⟩
theorem rd_vec {M : Nat} {s : List UInt8} {es : List (List UInt8)} {b : Bool} (hP : ∀ x, P x → mayL (fo x) = true) (hn : numB s = false) (hs : ∀ c ∈ s, c ≠ 35) (h : ElS s M es b) : RdS fo P M s [((es.length : Nat) : Int)] es b := by
  rcases h with ⟨rfl, h, hm⟩ | ⟨rfl, h⟩
  · refine .inl ⟨rfl, by simp, hm, h.2, fun k fs ht => ?_⟩
    rcases ht.form hP with ⟨_, e, _, hr⟩ | ⟨x, rfl, hv⟩ | ⟨a, c, _, _, e⟩
    · rw [(row_num hr).1] at hn; cases hn
    · obtain rfl := vec_det hv h
      rw [ht.h1 x rfl]
      exact ⟨rfl, rfl⟩
    · exact absurd e (all_free hs)
  · refine .inr ⟨rfl, fun k fs ht => ?_⟩
    rcases ht.form hP with ⟨_, e, _, hr⟩ | ⟨x, _, hv⟩ | ⟨a, c, _, _, e⟩
    · rw [(row_num hr).1] at hn; cases hn
    · exact h fs hv ht.few
    · exact all_free hs e
theorem map_inj {l k : List Int} (hJ : ∀ x y, P x → P y → fo x = fo y → x = y) (hl : ∀ x ∈ l, P x) (hk : ∀ x ∈ k, P x) (h : l.map fo = k.map fo) : l = k := by
  induction l generalizing k with
  | nil => exact (List.map_eq_nil_iff.1 h.symm).symm
  | cons x l ih =>
    cases k with
    | nil => cases h
    | cons y k =>
      injection h with h1 h2
      rw [hJ x y (hl x (by simp)) (hk y (by simp)) h1, ih (fun z hz => hl z (by simp [hz])) (fun z hz => hk z (by simp [hz])) h2]
theorem rd_arr {M : Nat} {a r : List UInt8} {xs : List Int} {es : List (List UInt8)} {b c : Bool} (hP : ∀ x, P x → mayL (fo x) = true) (hJ : ∀ x y, P x → P y → fo x = fo y → x = y) (hn : numB (a ++ 35 :: r) = false) (hs : ∀ c ∈ a, c ≠ 35) (hx : AxS fo P a xs b) (h : ElS r M es c) : RdS fo P M (a ++ 35 :: r) xs es (b && c) := by
  have key : ∀ k fs, Tl fo P M (a ++ 35 :: r) k fs → AxIs fo P a k ∧ VecIs r fs := fun k fs ht => by
    rcases ht.form hP with ⟨_, e, _, hr⟩ | ⟨x, _, hv⟩ | ⟨a2, c2, h1, h2, e⟩
    · rw [(row_num hr).1] at hn; cases hn
    · exact absurd rfl (all_free (vec_sign hv) (a := a) (r := r))
    · obtain ⟨rfl, rfl⟩ := first_sign hs (row_sign (ax_row hP h1)) e
      exact ⟨h1, h2⟩
  rcases hx with ⟨rfl, hx⟩ | ⟨rfl, hx⟩
  · rcases h with ⟨rfl, h, hm⟩ | ⟨rfl, h⟩
    · obtain ⟨x1, x2, x3, x4⟩ := hx
      refine .inl ⟨rfl, x2, hm, ?_, fun k fs ht => ?_⟩
      · match xs, x1 with
        | x :: y :: t, _ => rw [x4, h.2]; rfl
      · obtain ⟨k1, k2⟩ := key k fs ht
        refine ⟨map_inj hJ k1.2.2.1 x3 ?_, vec_det k2 h⟩
        exact (ax_row hP k1).det (ax_row hP ⟨x1, x2, x3, x4⟩)
    · exact .inr ⟨rfl, fun k fs ht => h fs (key k fs ht).2 ht.few⟩
  · exact .inr ⟨rfl, fun k fs ht => hx k (key k fs ht).1⟩
end
end Go.Proofs.YtomkjmhebnecbaaGreatDoor

import Derived.Test.YtomkjmhebnecbaaGreatDoorMam
/-
  Arrays' texts, plainly: what is told, what might be read, and that what is told is read. (Imports nothing of the program.)
-/
namespace Go.Proofs.YtomkjmhebnecbaaGreatDoor
set_option linter.unusedVariables false
set_option linter.unusedSimpArgs false

/-- A word: it has a byte, and none that parts words. -/
def Wd (w : List UInt8) : Prop := w ≠ [] ∧ ∀ c ∈ w, c ≠ 32 ∧ c ≠ 44 ∧ c ≠ 35 ∧ c ≠ 33
/-- The words of a text, one begun already. -/
def spW : List UInt8 → List UInt8 → List (List UInt8)
  | w, [] => if w = [] then [] else [w]
  | w, c :: r => if c = 32 ∨ c = 44 then (if w = [] then spW [] r else w :: spW [] r) else spW (w ++ [c]) r
theorem spW_word {w : List UInt8} (h : ∀ c ∈ w, c ≠ 32 ∧ c ≠ 44) : ∀ (a r : List UInt8), spW a (w ++ r) = spW (a ++ w) r := by
  induction w with
  | nil => intro a r; rw [List.append_nil]; rfl
  | cons c w ih =>
    intro a r
    have hc := h c (by simp)
    show spW a (c :: (w ++ r)) = _
    rw [show spW a (c :: (w ++ r)) = spW (a ++ [c]) (w ++ r) from if_neg (by rintro (e | e); exact hc.1 e; exact hc.2 e), ih fun x hx => h x (by simp [hx])]
    rw [List.append_assoc]; rfl
theorem spW_blank {w : List UInt8} (h : w ≠ []) (r : List UInt8) : spW w (32 :: r) = w :: spW [] r := by
  show (if (32 : UInt8) = 32 ∨ (32 : UInt8) = 44 then (if w = [] then spW [] r else w :: spW [] r) else _) = _
  rw [if_pos (.inl rfl), if_neg h]
theorem spW_comma (r : List UInt8) : spW [] (44 :: r) = spW [] r := by
  show (if (44 : UInt8) = 32 ∨ (44 : UInt8) = 44 then (if ([] : List UInt8) = [] then spW [] r else [] :: spW [] r) else _) = _
  rw [if_pos (.inr rfl), if_pos rfl]
theorem Wd.parts {w : List UInt8} (h : Wd w) : ∀ c ∈ w, c ≠ 32 ∧ c ≠ 44 := fun c hc => ⟨(h.2 c hc).1, (h.2 c hc).2.1⟩
theorem spW_join : ∀ {ws : List (List UInt8)}, (∀ w ∈ ws, Wd w) → spW [] (joinT ws) = ws
  | [], _ => rfl
  | [w], h => by
    have hw := h w (by simp)
    have g := spW_word hw.parts [] []
    rw [List.append_nil, List.nil_append] at g
    show spW [] w = _
    rw [g]
    exact if_neg hw.1
  | w :: v :: r, h => by
    have hw := h w (by simp)
    show spW [] (w ++ 32 :: joinT (v :: r)) = _
    rw [spW_word hw.parts, List.nil_append, spW_blank hw.1, spW_join fun x hx => h x (by simp [hx])]
/-- Bytes of words and of blanks alone. -/
theorem join_free {ws : List (List UInt8)} (h : ∀ w ∈ ws, Wd w) : ∀ c ∈ joinT ws, c ≠ 35 ∧ c ≠ 33 ∧ c ≠ 44 := by
  induction ws with
  | nil => intro c hc; cases hc
  | cons w r ih =>
    have hw := h w (by simp)
    cases r with
    | nil => exact fun c hc => ⟨(hw.2 c hc).2.2.1, (hw.2 c hc).2.2.2, (hw.2 c hc).2.1⟩
    | cons v r =>
      intro c hc
      rcases List.mem_append.1 (show c ∈ w ++ 32 :: joinT (v :: r) from hc) with hc | hc
      · exact ⟨(hw.2 c hc).2.2.1, (hw.2 c hc).2.2.2, (hw.2 c hc).2.1⟩
      · rcases List.mem_cons.1 hc with rfl | hc
        · decide
        · exact ih (fun x hx => h x (by simp [hx])) c hc
section
variable (lit : List UInt8 → List UInt8) (fo : Int → List UInt8)
/-- Numbers in a row. -/
def rowT (es : List (List UInt8)) : List UInt8 := joinT (es.map lit)
/-- A vector's text. -/
def vecT (es : List (List UInt8)) : List UInt8 :=
  match es with
  | [] => [33, 48]
  | [e] => 44 :: rowT lit [e]
  | e :: f :: r => rowT lit (e :: f :: r)
/-- An array's text. -/
def arrT (l : List Int) (es : List (List UInt8)) : List UInt8 :=
  match l with
  | [] => rowT lit es
  | [_] => vecT lit es
  | a :: b :: r => rowT lit ((a :: b :: r).map fo) ++ 35 :: vecT lit es
end
section
variable (un : List UInt8 → List UInt8) (fi : List UInt8 → Int)
/-- The array that a text might tell. -/
def gsT (s : List UInt8) : List Int × List (List UInt8) :=
  if s = [33, 48] then ([0], [])
  else if s.all (· != 35) then
    if ((spW [] s).map un).length = 1 ∧ s.head? ≠ some 44 then ([], (spW [] s).map un) else ([((((spW [] s).map un).length : Nat) : Int)], (spW [] s).map un)
  else ((spW [] (s.takeWhile (· != 35))).map fun w => fi (un w), if (s.dropWhile (· != 35)).tail = [33, 48] then [] else (spW [] (s.dropWhile (· != 35)).tail).map un)
end
section
variable {lit un : List UInt8 → List UInt8} {fo : Int → List UInt8} {fi : List UInt8 → Int} {P : List UInt8 → Prop}
variable (hw : ∀ e, P e → Wd (lit e)) (hu : ∀ e, P e → un (lit e) = e)
include hw in
theorem row_words {es : List (List UInt8)} (h : ∀ e ∈ es, P e) : ∀ w ∈ es.map lit, Wd w := fun w hm => by
  obtain ⟨e, he, rfl⟩ := List.mem_map.1 hm
  exact hw e (h e he)
include hw hu in
theorem row_read {es : List (List UInt8)} (h : ∀ e ∈ es, P e) : (spW [] (rowT lit es)).map un = es := by
  unfold rowT
  rw [spW_join (row_words hw h), List.map_map]
  conv => rhs; rw [← List.map_id es]
  exact List.map_congr_left fun e he => hu e (h e he)
include hw in
theorem row_free {es : List (List UInt8)} (h : ∀ e ∈ es, P e) : ∀ c ∈ rowT lit es, c ≠ 35 ∧ c ≠ 33 ∧ c ≠ 44 := join_free (row_words hw h)
include hw in
theorem row_ne {es : List (List UInt8)} (h : ∀ e ∈ es, P e) : rowT lit es ≠ [33, 48] := fun e => by
  exact (row_free hw h 33 (by rw [e]; simp)).2.1 rfl
include hw hu in
theorem vec_read {es : List (List UInt8)} (h : ∀ e ∈ es, P e) : (if vecT lit es = [33, 48] then [] else (spW [] (vecT lit es)).map un) = es := by
  match es with
  | [] => rfl
  | [e] =>
    show (if 44 :: rowT lit [e] = [33, 48] then [] else (spW [] (44 :: rowT lit [e])).map un) = _
    rw [if_neg (by simp), spW_comma]
    exact row_read hw hu h
  | e :: f :: r =>
    show (if rowT lit (e :: f :: r) = [33, 48] then [] else (spW [] (rowT lit (e :: f :: r))).map un) = _
    rw [if_neg (row_ne hw h)]
    exact row_read hw hu h
include hw in
theorem vec_free {es : List (List UInt8)} (h : ∀ e ∈ es, P e) : ∀ c ∈ vecT lit es, c ≠ 35 := by
  match es with
  | [] => intro c hc; rcases (show c = 33 ∨ c = 48 by simpa using (show c ∈ ([33, 48] : List UInt8) from hc)) with rfl | rfl <;> decide
  | [e] =>
    intro c hc
    rcases List.mem_cons.1 (show c ∈ 44 :: rowT lit [e] from hc) with rfl | hc
    · decide
    · exact (row_free hw h c hc).1
  | e :: f :: r => exact fun c hc => (row_free hw h c hc).1
theorem free_all {s : List UInt8} (h : ∀ c ∈ s, c ≠ 35) : s.all (· != 35) = true := List.all_eq_true.2 fun c hc => by simpa using h c hc
theorem take_free {s r : List UInt8} (h : ∀ c ∈ s, c ≠ 35) : (s ++ 35 :: r).takeWhile (· != 35) = s ∧ (s ++ 35 :: r).dropWhile (· != 35) = 35 :: r := by
  induction s with
  | nil => exact ⟨rfl, rfl⟩
  | cons c s ih =>
    obtain ⟨h1, h2⟩ := ih fun x hx => h x (by simp [hx])
    have hc : (c != 35) = true := by simpa using h c (by simp)
    constructor
    · rw [List.cons_append, List.takeWhile_cons, if_pos hc, h1]
    · rw [List.cons_append, List.dropWhile_cons, if_pos hc, h2]
include hw hu in
/-- What is told of an array is read as that array. -/
theorem gs_arr {l : List Int} {es : List (List UInt8)} (h : ∀ e ∈ es, P e) (h0 : l = [] → es.length = 1) (h1 : ∀ x, l = [x] → x = ((es.length : Nat) : Int)) (h2 : ∀ x ∈ l, 2 ≤ l.length → P (fo x) ∧ fi (fo x) = x) : gsT un fi (arrT lit fo l es) = (l, es) := by
  match l with
  | [] =>
    obtain ⟨e, rfl⟩ : ∃ e, es = [e] := by
      match es, h0 rfl with
      | [e], _ => exact ⟨e, rfl⟩
    show gsT un fi (rowT lit [e]) = _
    unfold gsT
    rw [if_neg (row_ne hw h), if_pos (free_all fun c hc => (row_free hw h c hc).1), row_read hw hu h, if_pos ⟨rfl, fun g => by
      have : (44 : UInt8) ∈ rowT lit [e] := List.mem_of_mem_head? g
      exact (row_free hw h 44 this).2.2 rfl⟩]
  | [x] =>
    obtain rfl := h1 x rfl
    show gsT un fi (vecT lit es) = _
    unfold gsT
    match es with
    | [] => rfl
    | [e] =>
      show (if 44 :: rowT lit [e] = [33, 48] then _ else _) = _
      rw [if_neg (by simp), if_pos (free_all (vec_free hw h)), show spW [] (vecT lit [e]) = spW [] (rowT lit [e]) from spW_comma _, row_read hw hu h, if_neg (fun g => g.2 rfl)]
    | e :: f :: r =>
      show (if rowT lit (e :: f :: r) = [33, 48] then _ else _) = _
      rw [if_neg (row_ne hw h), if_pos (free_all (vec_free hw h)), show spW [] (vecT lit (e :: f :: r)) = spW [] (rowT lit (e :: f :: r)) from rfl, row_read hw hu h, if_neg (fun g => by have := g.1; simp at this)]
  | a :: b :: r =>
    have hP : ∀ e ∈ (a :: b :: r).map fo, P e := fun e he => by
      obtain ⟨x, hx, rfl⟩ := List.mem_map.1 he
      exact (h2 x hx (by simp)).1
    have hfr : ∀ c ∈ rowT lit ((a :: b :: r).map fo), c ≠ 35 := fun c hc => (row_free hw hP c hc).1
    obtain ⟨t1, t2⟩ := take_free (r := vecT lit es) hfr
    show gsT un fi (rowT lit ((a :: b :: r).map fo) ++ 35 :: vecT lit es) = _
    unfold gsT
    rw [if_neg (fun g => by
      have : (35 : UInt8) ∈ ([33, 48] : List UInt8) := by rw [← g]; simp
      exact absurd this (by decide)), if_neg (fun g => by
      have := List.all_eq_true.1 g 35 (by simp)
      exact absurd this (by decide)), t1, t2]
    show ((spW [] (rowT lit ((a :: b :: r).map fo))).map (fun w => fi (un w)), if vecT lit es = [33, 48] then [] else (spW [] (vecT lit es)).map un) = _
    rw [vec_read hw hu h]
    congr 1
    rw [show (fun w => fi (un w)) = fi ∘ un from rfl, ← List.map_map, row_read hw hu hP, List.map_map]
    conv => rhs; rw [← List.map_id (a :: b :: r)]
    exact List.map_congr_left fun x hx => (h2 x hx (by simp)).2
end
end Go.Proofs.YtomkjmhebnecbaaGreatDoor

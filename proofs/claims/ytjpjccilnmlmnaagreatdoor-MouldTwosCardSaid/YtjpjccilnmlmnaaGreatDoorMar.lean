import Derived.Test.YtjpjccilnmlmnaaGreatDoorMaq
/-
  What mould's calls tell, in the document's words, of arrays (axes, and numbers) or of none; and what follows. Nothing of any program.
-/
namespace Go.Proofs.YtjpjccilnmlmnaaGreatDoor
set_option linter.unusedVariables false
set_option linter.unusedSimpArgs false

abbrev Ar := List Int × List Int

/-- Not too far from 0. -/
def nearM (x : Int) : Bool := decide (-1099511627776 ≤ x) && decide (x ≤ 1099511627776)
theorem nearM_yes {x : Int} : nearM x = true ↔ -1099511627776 ≤ x ∧ x ≤ 1099511627776 := by simp [nearM]
/-- The number that an array is, or the error. -/
def inM (v : Ar) : Int × Int := if v.1 ≠ [] ∨ v.2.length ≠ 1 then (0, 3) else if nearM (v.2.getD 0 0) then (v.2.getD 0 0, 0) else (0, 5)
/-- The numbers below n. -/
def upM (n : Nat) : List Int := (List.range n).map fun i : Nat => (i : Int)
def ioM : Option Ar → Option Ar × Int
  | none => (none, 1)
  | some v => if (inM v).2 ≠ 0 then (none, (inM v).2) else if (inM v).1 < 0 then (none, 5) else if 4096 < (inM v).1 then (none, 8) else (some ([(inM v).1], upM (inM v).1.toNat), 0)
/-- How many items there are. -/
def maM (l : List Int) : Int := if l.length = 0 then 1 else l.getD 0 0
def taM : Option Ar → Option Ar × Int
  | none => (none, 1)
  | some v => (some ([], [maM v.1]), 0)
def shM : Option Ar → Option Ar × Int
  | none => (none, 1)
  | some v => (some ([(v.1.length : Int)], v.1), 0)
def raM : Option Ar → Option Ar × Int
  | none => (none, 1)
  | some v => (some ([(v.2.length : Int)], v.2), 0)
def reM : Option Ar → Option Ar × Int
  | none => (none, 1)
  | some v => (some (v.1, rvM v.1 v.2), 0)
def fiM : Option Ar → Option Ar × Int
  | none => (none, 1)
  | some v => (some (v.1.reverse, flM v.1 v.2), 0)
/-- n elements of a list, from the first one again behind the last one. -/
def cyM (es : List Int) (n : Nat) : List Int := (List.range n).map fun i : Nat => es.getD (i % es.length) 0
def rsM : Option Ar → Option Ar → Option Ar × Int
  | some v, some w => if 1 < v.1.length then (none, 3) else if v.2.all nearM = false then (none, 5) else if szE v.2 ≠ 0 then (none, szE v.2) else if pr v.2 ≠ 0 ∧ w.2 = [] then (none, 5) else (some (v.2, cyM w.2 (pr v.2).toNat), 0)
  | _, _ => (none, 1)
/-- The items from a on to below b, with their axes. -/
def cuM (w : Ar) (a b : Nat) : Ar := (((b - a : Nat) : Int) :: w.1.tail, ctM w.1 w.2 a b)
def tkM : Option Ar → Option Ar → Option Ar × Int
  | some v, some w => if (inM v).2 ≠ 0 then (none, (inM v).2) else if w.1 = [] then (none, 3) else
    if w.1.getD 0 0 < (inM v).1 ∨ w.1.getD 0 0 < -(inM v).1 then (none, 6) else
    if (inM v).1 < 0 then (some (cuM w (nI w.1 - (-(inM v).1).toNat) (nI w.1)), 0) else (some (cuM w 0 (inM v).1.toNat), 0)
  | _, _ => (none, 1)
def drM : Option Ar → Option Ar → Option Ar × Int
  | some v, some w => if (inM v).2 ≠ 0 then (none, (inM v).2) else if w.1 = [] then (none, 3) else
    if (inM v).1 < 0 then (some (cuM w 0 (nI w.1 - (-(inM v).1).toNat)), 0) else (some (cuM w (min (inM v).1.toNat (nI w.1)) (nI w.1)), 0)
  | _, _ => (none, 1)
/-- One without an axis counts as a vector of one. -/
def vcM (v : Ar) : Ar := if v.1 = [] then ([1], v.2) else v
def jnM : Option Ar → Option Ar → Option Ar × Int
  | some v, some w => if (vcM v).1.length ≠ (vcM w).1.length then (none, 3) else if (vcM v).1.tail ≠ (vcM w).1.tail then (none, 4) else
    if szE (((vcM v).1.getD 0 0 + (vcM w).1.getD 0 0) :: (vcM v).1.tail) ≠ 0 then (none, szE (((vcM v).1.getD 0 0 + (vcM w).1.getD 0 0) :: (vcM v).1.tail)) else
    (some (((vcM v).1.getD 0 0 + (vcM w).1.getD 0 0) :: (vcM v).1.tail, v.2 ++ w.2), 0)
  | _, _ => (none, 1)
/-! What follows. -/
theorem inM_num {x : Int} (h : nearM x = true) : inM ([], [x]) = (x, 0) := by
  unfold inM
  rw [if_neg (by simp)]
  show (if nearM x = true then (x, 0) else (0, 5)) = _
  rw [if_pos h]
theorem nI_head {l : List Int} (hl : l ≠ []) (h : MayL l) : ((nI l : Nat) : Int) = l.getD 0 0 := by
  have h0 := h.nn 0 (by cases l with | nil => exact absurd rfl hl | cons x r => simp)
  unfold nI
  omega
theorem head_tail {l : List Int} (hl : l ≠ []) : l.getD 0 0 :: l.tail = l := by
  cases l with
  | nil => exact absurd rfl hl
  | cons x r => rfl
/-- What is taken from the front, and what is dropped there, joined, is all of it. -/
theorem cuM_join {w : Ar} (h : Fits w.1 w.2) (hl : w.1 ≠ []) {a : Nat} (ha : a ≤ nI w.1) : jnM (some (cuM w 0 a)) (some (cuM w a (nI w.1))) = (some w, 0) := by
  obtain ⟨l, es⟩ := w
  simp only at h hl ha
  have e1 : vcM (cuM (l, es) 0 a) = cuM (l, es) 0 a := by unfold vcM; rw [if_neg (by simp [cuM])]
  have e2 : vcM (cuM (l, es) a (nI l)) = cuM (l, es) a (nI l) := by unfold vcM; rw [if_neg (by simp [cuM])]
  have hj := ctM_join h hl ha
  have hn := nI_head hl h.1
  have hsum : (((a - 0 : Nat) : Int)) + ((nI l - a : Nat) : Int) = l.getD 0 0 := by omega
  have hax : ((((a - 0 : Nat) : Int)) + ((nI l - a : Nat) : Int)) :: l.tail = l := by rw [hsum]; exact head_tail hl
  have hsz : szE l = 0 := szE_may.2 h.1
  simp only [jnM]
  rw [e1, e2]
  show (if (cuM (l, es) 0 a).1.length ≠ (cuM (l, es) a (nI l)).1.length then _ else _) = _
  rw [if_neg (by simp [cuM])]
  rw [if_neg (by simp [cuM])]
  have e3 : ((cuM (l, es) 0 a).1.getD 0 0 + (cuM (l, es) a (nI l)).1.getD 0 0) :: (cuM (l, es) 0 a).1.tail = l := hax
  rw [e3, if_neg (by rw [hsz]; simp)]
  show (some (l, ctM l es 0 a ++ ctM l es a (nI l)), (0 : Int)) = _
  rw [hj]
theorem tk_dr {w : Ar} (h : Fits w.1 w.2) (hl : w.1 ≠ []) {n : Nat} (hn : n ≤ nI w.1) (hs : n ≤ 4096) :
    tkM (some ([], [(n : Int)])) (some w) = (some (cuM w 0 n), 0) ∧ drM (some ([], [(n : Int)])) (some w) = (some (cuM w n (nI w.1)), 0) := by
  have hi := inM_num (x := (n : Int)) (nearM_yes.2 ⟨by omega, by omega⟩)
  have hh := nI_head hl h.1
  refine ⟨?_, ?_⟩
  · simp only [tkM, hi]
    rw [if_neg (by simp), if_neg hl, if_neg (by omega), if_neg (by omega), Int.toNat_natCast]
  · simp only [drM, hi]
    rw [if_neg (by simp), if_neg hl, if_neg (by omega), Int.toNat_natCast, Nat.min_eq_left hn]
theorem tk_dr_end {w : Ar} (h : Fits w.1 w.2) (hl : w.1 ≠ []) {n : Nat} (h0 : 0 < n) (hn : n ≤ nI w.1) (hs : n ≤ 4096) :
    tkM (some ([], [-(n : Int)])) (some w) = (some (cuM w (nI w.1 - n) (nI w.1)), 0) ∧ drM (some ([], [-(n : Int)])) (some w) = (some (cuM w 0 (nI w.1 - n)), 0) := by
  have hi := inM_num (x := -(n : Int)) (nearM_yes.2 ⟨by omega, by omega⟩)
  have hh := nI_head hl h.1
  refine ⟨?_, ?_⟩
  · simp only [tkM, hi]
    rw [if_neg (by simp), if_neg hl, if_neg (by omega), if_pos (by omega), Int.neg_neg, Int.toNat_natCast]
  · simp only [drM, hi]
    rw [if_neg (by simp), if_neg hl, if_pos (by omega), Int.neg_neg, Int.toNat_natCast]
/-- Above how many items there are. -/
theorem tk_over {w : Ar} (h : Fits w.1 w.2) (hl : w.1 ≠ []) {x : Int} (hx : w.1.getD 0 0 < x) : (tkM (some ([], [x])) (some w)).2 ≠ 0 := by
  simp only [tkM]
  cases hn : nearM x with
  | true =>
    rw [inM_num hn]
    simp only
    rw [if_neg (by simp), if_neg hl, if_pos (.inl hx)]
    simp
  | false =>
    have e : inM ([], [x]) = (0, 5) := by
      unfold inM
      rw [if_neg (by simp)]
      show (if nearM x = true then (x, 0) else (0, 5)) = _
      rw [if_neg (by rw [hn]; simp)]
    rw [e]
    simp
theorem cuM_fits {w : Ar} (h : Fits w.1 w.2) (hl : w.1 ≠ []) {a b : Nat} (hab : a ≤ b) (hb : b ≤ nI w.1) : Fits (cuM w a b).1 (cuM w a b).2 := by
  obtain ⟨l, es⟩ := w
  simp only at h hl hb
  have hh := nI_head hl h.1
  obtain ⟨x, r, rfl⟩ : ∃ x r, l = x :: r := by
    cases l with
    | nil => exact absurd rfl hl
    | cons x r => exact ⟨x, r, rfl⟩
  have hx : ((nI (x :: r) : Nat) : Int) = x := hh
  have hr : 0 ≤ pr r := pr_nonneg fun j hj => h.1.nn (j + 1) (by simpa using hj)
  have hle : (((b - a : Nat) : Int)) * pr r ≤ x * pr r := Int.mul_le_mul_of_nonneg_right (by omega) hr
  have hp : pr (x :: r) = x * pr r := rfl
  refine ⟨⟨h.1.len, fun j hj => ?_, fun j hj => ?_, ?_⟩, ?_⟩
  · cases j with
    | zero => show (0 : Int) ≤ ((b - a : Nat) : Int); omega
    | succ j => exact h.1.nn (j + 1) (by simpa [cuM] using hj)
  · have h1 := h.1.le 0 (by simp)
    cases j with
    | zero =>
      show (((b - a : Nat) : Int)) ≤ 1099511627776
      have : x ≤ 1099511627776 := h1
      omega
    | succ j => exact h.1.le (j + 1) (by simpa [cuM] using hj)
  · show (((b - a : Nat) : Int)) * pr r ≤ 4096
    have := h.1.pr
    omega
  · show ((ctM (x :: r) es a b).length : Int) = (((b - a : Nat) : Int)) * pr r
    rw [ctM_length h hl hb]
    show (((b - a) * (pr r).toNat : Nat) : Int) = _
    rw [Int.natCast_mul, Int.toNat_of_nonneg hr]
theorem cuM_many {w : Ar} {a b : Nat} : maM (cuM w a b).1 = ((b - a : Nat) : Int) := by
  unfold maM
  rw [if_neg (by simp [cuM])]
  rfl
/-- A shape's array of an array's elements is it. -/
theorem cy_all (es : List Int) : cyM es es.length = es := by
  apply List.ext_getElem
  · simp [cyM]
  · intro i h1 h2
    simp [cyM, Nat.mod_eq_of_lt h2, List.getD_eq_getElem?_getD, List.getElem?_eq_getElem h2]
theorem shape_again {v : Ar} (h : Fits v.1 v.2) : rsM (shM (some v)).1 (raM (some v)).1 = (some v, 0) := by
  obtain ⟨l, es⟩ := v
  simp only at h
  have hsz : szE l = 0 := szE_may.2 h.1
  have hp := (may_pr hsz).1
  have hal : l.all nearM = true := by
    rw [List.all_eq_true]
    intro x hx
    obtain ⟨j, hj, rfl⟩ := List.getElem_of_mem hx
    have h1 := h.1.nn j hj
    have h2 := h.1.le j hj
    rw [List.getD_eq_getElem?_getD, List.getElem?_eq_getElem hj] at h1 h2
    exact nearM_yes.2 ⟨by simp only [Option.getD_some] at h1; omega, h2⟩
  simp only [shM, raM, rsM]
  rw [if_neg (by simp), if_neg (by rw [hal]; simp), if_neg (by rw [hsz]; simp), if_neg ?_]
  · have e : (pr l).toNat = es.length := by have := h.2; omega
    rw [e, cy_all]
  · rintro ⟨h1, h2⟩
    have h3 : (es.length : Int) = pr l := h.2
    have h2 : es = [] := h2
    rw [h2] at h3
    exact h1 h3.symm
/-- The numbers below n, the last one first. -/
theorem up_rev (n : Nat) : rvM [(n : Int)] (upM n) = (List.range n).map fun i : Nat => ((n - 1 - i : Nat) : Int) := by
  unfold rvM
  have hk : kI [(n : Int)] = 1 := rfl
  have hn : nI [(n : Int)] = n := by simp [nI]
  split
  · rename_i hc
    rcases hc with hc | hc
    · cases hc
    · have : n = 0 := by
        have := congrArg List.length hc
        simpa [upM] using this
      subst this; rfl
  · rw [hk, hn]
    apply List.ext_getElem
    · rw [rvs_length (n := n) (by simp [upM])]; simp
    · intro i h1 h2
      have hi : i < n := by simpa using h2
      have hu : (upM n).length = n * 1 := by simp [upM]
      have h3 := its_at (es := upM n) (k := 1) (n := n) hu (l := (List.range n).reverse) (fun j hj => by simpa using hj) (j := i) (by simpa using hi)
      have h4 : ((rvs_ (upM n) 1 n).drop (i * 1)).take 1 = [(rvs_ (upM n) 1 n)[i]] := by
        rw [Nat.mul_one, List.drop_eq_getElem_cons h1]; rfl
      have hr : (List.range n).reverse[i]'(by simpa using hi) = n - 1 - i := by simp
      have h5 : ((upM n).drop ((n - 1 - i) * 1)).take 1 = [((n - 1 - i : Nat) : Int)] := by
        have hlt : n - 1 - i < (upM n).length := by simp [upM]; omega
        rw [Nat.mul_one, List.drop_eq_getElem_cons hlt]
        simp [upM]
      have h6 : ((rvs_ (upM n) 1 n).drop (i * 1)).take 1 = [((n - 1 - i : Nat) : Int)] := by
        rw [show rvs_ (upM n) 1 n = its (upM n) 1 (List.range n).reverse from rfl, h3, hr, h5]
      rw [h4] at h6
      injection h6 with h6 _
      rw [h6]
      simp
/-- How many items: of no axis one. -/
theorem vcM_head (v : Ar) : (vcM v).1.getD 0 0 = maM v.1 := by
  obtain ⟨l, es⟩ := v
  unfold vcM maM
  by_cases h : l = []
  · subst h; rfl
  · rw [if_neg h, if_neg (fun e => h (List.length_eq_zero_iff.1 e))]
theorem jn_inv {v w u : Ar} {e : Int} (h : jnM (some v) (some w) = (some u, e)) : u.1 = (maM v.1 + maM w.1) :: (vcM v).1.tail ∧ (vcM v).1.tail = (vcM w).1.tail ∧ u.2 = v.2 ++ w.2 ∧ szE u.1 = 0 := by
  simp only [jnM] at h
  rw [vcM_head, vcM_head] at h
  split at h
  · cases h
  · split at h
    · cases h
    · split at h
      · cases h
      · rename_i h2 h3
        simp only [Prod.mk.injEq, Option.some.injEq] at h
        obtain ⟨rfl, _⟩ := h
        exact ⟨rfl, Classical.byContradiction h2, rfl, Classical.byContradiction h3⟩
/-- Three arrays joined are the same from the left and the right. -/
theorem jn_three {a b c x y p q : Ar} (h1 : jnM (some a) (some b) = (some x, 0)) (h2 : jnM (some b) (some c) = (some y, 0)) (h3 : jnM (some x) (some c) = (some p, 0)) (h4 : jnM (some a) (some y) = (some q, 0)) :
    p = q ∧ maM p.1 = maM a.1 + maM b.1 + maM c.1 := by
  obtain ⟨x1, x2, x3, _⟩ := jn_inv h1
  obtain ⟨y1, y2, y3, _⟩ := jn_inv h2
  obtain ⟨p1, p2, p3, _⟩ := jn_inv h3
  obtain ⟨q1, q2, q3, _⟩ := jn_inv h4
  have mx : maM x.1 = maM a.1 + maM b.1 := by rw [x1]; rfl
  have my : maM y.1 = maM b.1 + maM c.1 := by rw [y1]; rfl
  have vx : (vcM x).1.tail = (vcM a).1.tail := by
    unfold vcM
    rw [if_neg (by rw [x1]; simp), x1]
    rfl
  refine ⟨Prod.ext ?_ ?_, ?_⟩
  · rw [p1, q1, mx, my, vx, Int.add_assoc]
  · rw [p3, q3, x3, y3, List.append_assoc]
  · rw [p1, mx]; rfl
end Go.Proofs.YtjpjccilnmlmnaaGreatDoor

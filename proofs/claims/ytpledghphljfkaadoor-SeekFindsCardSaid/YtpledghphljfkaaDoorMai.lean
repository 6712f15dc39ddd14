import Derived.Test.YtpledghphljfkaaDoorMah
import Derived.Test.YtpledghphljfkaaDoorMae
/-
  What mould's calls tell, in the document's words, of arrays (axes, and numbers) or of none; and what follows. Nothing of any program.
-/
namespace Go.Proofs.YtpledghphljfkaaDoor
set_option linter.unusedVariables false
set_option linter.unusedSimpArgs false

abbrev Ar := List Int × List Int

/-- Not too far from 0. -/
def nearM (x : Int) : Bool := decide (-1099511627776 ≤ x) && decide (x ≤ 1099511627776)
theorem nearM_yes {x : Int} : nearM x = true ↔ -1099511627776 ≤ x ∧ x ≤ 1099511627776 := by simp [nearM]
/-- The number that an array is, or the error. -/
def inM (v : Ar) : Int × Int := if v.1 ≠ [] ∨ v.2.length ≠ 1 then (0, 3) else if nearM (v.2.getD 0 0) then (v.2.getD 0 0, 0) else (0, 5)
/-- The numbers below n. -/
def upM (n : Nat) : List Int := (List.range n).map fun i : Nat => (i : Int)
def ioM : Option Ar → Option Ar × Int
  | none => (none, 1)
  | some v => if (inM v).2 ≠ 0 then (none, (inM v).2) else if (inM v).1 < 0 then (none, 5) else if 4096 < (inM v).1 then (none, 8) else (some ([(inM v).1], upM (inM v).1.toNat), 0)
/-- How many items there are. -/
def maM (l : List Int) : Int := if l.length = 0 then 1 else l.getD 0 0
def taM : Option Ar → Option Ar × Int
  | none => (none, 1)
  | some v => (some ([], [maM v.1]), 0)
def shM : Option Ar → Option Ar × Int
  | none => (none, 1)
  | some v => (some ([(v.1.length : Int)], v.1), 0)
def raM : Option Ar → Option Ar × Int
  | none => (none, 1)
  | some v => (some ([(v.2.length : Int)], v.2), 0)
def reM : Option Ar → Option Ar × Int
  | none => (none, 1)
  | some v => (some (v.1, rvM v.1 v.2), 0)
def fiM : Option Ar → Option Ar × Int
  | none => (none, 1)
  | some v => (some (v.1.reverse, flM v.1 v.2), 0)
/-- n elements of a list, from the first one again behind the last one. -/
def cyM (es : List Int) (n : Nat) : List Int := (List.range n).map fun i : Nat => es.getD (i % es.length) 0
def rsM : Option Ar → Option Ar → Option Ar × Int
  | some v, some w => if 1 < v.1.length then (none, 3) else if v.2.all nearM = false then (none, 5) else if szE v.2 ≠ 0 then (none, szE v.2) else if pr v.2 ≠ 0 ∧ w.2 = [] then (none, 5) else (some (v.2, cyM w.2 (pr v.2).toNat), 0)
  | _, _ => (none, 1)
/-- The items from a on to below b, with their axes. -/
def cuM (w : Ar) (a b : Nat) : Ar := (((b - a : Nat) : Int) :: w.1.tail, ctM w.1 w.2 a b)
def tkM : Option Ar → Option Ar → Option Ar × Int
  | some v, some w => if (inM v).2 ≠ 0 then (none, (inM v).2) else if w.1 = [] then (none, 3) else
    if w.1.getD 0 0 < (inM v).1 ∨ w.1.getD 0 0 < -(inM v).1 then (none, 6) else
    if (inM v).1 < 0 then (some (cuM w (nI w.1 - (-(inM v).1).toNat) (nI w.1)), 0) else (some (cuM w 0 (inM v).1.toNat), 0)
  | _, _ => (none, 1)
def drM : Option Ar → Option Ar → Option Ar × Int
  | some v, some w => if (inM v).2 ≠ 0 then (none, (inM v).2) else if w.1 = [] then (none, 3) else
    if (inM v).1 < 0 then (some (cuM w 0 (nI w.1 - (-(inM v).1).toNat)), 0) else (some (cuM w (min (inM v).1.toNat (nI w.1)) (nI w.1)), 0)
  | _, _ => (none, 1)
/-- One without an axis counts as a vector of one. -/
def vcM (v : Ar) : Ar := if v.1 = [] then ([1], v.2) else v
def jnM : Option Ar → Option Ar → Option Ar × Int
  | some v, some w => if (vcM v).1.length ≠ (vcM w).1.length then (none, 3) else if (vcM v).1.tail ≠ (vcM w).1.tail then (none, 4) else
    if szE (((vcM v).1.getD 0 0 + (vcM w).1.getD 0 0) :: (vcM v).1.tail) ≠ 0 then (none, szE (((vcM v).1.getD 0 0 + (vcM w).1.getD 0 0) :: (vcM v).1.tail)) else
    (some (((vcM v).1.getD 0 0 + (vcM w).1.getD 0 0) :: (vcM v).1.tail, v.2 ++ w.2), 0)
  | _, _ => (none, 1)
/-! What follows. -/
theorem inM_num {x : Int} (h : nearM x = true) : inM ([], [x]) = (x, 0) := by
  unfold inM
  rw [if_neg (by simp)]
  show (if nearM x = true then (x, 0) else (0, 5)) = _
  rw [if_pos h]
theorem nI_head {l : List Int} (hl : l ≠ []) (h : MayL l) : ((nI l : Nat) : Int) = l.getD 0 0 := by
  have h0 := h.nn 0 (by cases l with | nil => exact absurd rfl hl | cons x r => simp)
  unfold nI
  omega
theorem head_tail {l : List Int} (hl : l ≠ []) : l.getD 0 0 :: l.tail = l := by
  cases l with
  | nil => exact absurd rfl hl
  | cons x r => rfl
/-- What is taken from the front, and what is dropped there, joined, is all of it. -/
theorem cuM_join {w : Ar} (h : Fits w.1 w.2) (hl : w.1 ≠ []) {a : Nat} (ha : a ≤ nI w.1) : jnM (some (cuM w 0 a)) (some (cuM w a (nI w.1))) = (some w, 0) := by
  obtain ⟨l, es⟩ := w
  simp only at h hl ha
  have e1 : vcM (cuM (l, es) 0 a) = cuM (l, es) 0 a := by unfold vcM; rw [if_neg (by simp [cuM])]
  have e2 : vcM (cuM (l, es) a (nI l)) = cuM (l, es) a (nI l) := by unfold vcM; rw [if_neg (by simp [cuM])]
  have hj := ctM_join h hl ha
  have hn := nI_head hl h.1
  have hsum : (((a - 0 : Nat) : Int)) + ((nI l - a : Nat) : Int) = l.getD 0 0 := by omega
  have hax : ((((a - 0 : Nat) : Int)) + ((nI l - a : Nat) : Int)) :: l.tail = l := by rw [hsum]; exact head_tail hl
  have hsz : szE l = 0 := szE_may.2 h.1
  simp only [jnM]
  rw [e1, e2]
  show (if (cuM (l, es) 0 a).1.length ≠ (cuM (l, es) a (nI l)).1.length then _ else _) = _
  rw [if_neg (by simp [cuM])]
  rw [if_neg (by simp [cuM])]
  have e3 : ((cuM (l, es) 0 a).1.getD 0 0 + (cuM (l, es) a (nI l)).1.getD 0 0) :: (cuM (l, es) 0 a).1.tail = l := hax
  rw [e3, if_neg (by rw [hsz]; simp)]
  show (some (l, ctM l es 0 a ++ ctM l es a (nI l)), (0 : Int)) = _
  rw [hj]
theorem tk_dr {w : Ar} (h : Fits w.1 w.2) (hl : w.1 ≠ []) {n : Nat} (hn : n ≤ nI w.1) (hs : n ≤ 4096) :
    tkM (some ([], [(n : Int)])) (some w) = (some (cuM w 0 n), 0) ∧ drM (some ([], [(n : Int)])) (some w) = (some (cuM w n (nI w.1)), 0) := by
  have hi := inM_num (x := (n : Int)) (nearM_yes.2 ⟨by omega, by omega⟩)
  have hh := nI_head hl h.1
  refine ⟨?_, ?_⟩
  · simp only [tkM, hi]
    rw [if_neg (by simp), if_neg hl, if_neg (by omega), if_neg (by omega), Int.toNat_natCast]
  · simp only [drM, hi]
    rw [if_neg (by simp), if_neg hl, if_neg (by omega), Int.toNat_natCast, Nat.min_eq_left hn]
theorem tk_dr_end {w : Ar} (h : Fits w.1 w.2) (hl : w.1 ≠ []) {n : Nat} (h0 : 0 < n) (hn : n ≤ nI w.1) (hs : n ≤ 4096) :
    tkM (some ([], [-(n : Int)])) (some w) = (some (cuM w (nI w.1 - n) (nI w.1)), 0) ∧ drM (some ([], [-(n : Int)])) (some w) = (some (cuM w 0 (nI w.1 - n)), 0) := by
  have hi := inM_num (x := -(n : Int)) (nearM_yes.2 ⟨by omega, by omega⟩)
  have hh := nI_head hl h.1
  refine ⟨?_, ?_⟩
  · simp only [tkM, hi]
    rw [if_neg (by simp), if_neg hl, if_neg (by omega), if_pos (by omega), Int.neg_neg, Int.toNat_natCast]
  · simp only [drM, hi]
    rw [if_neg (by simp), if_neg hl, if_pos (by omega), Int.neg_neg, Int.toNat_natCast]
/-- Above how many items there are. -/
theorem tk_over {w : Ar} (h : Fits w.1 w.2) (hl : w.1 ≠ []) {x : Int} (hx : w.1.getD 0 0 < x) : (tkM (some ([], [x])) (some w)).2 ≠ 0 := by
  simp only [tkM]
  cases hn : nearM x with
  | true =>
    rw [inM_num hn]
    simp only
    rw [if_neg (by simp), if_neg hl, if_pos (.inl hx)]
    simp
  | false =>
    have e : inM ([], [x]) = (0, 5) := by
      unfold inM
      rw [if_neg (by simp)]
      show (if nearM x = true then (x, 0) else (0, 5)) = _
      rw [if_neg (by rw [hn]; simp)]
    rw [e]
    simp
theorem cuM_fits {w : Ar} (h : Fits w.1 w.2) (hl : w.1 ≠ []) {a b : Nat} (hab : a ≤ b) (hb : b ≤ nI w.1) : Fits (cuM w a b).1 (cuM w a b).2 := by
  obtain ⟨l, es⟩ := w
  simp only at h hl hb
  have hh := nI_head hl h.1
  obtain ⟨x, r, rfl⟩ : ∃ x r, l = x :: r := by
    cases l with
    | nil => exact absurd rfl hl
    | cons x r => exact ⟨x, r, rfl⟩
  have hx : ((nI (x :: r) : Nat) : Int) = x := hh
  have hr : 0 ≤ pr r := pr_nonneg fun j hj => h.1.nn (j + 1) (by simpa using hj)
  have hle : (((b - a : Nat) : Int)) * pr r ≤ x * pr r := Int.mul_le_mul_of_nonneg_right (by omega) hr
  have hp : pr (x :: r) = x * pr r := rfl
  refine ⟨⟨h.1.len, fun j hj => ?_, fun j hj => ?_, ?_⟩, ?_⟩
  · cases j with
    | zero => show (0 : Int) ≤ ((b - a : Nat) : Int); omega
    | succ j => exact h.1.nn (j + 1) (by simpa [cuM] using hj)
  · have h1 := h.1.le 0 (by simp)
    cases j with
    | zero =>
      show (((b - a : Nat) : Int)) ≤ 1099511627776
      have : x ≤ 1099511627776 := h1
      omega
    | succ j => exact h.1.le (j + 1) (by simpa [cuM] using hj)
  · show (((b - a : Nat) : Int)) * pr r ≤ 4096
    have := h.1.pr
    omega
  · show ((ctM (x :: r) es a b).length : Int) = (((b - a : Nat) : Int)) * pr r
    rw [ctM_length h hl hb]
    show (((b - a) * (pr r).toNat : Nat) : Int) = _
    rw [Int.natCast_mul, Int.toNat_of_nonneg hr]
theorem cuM_many {w : Ar} {a b : Nat} : maM (cuM w a b).1 = ((b - a : Nat) : Int) := by
  unfold maM
  rw [if_neg (by simp [cuM])]
  rfl
/-- A shape's array of an array's elements is it. -/
theorem cy_all (es : List Int) : cyM es es.length = es := by
  apply List.ext_getElem
  · simp [cyM]
  · intro i h1 h2
    simp [cyM, Nat.mod_eq_of_lt h2, List.getD_eq_getElem?_getD, List.getElem?_eq_getElem h2]
theorem shape_again {v : Ar} (h : Fits v.1 v.2) : rsM (shM (some v)).1 (raM (some v)).1 = (some v, 0) := by
  obtain ⟨l, es⟩ := v
  simp only at h
  have hsz : szE l = 0 := szE_may.2 h.1
  have hp := (may_pr hsz).1
  have hal : l.all nearM = true := by
    rw [List.all_eq_true]
    intro x hx
    obtain ⟨j, hj, rfl⟩ := List.getElem_of_mem hx
    have h1 := h.1.nn j hj
    have h2 := h.1.le j hj
    rw [List.getD_eq_getElem?_getD, List.getElem?_eq_getElem hj] at h1 h2
    exact nearM_yes.2 ⟨by simp only [Option.getD_some] at h1; omega, h2⟩
  simp only [shM, raM, rsM]
  rw [if_neg (by simp), if_neg (by rw [hal]; simp), if_neg (by rw [hsz]; simp), if_neg ?_]
  · have e : (pr l).toNat = es.length := by have := h.2; omega
    rw [e, cy_all]
  · rintro ⟨h1, h2⟩
    have h3 : (es.length : Int) = pr l := h.2
    have h2 : es = [] := h2
    rw [h2] at h3
    exact h1 h3.symm
/-- The numbers below n, the last one first. -/
theorem up_rev (n : Nat) : rvM [(n : Int)] (upM n) = (List.range n).map fun i : Nat => ((n - 1 - i : Nat) : Int) := by
  unfold rvM
  have hk : kI [(n : Int)] = 1 := rfl
  have hn : nI [(n : Int)] = n := by simp [nI]
  split
  · rename_i hc
    rcases hc with hc | hc
    · cases hc
    · have : n = 0 := by
        have := congrArg List.length hc
        simpa [upM] using this
      subst this; rfl
  · rw [hk, hn]
    apply List.ext_getElem
    · rw [rvs_length (n := n) (by simp [upM])]; simp
    · intro i h1 h2
      have hi : i < n := by simpa using h2
      have hu : (upM n).length = n * 1 := by simp [upM]
      have h3 := its_at (es := upM n) (k := 1) (n := n) hu (l := (List.range n).reverse) (fun j hj => by simpa using hj) (j := i) (by simpa using hi)
      have h4 : ((rvs_ (upM n) 1 n).drop (i * 1)).take 1 = [(rvs_ (upM n) 1 n)[i]] := by
        rw [Nat.mul_one, List.drop_eq_getElem_cons h1]; rfl
      have hr : (List.range n).reverse[i]'(by simpa using hi) = n - 1 - i := by simp
      have h5 : ((upM n).drop ((n - 1 - i) * 1)).take 1 = [((n - 1 - i : Nat) : Int)] := by
        have hlt : n - 1 - i < (upM n).length := by simp [upM]; omega
        rw [Nat.mul_one, List.drop_eq_getElem_cons hlt]
        simp [upM]
      have h6 : ((rvs_ (upM n) 1 n).drop (i * 1)).take 1 = [((n - 1 - i : Nat) : Int)] := by
        rw [show rvs_ (upM n) 1 n = its (upM n) 1 (List.range n).reverse from rfl, h3, hr, h5]
      rw [h4] at h6
      injection h6 with h6 _
      rw [h6]
      simp
/-- How many items: of no axis one. -/
theorem vcM_head (v : Ar) : (vcM v).1.getD 0 0 = maM v.1 := by
  obtain ⟨l, es⟩ := v
  unfold vcM maM
  by_cases h : l = []
  · subst h; rfl
  · rw [if_neg h, if_neg (fun e => h (List.length_eq_zero_iff.1 e))]
theorem jn_inv {v w u : Ar} {e : Int} (h : jnM (some v) (some w) = (some u, e)) : u.1 = (maM v.1 + maM w.1) :: (vcM v).1.tail ∧ (vcM v).1.tail = (vcM w).1.tail ∧ u.2 = v.2 ++ w.2 ∧ szE u.1 = 0 := by
  simp only [jnM] at h
  rw [vcM_head, vcM_head] at h
  split at h
  · cases h
  · split at h
    · cases h
    · split at h
      · cases h
      · rename_i h2 h3
        simp only [Prod.mk.injEq, Option.some.injEq] at h
        obtain ⟨rfl, _⟩ := h
        exact ⟨rfl, Classical.byContradiction h2, rfl, Classical.byContradiction h3⟩
/-- Three arrays joined are the same from the left and the right. -/
theorem jn_three {a b c x y p q : Ar} (h1 : jnM (some a) (some b) = (some x, 0)) (h2 : jnM (some b) (some c) = (some y, 0)) (h3 : jnM (some x) (some c) = (some p, 0)) (h4 : jnM (some a) (some y) = (some q, 0)) :
    p = q ∧ maM p.1 = maM a.1 + maM b.1 + maM c.1 := by
  obtain ⟨x1, x2, x3, _⟩ := jn_inv h1
  obtain ⟨y1, y2, y3, _⟩ := jn_inv h2
  obtain ⟨p1, p2, p3, _⟩ := jn_inv h3
  obtain ⟨q1, q2, q3, _⟩ := jn_inv h4
  have mx : maM x.1 = maM a.1 + maM b.1 := by rw [x1]; rfl
  have my : maM y.1 = maM b.1 + maM c.1 := by rw [y1]; rfl
  have vx : (vcM x).1.tail = (vcM a).1.tail := by
    unfold vcM
    rw [if_neg (by rw [x1]; simp), x1]
    rfl
  refine ⟨Prod.ext ?_ ?_, ?_⟩
  · rw [p1, q1, mx, my, vx, Int.add_assoc]
  · rw [p3, q3, x3, y3, List.append_assoc]
  · rw [p1, mx]; rfl
end Go.Proofs.YtpledghphljfkaaDoor
/-
  Two rows of places in order, merged; half by half.
-/
namespace Go.Proofs.YtpledghphljfkaaDoor
set_option linter.unusedVariables false
set_option linter.unusedSimpArgs false

def mg (f : Nat → Int) : List Nat → List Nat → List Nat
  | [], b => b
  | x :: a, [] => x :: a
  | x :: a, y :: b => if f x ≤ f y then x :: mg f a (y :: b) else y :: mg f (x :: a) b
termination_by a b => a.length + b.length
theorem mg_nil (f : Nat → Int) (b : List Nat) : mg f [] b = b := by unfold mg; rfl
theorem mg_nil' (f : Nat → Int) (a : List Nat) : mg f a [] = a := by
  cases a with
  | nil => exact mg_nil f []
  | cons x a => unfold mg; rfl
theorem mg_l {f : Nat → Int} {x y : Nat} {a b : List Nat} (h : f x ≤ f y) : mg f (x :: a) (y :: b) = x :: mg f a (y :: b) := by
  rw [mg, if_pos h]
theorem mg_r {f : Nat → Int} {x y : Nat} {a b : List Nat} (h : ¬ f x ≤ f y) : mg f (x :: a) (y :: b) = y :: mg f (x :: a) b := by
  rw [mg, if_neg h]
theorem mg_mem {f : Nat → Int} : ∀ (n : Nat) (a b : List Nat), a.length + b.length ≤ n → ∀ v, v ∈ mg f a b ↔ v ∈ a ∨ v ∈ b
  | n, [], b, _, v => by rw [mg_nil]; simp
  | n, x :: a, [], _, v => by rw [mg_nil']; simp
  | 0, x :: a, y :: b, h, v => by simp at h
  | n + 1, x :: a, y :: b, h, v => by
    simp only [List.length_cons] at h
    by_cases g : f x ≤ f y
    · rw [mg_l g]
      have e := mg_mem (f := f) n a (y :: b) (by simp only [List.length_cons]; omega) v
      simp only [List.mem_cons] at e ⊢
      rw [e, or_assoc]
    · rw [mg_r g, List.mem_cons, mg_mem n (x :: a) b (by simp only [List.length_cons]; omega) v, List.mem_cons (l := b)]
      constructor
      · rintro (h | h | h)
        · exact .inr (.inl h)
        · exact .inl h
        · exact .inr (.inr h)
      · rintro (h | h | h)
        · exact .inr (.inl h)
        · exact .inl h
        · exact .inr (.inr h)
theorem mg_lt {f : Nat → Int} : ∀ (n : Nat) (a b : List Nat), a.length + b.length ≤ n → a.Pairwise (Lf f) → b.Pairwise (Lf f) → (∀ x ∈ a, ∀ y ∈ b, x < y) → (mg f a b).Pairwise (Lf f)
  | n, [], b, _, _, hb, _ => by rw [mg_nil]; exact hb
  | n, x :: a, [], _, ha, _, _ => by rw [mg_nil']; exact ha
  | 0, x :: a, y :: b, h, _, _, _ => by simp at h
  | n + 1, x :: a, y :: b, h, ha, hb, hab => by
    simp only [List.length_cons] at h
    have ha' := List.pairwise_cons.1 ha
    have hb' := List.pairwise_cons.1 hb
    have hxy := hab x (List.mem_cons_self ..) y (List.mem_cons_self ..)
    by_cases g : f x ≤ f y
    · rw [mg_l g, List.pairwise_cons]
      have hx : Lf f x y := by unfold Lf; omega
      refine ⟨?_, mg_lt n a (y :: b) (by simp only [List.length_cons]; omega) ha'.2 hb fun p hp q hq => hab p (List.mem_cons_of_mem _ hp) q hq⟩
      intro v hv
      rcases (mg_mem _ a (y :: b) (Nat.le_refl _) v).1 hv with hv | hv
      · exact ha'.1 v hv
      · rcases List.mem_cons.1 hv with e | hv
        · rw [e]; exact hx
        · exact hx.trans (hb'.1 v hv)
    · rw [mg_r g, List.pairwise_cons]
      have hx : Lf f y x := by unfold Lf; omega
      refine ⟨?_, mg_lt n (x :: a) b (by simp only [List.length_cons]; omega) ha hb'.2 fun p hp q hq => hab p hp q (List.mem_cons_of_mem _ hq)⟩
      intro v hv
      rcases (mg_mem _ (x :: a) b (Nat.le_refl _) v).1 hv with hv | hv
      · rcases List.mem_cons.1 hv with e | hv
        · rw [e]; exact hx
        · exact hx.trans (ha'.1 v hv)
      · exact hb'.1 v hv
/-- The places from p to ahead of q, in order. -/
structure Orr (f : Nat → Int) (p q : Nat) (l : List Nat) : Prop where
  lt : l.Pairwise (Lf f)
  all : ∀ v, v ∈ l ↔ p ≤ v ∧ v < q
theorem Orr.none {f : Nat → Int} {p q : Nat} (h : q ≤ p) : Orr f p q [] := ⟨List.Pairwise.nil, fun v => ⟨fun h => (by cases h), fun h => (by omega)⟩⟩
theorem Orr.one {f : Nat → Int} {p : Nat} : Orr f p (p + 1) [p] := ⟨List.pairwise_singleton _ _, fun v => by rw [List.mem_singleton]; omega⟩
theorem Orr.merged {f : Nat → Int} {p m q : Nat} {a b : List Nat} (h1 : p ≤ m) (h2 : m ≤ q) (ha : Orr f p m a) (hb : Orr f m q b) : Orr f p q (mg f a b) :=
  ⟨mg_lt _ a b (Nat.le_refl _) ha.lt hb.lt fun x hx y hy => by have := (ha.all x).1 hx; have := (hb.all y).1 hy; omega,
   fun v => by rw [mg_mem _ a b (Nat.le_refl _) v, ha.all v, hb.all v]; omega⟩
theorem Orr.ord {f : Nat → Int} {n : Nat} {l : List Nat} (h : Orr f 0 n l) : Ord f n l := ⟨h.lt, fun v => by rw [h.all v]; omega⟩
/-- As many places as there are elements, each below that. -/
theorem Ord.len {f : Nat → Int} {n : Nat} {l : List Nat} (h : Ord f n l) : l.length = n := by
  have nd : l.Nodup := h.lt.imp fun {a b} (g : Lf f a b) => by intro e; subst e; exact Lf.irr g
  have hp : l.Perm (List.range n) := (List.perm_ext_iff_of_nodup nd List.nodup_range).2 fun v => by rw [h.all v, List.mem_range]
  rw [hp.length_eq, List.length_range]
/-- Indexed by its order it rises; alike ones stay in turn. -/
theorem Ord.rises {f : Nat → Int} {n : Nat} {l : List Nat} (h : Ord f n l) {k : Nat} (hk : k + 1 < l.length) : f l[k] < f l[k + 1] ∨ (f l[k] = f l[k + 1] ∧ l[k] < l[k + 1]) :=
  List.pairwise_iff_getElem.1 h.lt k (k + 1) (by omega) hk (by omega)
/-- The order of the order: where each place stands in it. -/
theorem Ord.back {f : Nat → Int} {n : Nat} {l m : List Nat} (h : Ord f n l) (g : Ord (fun i => (l.getD i 0 : Int)) n m) {i : Nat} (hi : i < n) : l.getD (m.getD i 0) 0 = i := by
  have hl := h.len
  have hm := g.len
  -- the places told by m, looked up in l, rise strictly: they are 0 to below n
  have hmi : ∀ j (hj : j < m.length), m[j] < n := fun j hj => (g.all _).1 (List.getElem_mem hj)
  have key : m.map (fun j => l.getD j 0) = List.range n := by
    have inj : ∀ x y, x < n → y < n → l.getD x 0 = l.getD y 0 → x = y := by
      intro x y hx hy e
      rw [List.getD_eq_getElem?_getD, List.getD_eq_getElem?_getD, List.getElem?_eq_getElem (by omega), List.getElem?_eq_getElem (by omega)] at e
      simp only [Option.getD_some] at e
      rcases Nat.lt_trichotomy x y with c | c | c
      · have q := List.pairwise_iff_getElem.1 h.lt x y (by omega) (by omega) c
        rw [e] at q
        exact absurd q Lf.irr
      · exact c
      · have q := List.pairwise_iff_getElem.1 h.lt y x (by omega) (by omega) c
        rw [e] at q
        exact absurd q Lf.irr
    have s1 : (m.map (fun j => l.getD j 0)).Pairwise (Lf fun i => (i : Int)) := by
      rw [List.pairwise_map, List.pairwise_iff_getElem]
      intro i j hi hj hij
      have q := List.pairwise_iff_getElem.1 g.lt i j hi hj hij
      have hne : l.getD m[i] 0 ≠ l.getD m[j] 0 := by
        intro e
        have e2 := inj _ _ (hmi i hi) (hmi j hj) e
        rw [e2] at q
        exact Lf.irr q
      unfold Lf at q ⊢
      dsimp only at q ⊢
      omega
    have s2 : (List.range n).Pairwise (Lf fun i => (i : Int)) := List.pairwise_lt_range.imp fun {a b} (q : a < b) => by unfold Lf; dsimp only; omega
    refine lf_mem s1 s2 fun v => ?_
    rw [List.mem_map, List.mem_range]
    constructor
    · rintro ⟨j, hj, rfl⟩
      have hj' := (g.all j).1 hj
      rw [List.getD_eq_getElem?_getD, List.getElem?_eq_getElem (by omega)]
      exact (h.all _).1 (List.getElem_mem _)
    · intro hv
      obtain ⟨j, hj, e⟩ := List.mem_iff_getElem.1 ((h.all v).2 hv)
      refine ⟨j, (g.all j).2 (by omega), ?_⟩
      rw [List.getD_eq_getElem?_getD, List.getElem?_eq_getElem hj]
      exact e
  have e1 : (m.map (fun j => l.getD j 0)).getD i 0 = i := by
    rw [key, List.getD_eq_getElem?_getD, List.getElem?_range hi]; rfl
  rw [List.getD_eq_getElem?_getD, List.getElem?_map, List.getElem?_eq_getElem (by omega)] at e1
  rw [List.getD_eq_getElem?_getD (l := m), List.getElem?_eq_getElem (by omega)]
  exact e1
end Go.Proofs.YtpledghphljfkaaDoor
/-
  What seek's calls tell of lists, in the document's words, and what follows: first places, each element once, places as often as numbers say, elements in others' place, items by their numbers. Nothing of any program.
-/
namespace Go.Proofs.YtpledghphljfkaaDoor
set_option linter.unusedVariables false
set_option linter.unusedSimpArgs false

/-! ### first places -/
/-- An element's first place; how many there are, if it is none. -/
def fpS {α : Type} [DecidableEq α] : List α → α → Nat
  | [], _ => 0
  | y :: r, x => if y = x then 0 else fpS r x + 1
section
variable {α : Type} [DecidableEq α]
theorem fp_le (l : List α) (x : α) : fpS l x ≤ l.length := by
  induction l with
  | nil => exact Nat.le_refl _
  | cons y r ih =>
    unfold fpS
    split
    · exact Nat.zero_le _
    · simp only [List.length_cons]; omega
theorem fp_at {l : List α} {x : α} (h : fpS l x < l.length) : l[fpS l x]? = some x := by
  induction l with
  | nil => cases h
  | cons y r ih =>
    by_cases hy : y = x
    · have e : fpS (y :: r) x = 0 := by unfold fpS; rw [if_pos hy]
      rw [e, hy]; rfl
    · have e : fpS (y :: r) x = fpS r x + 1 := by show (if y = x then 0 else fpS r x + 1) = _; rw [if_neg hy]
      rw [e] at h ⊢
      simp only [List.length_cons] at h
      rw [List.getElem?_cons_succ]
      exact ih (by omega)
theorem fp_min {l : List α} {x : α} {k : Nat} (h : k < fpS l x) : l[k]? ≠ some x := by
  induction l generalizing k with
  | nil => cases h
  | cons y r ih =>
    by_cases hy : y = x
    · have e : fpS (y :: r) x = 0 := by unfold fpS; rw [if_pos hy]
      omega
    · have e : fpS (y :: r) x = fpS r x + 1 := by show (if y = x then 0 else fpS r x + 1) = _; rw [if_neg hy]
      cases k with
      | zero => intro hk; simp at hk; exact hy hk
      | succ k => rw [List.getElem?_cons_succ]; exact ih (by omega)
theorem fp_mem {l : List α} {x : α} : fpS l x < l.length ↔ x ∈ l := by
  constructor
  · intro h
    exact List.mem_of_getElem? (fp_at h)
  · intro h
    obtain ⟨j, hj, e⟩ := List.getElem_of_mem h
    rcases Nat.lt_or_ge (fpS l x) l.length with h1 | h1
    · exact h1
    · exact absurd ((List.getElem?_eq_getElem hj).trans (congrArg some e)) (fp_min (by omega))
/-- The place is told by these two. -/
theorem fp_one {l : List α} {x : α} {k : Nat} (hk : k < l.length) (h1 : l[k]? = some x) (h2 : ∀ j, j < k → l[j]? ≠ some x) : fpS l x = k := by
  rcases Nat.lt_trichotomy (fpS l x) k with h | h | h
  · exact absurd (fp_at (by omega)) (h2 _ h)
  · exact h
  · exact absurd h1 (fp_min h)
/-- Each element where it is first. -/
def unS : List α → List α
  | [] => []
  | y :: r => y :: (unS r).filter fun z => decide (z ≠ y)
theorem un_mem {l : List α} {x : α} : x ∈ unS l ↔ x ∈ l := by
  induction l with
  | nil => simp [unS]
  | cons y r ih =>
    unfold unS
    rw [List.mem_cons, List.mem_filter, ih, List.mem_cons]
    by_cases h : x = y
    · simp [h]
    · simp [h]
theorem un_len (l : List α) : (unS l).length ≤ l.length := by
  induction l with
  | nil => exact Nat.le_refl _
  | cons y r ih =>
    unfold unS
    have := List.length_filter_le (fun z => decide (z ≠ y)) (unS r)
    simp only [List.length_cons]
    omega
/-- One element more behind: once, if it isn't there. -/
theorem un_snoc (l : List α) (x : α) : unS (l ++ [x]) = unS l ++ (if x ∈ l then [] else [x]) := by
  induction l with
  | nil => simp [unS]
  | cons y r ih =>
    show y :: (unS (r ++ [x])).filter _ = _
    rw [ih, List.filter_append]
    show _ = (y :: (unS r).filter fun z => decide (z ≠ y)) ++ _
    rw [List.cons_append]
    congr 2
    by_cases h1 : x ∈ r
    · simp [h1]
    · by_cases h2 : x = y
      · simp [h2]
      · simp [h1, h2]
/-- Found among each once, and indexed by that, a list is as it was. -/
theorem un_find {l : List α} {x : α} (hx : x ∈ l) : (unS l)[fpS (unS l) x]? = some x := fp_at (fp_mem.2 (un_mem.2 hx))
end
/-! ### as often as a number says -/
/-- Each place, in turn, as often as its number says. -/
def whS : Nat → List Nat → List Nat
  | _, [] => []
  | i, n :: r => List.replicate n i ++ whS (i + 1) r
theorem wh_len (i : Nat) (l : List Nat) : (whS i l).length = l.sum := by
  induction l generalizing i with
  | nil => rfl
  | cons n r ih => simp [whS, ih]
theorem wh_mem {i : Nat} {l : List Nat} {p : Nat} (h : p ∈ whS i l) : i ≤ p ∧ p < i + l.length := by
  induction l generalizing i with
  | nil => cases h
  | cons n r ih =>
    rcases List.mem_append.1 h with h | h
    · rw [List.mem_replicate] at h
      simp only [List.length_cons]; omega
    · have := ih h
      simp only [List.length_cons]; omega
theorem wh_rises (i : Nat) (l : List Nat) : (whS i l).Pairwise (· ≤ ·) := by
  induction l generalizing i with
  | nil => exact List.Pairwise.nil
  | cons n r ih =>
    refine List.pairwise_append.2 ⟨?_, ih (i + 1), fun a ha b hb => ?_⟩
    · exact List.pairwise_replicate.2 (.inr (Nat.le_refl _))
    · rw [List.mem_replicate] at ha
      have := (wh_mem hb).1
      omega
theorem wh_count (i : Nat) (l : List Nat) (k : Nat) : (whS i l).count (i + k) = l.getD k 0 := by
  induction l generalizing i k with
  | nil => simp [whS]
  | cons n r ih =>
    unfold whS
    rw [List.count_append]
    cases k with
    | zero =>
      have h0 : (whS (i + 1) r).count i = 0 := List.count_eq_zero.2 fun h => by have := (wh_mem h).1; omega
      simp [h0]
    | succ k =>
      have h1 : (List.replicate n i).count (i + (k + 1)) = 0 := List.count_eq_zero.2 fun h => by rw [List.mem_replicate] at h; omega
      rw [h1, show i + (k + 1) = i + 1 + k by omega, ih, Nat.zero_add]
      simp
theorem wh_snoc (i : Nat) (l : List Nat) (n : Nat) : whS i (l ++ [n]) = whS i l ++ List.replicate n (i + l.length) := by
  induction l generalizing i with
  | nil => simp [whS]
  | cons m r ih =>
    show List.replicate m i ++ whS (i + 1) (r ++ [n]) = _
    rw [ih]
    show _ = (List.replicate m i ++ whS (i + 1) r) ++ _
    rw [List.append_assoc, List.length_cons, show i + 1 + r.length = i + (r.length + 1) by omega]
/-! ### in others' place -/
/-- The elements ws at the places at, in turn. -/
def amS {α : Type} (es : List α) : List Nat → List α → List α
  | [], _ => es
  | _, [] => es
  | i :: r, x :: s => amS (es.set i x) r s
section
variable {α : Type}
theorem am_len (es : List α) (l : List Nat) (ws : List α) : (amS es l ws).length = es.length := by
  induction l generalizing es ws with
  | nil => cases ws <;> rfl
  | cons i r ih =>
    cases ws with
    | nil => rfl
    | cons x s => show (amS (es.set i x) r s).length = _; rw [ih, List.length_set]
theorem am_snoc (es : List α) {l : List Nat} {ws : List α} (h : l.length = ws.length) (i : Nat) (x : α) : amS es (l ++ [i]) (ws ++ [x]) = (amS es l ws).set i x := by
  induction l generalizing es ws with
  | nil =>
    cases ws with
    | nil => rfl
    | cons y s => cases h
  | cons j r ih =>
    cases ws with
    | nil => cases h
    | cons y s =>
      show amS (es.set j y) (r ++ [i]) (s ++ [x]) = (amS (es.set j y) r s).set i x
      exact ih _ (by simpa using h)
/-- The k-th places more: what is there then. -/
theorem am_at (es : List α) {l : List Nat} {ws : List α} (h : l.length = ws.length) {k : Nat} (hk : k < l.length) (i : Nat) (d : α) (hi : l[k] < es.length) :
    (amS es (l.take (k + 1)) (ws.take (k + 1))).getD i d = if l[k] = i then ws.getD k d else (amS es (l.take k) (ws.take k)).getD i d := by
  have hk2 : k < ws.length := by omega
  rw [List.take_succ_eq_append_getElem hk, List.take_succ_eq_append_getElem hk2, am_snoc es (by rw [List.length_take, List.length_take]; omega)]
  rw [List.getD_eq_getElem?_getD, List.getElem?_set, List.getD_eq_getElem?_getD, List.getD_eq_getElem?_getD]
  by_cases h1 : l[k] = i
  · rw [if_pos h1, if_pos h1, if_pos (by rw [am_len]; omega), List.getElem?_eq_getElem hk2]
  · rw [if_neg h1, if_neg h1]
theorem am_zero (es : List α) (l : List Nat) (ws : List α) : amS es (l.take 0) (ws.take 0) = es := rfl
/-! ### items by their numbers -/
/-- Of a vector: element by element. -/
theorem its_one (es : List α) (d : α) {l : List Nat} (h : ∀ i ∈ l, i < es.length) : its es 1 l = l.map fun i => es.getD i d := by
  induction l with
  | nil => rfl
  | cons i r ih =>
    have hi := h i (List.mem_cons_self ..)
    show (es.drop (i * 1)).take 1 ++ its es 1 r = _
    have e : es.getD i d = es[i] := by rw [List.getD_eq_getElem?_getD, List.getElem?_eq_getElem hi]; rfl
    rw [ih fun j hj => h j (List.mem_cons_of_mem _ hj), Nat.mul_one, List.drop_eq_getElem_cons hi, List.map_cons, e]
    rfl
end
end Go.Proofs.YtpledghphljfkaaDoor

import Derived.Test.YtjpjccilnmlmnaaGreatDoorMan
/-
  Axes turned round: the element at some places stands at these, the last one first; twice turned it stands where it stood. And some items of a list of elements.
-/
namespace Go.Proofs.YtjpjccilnmlmnaaGreatDoor
set_option linter.unusedVariables false
set_option linter.unusedSimpArgs false

theorem quo_hor {l t : List Int} (h : AllPos l) (ht : inL l t l.length = true) : ∀ d i : Nat, d + i = l.length → quo l (hor l t l.length) i = hor l t i
  | 0, i, e => by
    have : i = l.length := by omega
    subst this
    exact quo_last _ _
  | d + 1, i, e => by
    have hi : i < l.length := by omega
    have ih := quo_hor h ht d (i + 1) (by omega)
    rw [← quo_step hi (by have := h.drop (i + 1); omega), ih]
    have hp := h.pos i hi
    have hr := inL_at ht hi
    show (hor l t i * l.getD i 0 + t.getD i 0) / l.getD i 0 = hor l t i
    rw [Int.add_comm, Int.add_mul_ediv_right _ _ (by omega), Int.ediv_eq_zero_of_lt hr.1 hr.2, Int.zero_add]
theorem plc_hor {l t : List Int} (h : AllPos l) (ht : inL l t l.length = true) {i : Nat} (hi : i < l.length) : plc l (hor l t l.length) i = t.getD i 0 := by
  have e := quo_hor h ht (l.length - (i + 1)) (i + 1) (by omega)
  have hr := inL_at ht hi
  unfold plc
  rw [e]
  show (hor l t i * l.getD i 0 + t.getD i 0) % l.getD i 0 = t.getD i 0
  rw [Int.add_comm, Int.add_mul_emod_self_right, Int.emod_eq_of_lt hr.1 hr.2]
theorem plL_hor {l t : List Int} (h : AllPos l) (ht : inL l t l.length = true) (hl : t.length = l.length) : plL l (hor l t l.length) = t := by
  apply List.ext_getElem
  · rw [plL_length, hl]
  · intro i h1 h2
    have hi : i < l.length := by rw [plL_length] at h1; exact h1
    have e := plc_hor h ht hi
    have e2 := plL_get (k := hor l t l.length) hi
    rw [e, List.getD_eq_getElem?_getD, List.getD_eq_getElem?_getD, List.getElem?_eq_getElem h1, List.getElem?_eq_getElem h2] at e2
    exact e2
theorem getD_rev {l : List Int} {i : Nat} (h : i < l.length) : l.reverse.getD i 0 = l.getD (l.length - 1 - i) 0 := by
  rw [List.getD_eq_getElem?_getD, List.getD_eq_getElem?_getD, List.getElem?_reverse h]
theorem pr_reverse : ∀ l : List Int, pr l.reverse = pr l
  | [] => rfl
  | x :: r => by
    rw [List.reverse_cons, pr_append, pr_reverse r]
    simp only [pr]
    rw [Int.mul_one, Int.mul_comm]
theorem AllPos.turned {l : List Int} (h : AllPos l) : AllPos l.reverse := ⟨fun j hj => by
  rw [List.length_reverse] at hj
  rw [getD_rev hj]
  exact h.pos _ (by omega)⟩
/-- Where the element of offset k of the shape l stands when its axes are turned round. -/
def tno (l : List Int) (k : Int) : Int := hor l.reverse (plL l k).reverse l.length
theorem inL_turned {l : List Int} (h : AllPos l) (k : Int) : inL l.reverse (plL l k).reverse l.reverse.length = true := by
  refine inL_of fun i hi => ?_
  rw [List.length_reverse] at hi
  rw [getD_rev hi, getD_rev (by rw [plL_length]; exact hi), plL_length, plL_get (by omega)]
  exact plc_range h k (by omega)
theorem tno_range {l : List Int} (h : AllPos l) (k : Int) : 0 ≤ tno l k ∧ tno l k < pr l := by
  have g := hor_range (n := l.reverse.length) (Nat.le_refl _) (inL_turned h k)
  rw [List.take_length, pr_reverse, List.length_reverse] at g
  exact g
theorem plL_tno {l : List Int} (h : AllPos l) (k : Int) : plL l.reverse (tno l k) = (plL l k).reverse := by
  have g := plL_hor h.turned (inL_turned h k) (by rw [List.length_reverse, List.length_reverse, plL_length])
  rw [List.length_reverse] at g
  exact g
/-- Twice turned it stands where it stood. -/
theorem tno_back {l : List Int} (h : AllPos l) {k : Int} (hk : 0 ≤ k) (hlt : k < pr l) : tno l.reverse (tno l k) = k := by
  have e : tno l.reverse (tno l k) = hor l (plL l k) l.length := by
    unfold tno
    rw [List.reverse_reverse, List.length_reverse]
    have g := plL_tno h k
    unfold tno at g
    rw [g, List.reverse_reverse]
  rw [e, hor_plL h hk hlt (Nat.le_refl _), quo_last]
theorem tno_inj {l : List Int} (h : AllPos l) {x y : Int} (hx : 0 ≤ x) (hx2 : x < pr l) (hy : 0 ≤ y) (hy2 : y < pr l) (e : tno l x = tno l y) : x = y := by
  rw [← tno_back h hx hx2, ← tno_back h hy hy2, e]
end Go.Proofs.YtjpjccilnmlmnaaGreatDoor

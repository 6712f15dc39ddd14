import Derived.Test.YtjpjccilnmlmnaaGreatDoorMae
import Derived.Deep.AppendLies
/-
  Slices of strings as lists, arrays as two slices, and a box with an array in it; whether two slices of strings are the same; the plain facts on arrays that the layer's contracts speak of.
-/
namespace Go.Proofs.YtjpjccilnmlmnaaGreatDoor
set_option linter.unusedVariables false
set_option linter.unusedSimpArgs false
open Go.RowKit

/-- A slice of strings, read. -/
def St (W : World) (a : Option Addr) (n : Nat) (l : List ByteArray) : Prop :=
  l.length = n ∧ (0 < n → ∃ b off, a = some ⟨b, off, none⟩ ∧ ∀ j, j < n → W.cell? ⟨b, off + j, none⟩ = some (.string (l.getD j ByteArray.empty)))
theorem St.below {W W' : World} {a : Option Addr} {n : Nat} {l : List ByteArray} (h : St W a n l) (hb : Below W.heap.size W W') : St W' a n l := by
  refine ⟨h.1, fun hn => ?_⟩
  obtain ⟨b, off, e, hc⟩ := h.2 hn
  exact ⟨b, off, e, fun j hj => (hb.cell (show (⟨b, off + j, none⟩ : Addr).block < W.heap.size from World.block_lt_of_cell? W _ (hc j hj))).trans (hc j hj)⟩
theorem St.nil (W : World) (a : Option Addr) : St W a 0 [] := ⟨rfl, fun h => by omega⟩
/-- An array, read: its two slices. -/
structure Vl (W : World) (a : Option Addr) (n : Nat) (b : Option Addr) (m : Nat) (l : List Int) (es : List ByteArray) : Prop where
  s : Sl W a n l
  t : St W b m es
  mm : m ≤ 9223372036854775807
/-- What an array that came in has besides: its slices' capacities. -/
structure Cp (n c m d : Nat) : Prop where
  nc : n ≤ c
  cm : c ≤ maxLen
  md : m ≤ d
  dm : d ≤ maxLen
section
variable {W W' : World} {a b : Option Addr} {g n c m d : Nat} {l : List Int} {es : List ByteArray}
theorem Vl.below (h : Vl W a n b m l es) (hb : Below W.heap.size W W') : Vl W' a n b m l es := ⟨h.s.below hb, h.t.below hb, h.mm⟩
theorem Vl.none_ (W : World) : Vl W none 0 none 0 [] [] := ⟨Sl.nil _ _, St.nil _ _, by omega⟩
/-- A block with an array in it. -/
def Bx (W : World) (g : Nat) (a : Option Addr) (n c : Nat) (b : Option Addr) (m d : Nat) : Prop := W.heap[g]? = some (.cells #[.slice a n c, .slice b m d] 25 (0, 0))
theorem Bx.lt (h : Bx W g a n c b m d) : g < W.heap.size := (Array.getElem?_eq_some_iff.1 h).1
theorem Bx.c0 (h : Bx W g a n c b m d) : W.cell? ⟨g, 0, none⟩ = some (.slice a n c) := by rw [cell_of_row _ _ 0 _ _ _ h]; rfl
theorem Bx.c1 (h : Bx W g a n c b m d) : W.cell? ⟨g, 1, none⟩ = some (.slice b m d) := by rw [cell_of_row _ _ 1 _ _ _ h]; rfl
theorem Bx.f (h : Bx W g a n c b m d) (i : Nat) : W.frozen? ⟨g, i, none⟩ = false := frozen_of_row _ _ i _ _ h
theorem Bx.below (h : Bx W g a n c b m d) {B : Nat} (hb : Below B W W') (hg : g < B) : Bx W' g a n c b m d := (hb.block g hg).trans h
theorem Bx.alloc (h : Bx W g a n c b m d) (o : Obj) : Bx (W.alloc o) g a n c b m d := (Below.heap_alloc W o g h.lt).trans h
theorem Bx.new (W : World) (a : Option Addr) (n c : Nat) (b : Option Addr) (m d : Nat) : Bx (W.alloc (.cells #[.slice a n c, .slice b m d] 25)) W.heap.size a n c b m d := heap_alloc_new W _
theorem Bx.set (h : Bx W g a n c b m d) (a' : Option Addr) (n' c' : Nat) (b' : Option Addr) (m' d' : Nat) : Bx ((W.setCell ⟨g, 0, none⟩ (.slice a' n' c')).setCell ⟨g, 1, none⟩ (.slice b' m' d')) g a' n' c' b' m' d' := by
  unfold Bx at h ⊢
  simp [World.setCell, Array.getElem?_modify, h]
theorem Bx.grown (h : Bx W g a n c b m d) {g' : Nat} (hb : W.grownBy W' (some g')) (hne : g ≠ g') : Bx W' g a n c b m d := (hb.block g h.lt (by intro e; injection e with e; exact hne e)).trans h
theorem Bx.setOther (h : Bx W g a n c b m d) {p : Addr} (hp : g ≠ p.block) (u : Value) : Bx (W.setCell p u) g a n c b m d := (Below.heap_setCell W p u g hp).trans h
/-- What is no slice doesn't lie in a box: it stays, whatever is put there. -/
theorem Bx.cell_far (h : Bx W g a n c b m d) {p : Addr} {x : Value} (hp : W.cell? p = some x) (hx : ∀ a n c, x ≠ .slice a n c) (u v : Value) : ((W.setCell ⟨g, 0, none⟩ u).setCell ⟨g, 1, none⟩ v).cell? p = some x := by
  have p0 : p ≠ ⟨g, 0, none⟩ := by
    rintro rfl
    rw [h.c0] at hp
    injection hp with hp
    exact hx _ _ _ hp.symm
  have p1 : p ≠ ⟨g, 1, none⟩ := by
    rintro rfl
    rw [h.c1] at hp
    injection hp with hp
    exact hx _ _ _ hp.symm
  rw [World.cell?_setCell_other _ _ _ _ p1.symm, World.cell?_setCell_other _ _ _ _ p0.symm, hp]
theorem Bx.sl (h : Bx W g a n c b m d) {a' : Option Addr} {n' : Nat} (hs : Sl W a' n' l) (u v : Value) : Sl ((W.setCell ⟨g, 0, none⟩ u).setCell ⟨g, 1, none⟩ v) a' n' l := by
  refine ⟨hs.1, fun hn => ?_⟩
  obtain ⟨bb, off, e, hc⟩ := hs.2 hn
  exact ⟨bb, off, e, fun j hj => h.cell_far (hc j hj) (by intro _ _ _ hh; cases hh) u v⟩
theorem Bx.st (h : Bx W g a n c b m d) {a' : Option Addr} {n' : Nat} (hs : St W a' n' es) (u v : Value) : St ((W.setCell ⟨g, 0, none⟩ u).setCell ⟨g, 1, none⟩ v) a' n' es := by
  refine ⟨hs.1, fun hn => ?_⟩
  obtain ⟨bb, off, e, hc⟩ := hs.2 hn
  exact ⟨bb, off, e, fun j hj => h.cell_far (hc j hj) (by intro _ _ _ hh; cases hh) u v⟩
/-- A box made, and filled: nothing that was there has turned. -/
theorem below_made {B : Nat} (hb : Below B W W') (hg : B ≤ g) (u v : Value) : Below B W ((W'.setCell ⟨g, 0, none⟩ u).setCell ⟨g, 1, none⟩ v) := (hb.setCell hg u).setCell hg v
end

/-- Two slices of strings: whether they are the same. -/
theorem EqualS_is (a1 a2 : Option Addr) (n c m d : Nat) (l k : List ByteArray) (W : World) (h1 : St W a1 n l) (h2 : St W a2 m k) (hn : n ≤ 9223372036854775807) (hm : m ≤ 9223372036854775807) :
    Calls Tryz.prog 50 #[.slice a1 n c, .slice a2 m d] W fun x W' => x = .returned (.bool (decide (l = k))) ∧ Below W.heap.size W W' := by
  by_cases hnm : n = m
  · subst hnm
    by_cases h0 : n = 0
    · subst h0
      have e1 := List.length_eq_zero_iff.1 h1.1
      have e2 := List.length_eq_zero_iff.1 h2.1
      subst e1 e2
      refine (Tryz.slices_Equal_string_empty a1 a2 c 0 d W (by decide)).mono ?_
      rintro x w ⟨rfl, rfl⟩
      exact ⟨rfl, Below.refl _ _⟩
    · obtain ⟨b1, o1, rfl, hc1⟩ := h1.2 (by omega)
      obtain ⟨b2, o2, rfl, hc2⟩ := h2.2 (by omega)
      refine (Tryz.slices_Equal_string b1 o1 n c b2 o2 n d l k W (by rw [h1.1]; exact Nat.le_refl _) (by rw [h2.1]; exact Nat.le_refl _) hn hm (fun j hj => hc1 j (by rw [← h1.1]; exact hj)) (fun j hj => hc2 j (by rw [← h2.1]; exact hj))).mono ?_
      rintro x w ⟨rfl, q, rfl⟩
      refine ⟨?_, ⟨rfl, rfl, rfl, Nat.le_refl _, fun _ _ => rfl⟩⟩
      rw [List.take_of_length_le (by rw [h1.1]; exact Nat.le_refl _), List.take_of_length_le (by rw [h2.1]; exact Nat.le_refl _)]
  · refine (Tryz.slices_Equal_string_lens a1 a2 n c m d W hnm).mono ?_
    rintro x w ⟨rfl, rfl⟩
    refine ⟨?_, Below.refl _ _⟩
    have : decide (l = k) = false := decide_eq_false (by rintro rfl; exact hnm (h1.1.symm.trans h2.1))
    rw [this]

/-! ### Plain facts -/
/-- What may be, as an array. -/
def mayV (l : List Int) (es : List ByteArray) : Bool := decide (szE l = 0) && decide ((es.length : Int) = szV l) && es.all fun s => mayL s.data.toList
structure MayVl (l : List Int) (es : List ByteArray) : Prop where
  e : szE l = 0
  len : (es.length : Int) = pr l
  all : ∀ j, j < es.length → mayL (es.getD j ByteArray.empty).data.toList = true
theorem all_at {p : ByteArray → Bool} {es : List ByteArray} : es.all p = true ↔ ∀ j, j < es.length → p (es.getD j ByteArray.empty) = true := by
  rw [List.all_eq_true]
  constructor
  · intro h j hj
    rw [List.getD_eq_getElem?_getD, List.getElem?_eq_getElem hj]
    exact h _ (List.getElem_mem hj)
  · intro h x hx
    obtain ⟨j, hj, rfl⟩ := List.getElem_of_mem hx
    have := h j hj
    rwa [List.getD_eq_getElem?_getD, List.getElem?_eq_getElem hj] at this
theorem mayV_yes {l : List Int} {es : List ByteArray} : mayV l es = true ↔ MayVl l es := by
  unfold mayV
  rw [Bool.and_eq_true, Bool.and_eq_true, decide_eq_true_eq, decide_eq_true_eq, all_at]
  constructor
  · rintro ⟨⟨h1, h2⟩, h3⟩
    exact ⟨h1, by rw [h2, szV_pr h1], h3⟩
  · rintro ⟨h1, h2, h3⟩
    exact ⟨⟨h1, by rw [h2, szV_pr h1]⟩, h3⟩
theorem mayV_e {l : List Int} {es : List ByteArray} (h : szE l ≠ 0) : mayV l es = false := by
  unfold mayV; rw [decide_eq_false h]; rfl
theorem mayV_len {l : List Int} {es : List ByteArray} (h : (es.length : Int) ≠ szV l) : mayV l es = false := by
  unfold mayV; rw [decide_eq_false h, Bool.and_false]; rfl
theorem mayV_at {l : List Int} {es : List ByteArray} {j : Nat} (hj : j < es.length) (h : mayL (es.getD j ByteArray.empty).data.toList = false) : mayV l es = false := by
  rw [← Bool.not_eq_true]
  intro hh
  rw [(mayV_yes.1 hh).all j hj] at h
  cases h
/-- Not too many, nor too long. -/
def fewB (l : List Int) (es : List ByteArray) : Bool := (es.take 301).all (fun s => decide (s.size ≤ 120)) && (decide (es.length ≤ 300) && decide (l.length ≤ 20))
theorem fewB_yes {l : List Int} {es : List ByteArray} (h : fewB l es = true) : l.length ≤ 20 ∧ es.length ≤ 300 ∧ ∀ j, j < es.length → (es.getD j ByteArray.empty).size ≤ 120 := by
  unfold fewB at h
  rw [Bool.and_eq_true, Bool.and_eq_true, decide_eq_true_eq, decide_eq_true_eq, all_at] at h
  obtain ⟨h1, h2, h3⟩ := h
  refine ⟨h3, h2, fun j hj => ?_⟩
  have := h1 j (by rw [List.length_take]; omega)
  rw [List.getD_eq_getElem?_getD, List.getElem?_take_of_lt (by omega), ← List.getD_eq_getElem?_getD] at this
  simpa using this
theorem fewB_at {l : List Int} {es : List ByteArray} {j : Nat} (hj : j < es.length) (h3 : j < 301) (h : 120 < (es.getD j ByteArray.empty).size) : fewB l es = false := by
  have e : (es.take 301).all (fun s => decide (s.size ≤ 120)) = false := by
    rw [← Bool.not_eq_true]
    intro hh
    have := all_at.1 hh j (by rw [List.length_take]; omega)
    rw [List.getD_eq_getElem?_getD, List.getElem?_take_of_lt h3, ← List.getD_eq_getElem?_getD] at this
    have := of_decide_eq_true this
    omega
  unfold fewB
  rw [e]; rfl
theorem fewB_all {l : List Int} {es : List ByteArray} (h : ∀ j, j < es.length → j < 301 → (es.getD j ByteArray.empty).size ≤ 120) : fewB l es = (decide (es.length ≤ 300) && decide (l.length ≤ 20)) := by
  have e : (es.take 301).all (fun s => decide (s.size ≤ 120)) = true := by
    rw [all_at]
    intro j hj
    rw [List.length_take] at hj
    rw [List.getD_eq_getElem?_getD, List.getElem?_take_of_lt (by omega), ← List.getD_eq_getElem?_getD]
    exact decide_eq_true (h j (by omega) (by omega))
  unfold fewB
  rw [e]; rfl
/-- An item's elements. -/
def part (es : List ByteArray) (k i : Nat) : List ByteArray := (es.drop (i * k)).take k
theorem part_length {es : List ByteArray} {k i : Nat} (h : (i + 1) * k ≤ es.length) : (part es k i).length = k := by
  unfold part
  rw [Nat.add_mul, Nat.one_mul] at h
  rw [List.length_take, List.length_drop]; omega
theorem part_get {es : List ByteArray} {k i j : Nat} (hj : j < k) : (part es k i).getD j ByteArray.empty = es.getD (i * k + j) ByteArray.empty := by
  unfold part
  simp only [List.getD_eq_getElem?_getD, List.getElem?_take_of_lt hj, List.getElem?_drop]
theorem part_take {es : List ByteArray} {k i : Nat} : es.take (i * k) ++ part es k i = es.take ((i + 1) * k) := by
  unfold part
  rw [Nat.add_mul, Nat.one_mul, List.take_add]
end Go.Proofs.YtjpjccilnmlmnaaGreatDoor

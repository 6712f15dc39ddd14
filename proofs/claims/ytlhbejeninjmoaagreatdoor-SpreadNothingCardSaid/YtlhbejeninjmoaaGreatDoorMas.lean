import Derived.Test.YtlhbejeninjmoaaGreatDoorMar
import Derived.Deep.AppendLies
import Derived.Test.YtlhbejeninjmoaaGreatDoorMan
import Derived.Lib.SmallJoins
import Derived.SliceStrings
import Derived.ProofKit
import Derived.Carry
import Derived.OpenShut
import Derived.WalkKit
/-
  Slices of strings as lists, arrays as two slices, and a box with an array in it; whether two slices of strings are the same; the plain facts on arrays that the layer's contracts speak of.
-/
namespace Go.Proofs.YtlhbejeninjmoaaGreatDoor
set_option linter.unusedVariables false
set_option linter.unusedSimpArgs false
open Go.RowKit

/-- A slice of strings, read. -/
def St (W : World) (a : Option Addr) (n : Nat) (l : List ByteArray) : Prop :=
  l.length = n ∧ (0 < n → ∃ b off, a = some ⟨b, off, none⟩ ∧ ∀ j, j < n → W.cell? ⟨b, off + j, none⟩ = some (.string (l.getD j ByteArray.empty)))
theorem St.below {W W' : World} {a : Option Addr} {n : Nat} {l : List ByteArray} (h : St W a n l) (hb : Below W.heap.size W W') : St W' a n l := by
  refine ⟨h.1, fun hn => ?_⟩
  obtain ⟨b, off, e, hc⟩ := h.2 hn
  exact ⟨b, off, e, fun j hj => (hb.cell (show (⟨b, off + j, none⟩ : Addr).block < W.heap.size from World.block_lt_of_cell? W _ (hc j hj))).trans (hc j hj)⟩
theorem St.nil (W : World) (a : Option Addr) : St W a 0 [] := ⟨rfl, fun h => by omega⟩
/-- An array, read: its two slices. -/
structure Vl (W : World) (a : Option Addr) (n : Nat) (b : Option Addr) (m : Nat) (l : List Int) (es : List ByteArray) : Prop where
  s : Sl W a n l
  t : St W b m es
  mm : m ≤ 9223372036854775807
/-- What an array that came in has besides: its slices' capacities. -/
structure Cp (n c m d : Nat) : Prop where
  nc : n ≤ c
  cm : c ≤ maxLen
  md : m ≤ d
  dm : d ≤ maxLen
section
variable {W W' : World} {a b : Option Addr} {g n c m d : Nat} {l : List Int} {es : List ByteArray}
theorem Vl.below (h : Vl W a n b m l es) (hb : Below W.heap.size W W') : Vl W' a n b m l es := ⟨h.s.below hb, h.t.below hb, h.mm⟩
theorem Vl.none_ (W : World) : Vl W none 0 none 0 [] [] := ⟨Sl.nil _ _, St.nil _ _, by omega⟩
/-- A block with an array in it. -/
def Bx (W : World) (g : Nat) (a : Option Addr) (n c : Nat) (b : Option Addr) (m d : Nat) : Prop := W.heap[g]? = some (.cells #[.slice a n c, .slice b m d] 25 (0, 0))
theorem Bx.lt (h : Bx W g a n c b m d) : g < W.heap.size := (Array.getElem?_eq_some_iff.1 h).1
theorem Bx.c0 (h : Bx W g a n c b m d) : W.cell? ⟨g, 0, none⟩ = some (.slice a n c) := by rw [cell_of_row _ _ 0 _ _ _ h]; rfl
theorem Bx.c1 (h : Bx W g a n c b m d) : W.cell? ⟨g, 1, none⟩ = some (.slice b m d) := by rw [cell_of_row _ _ 1 _ _ _ h]; rfl
theorem Bx.f (h : Bx W g a n c b m d) (i : Nat) : W.frozen? ⟨g, i, none⟩ = false := frozen_of_row _ _ i _ _ h
theorem Bx.below (h : Bx W g a n c b m d) {B : Nat} (hb : Below B W W') (hg : g < B) : Bx W' g a n c b m d := (hb.block g hg).trans h
theorem Bx.alloc (h : Bx W g a n c b m d) (o : Obj) : Bx (W.alloc o) g a n c b m d := (Below.heap_alloc W o g h.lt).trans h
theorem Bx.new (W : World) (a : Option Addr) (n c : Nat) (b : Option Addr) (m d : Nat) : Bx (W.alloc (.cells #[.slice a n c, .slice b m d] 25)) W.heap.size a n c b m d := heap_alloc_new W _
theorem Bx.set (h : Bx W g a n c b m d) (a' : Option Addr) (n' c' : Nat) (b' : Option Addr) (m' d' : Nat) : Bx ((W.setCell ⟨g, 0, none⟩ (.slice a' n' c')).setCell ⟨g, 1, none⟩ (.slice b' m' d')) g a' n' c' b' m' d' := by
  unfold Bx at h ⊢
  simp [World.setCell, Array.getElem?_modify, h]
theorem Bx.grown (h : Bx W g a n c b m d) {g' : Nat} (hb : W.grownBy W' (some g')) (hne : g ≠ g') : Bx W' g a n c b m d := (hb.block g h.lt (by intro e; injection e with e; exact hne e)).trans h
theorem Bx.setOther (h : Bx W g a n c b m d) {p : Addr} (hp : g ≠ p.block) (u : Value) : Bx (W.setCell p u) g a n c b m d := (Below.heap_setCell W p u g hp).trans h
/-- What is no slice doesn't lie in a box: it stays, whatever is put there. -/
theorem Bx.cell_far (h : Bx W g a n c b m d) {p : Addr} {x : Value} (hp : W.cell? p = some x) (hx : ∀ a n c, x ≠ .slice a n c) (u v : Value) : ((W.setCell ⟨g, 0, none⟩ u).setCell ⟨g, 1, none⟩ v).cell? p = some x := by
  have p0 : p ≠ ⟨g, 0, none⟩ := by
    rintro rfl
    rw [h.c0] at hp
    injection hp with hp
    exact hx _ _ _ hp.symm
  have p1 : p ≠ ⟨g, 1, none⟩ := by
    rintro rfl
    rw [h.c1] at hp
    injection hp with hp
    exact hx _ _ _ hp.symm
  rw [World.cell?_setCell_other _ _ _ _ p1.symm, World.cell?_setCell_other _ _ _ _ p0.symm, hp]
theorem Bx.sl (h : Bx W g a n c b m d) {a' : Option Addr} {n' : Nat} (hs : Sl W a' n' l) (u v : Value) : Sl ((W.setCell ⟨g, 0, none⟩ u).setCell ⟨g, 1, none⟩ v) a' n' l := by
  refine ⟨hs.1, fun hn => ?_⟩
  obtain ⟨bb, off, e, hc⟩ := hs.2 hn
  exact ⟨bb, off, e, fun j hj => h.cell_far (hc j hj) (by intro _ _ _ hh; cases hh) u v⟩
theorem Bx.st (h : Bx W g a n c b m d) {a' : Option Addr} {n' : Nat} (hs : St W a' n' es) (u v : Value) : St ((W.setCell ⟨g, 0, none⟩ u).setCell ⟨g, 1, none⟩ v) a' n' es := by
  refine ⟨hs.1, fun hn => ?_⟩
  obtain ⟨bb, off, e, hc⟩ := hs.2 hn
  exact ⟨bb, off, e, fun j hj => h.cell_far (hc j hj) (by intro _ _ _ hh; cases hh) u v⟩
/-- A box made, and filled: nothing that was there has turned. -/
theorem below_made {B : Nat} (hb : Below B W W') (hg : B ≤ g) (u v : Value) : Below B W ((W'.setCell ⟨g, 0, none⟩ u).setCell ⟨g, 1, none⟩ v) := (hb.setCell hg u).setCell hg v
end

/-- Two slices of strings: whether they are the same. -/
theorem EqualS_is (a1 a2 : Option Addr) (n c m d : Nat) (l k : List ByteArray) (W : World) (h1 : St W a1 n l) (h2 : St W a2 m k) (hn : n ≤ 9223372036854775807) (hm : m ≤ 9223372036854775807) :
    Calls Tryz.prog 41 #[.slice a1 n c, .slice a2 m d] W fun x W' => x = .returned (.bool (decide (l = k))) ∧ Below W.heap.size W W' := by
  by_cases hnm : n = m
  · subst hnm
    by_cases h0 : n = 0
    · subst h0
      have e1 := List.length_eq_zero_iff.1 h1.1
      have e2 := List.length_eq_zero_iff.1 h2.1
      subst e1 e2
      refine (Tryz.slices_Equal_string_empty a1 a2 c 0 d W (by decide)).mono ?_
      rintro x w ⟨rfl, rfl⟩
      exact ⟨rfl, Below.refl _ _⟩
    · obtain ⟨b1, o1, rfl, hc1⟩ := h1.2 (by omega)
      obtain ⟨b2, o2, rfl, hc2⟩ := h2.2 (by omega)
      refine (Tryz.slices_Equal_string b1 o1 n c b2 o2 n d l k W (by rw [h1.1]; exact Nat.le_refl _) (by rw [h2.1]; exact Nat.le_refl _) hn hm (fun j hj => hc1 j (by rw [← h1.1]; exact hj)) (fun j hj => hc2 j (by rw [← h2.1]; exact hj))).mono ?_
      rintro x w ⟨rfl, q, rfl⟩
      refine ⟨?_, ⟨rfl, rfl, rfl, Nat.le_refl _, fun _ _ => rfl⟩⟩
      rw [List.take_of_length_le (by rw [h1.1]; exact Nat.le_refl _), List.take_of_length_le (by rw [h2.1]; exact Nat.le_refl _)]
  · refine (Tryz.slices_Equal_string_lens a1 a2 n c m d W hnm).mono ?_
    rintro x w ⟨rfl, rfl⟩
    refine ⟨?_, Below.refl _ _⟩
    have : decide (l = k) = false := decide_eq_false (by rintro rfl; exact hnm (h1.1.symm.trans h2.1))
    rw [this]

/-! ### Plain facts -/
/-- What may be, as an array. -/
def mayV (l : List Int) (es : List ByteArray) : Bool := decide (szE l = 0) && decide ((es.length : Int) = szV l) && es.all fun s => mayL s.data.toList
structure MayVl (l : List Int) (es : List ByteArray) : Prop where
  e : szE l = 0
  len : (es.length : Int) = pr l
  all : ∀ j, j < es.length → mayL (es.getD j ByteArray.empty).data.toList = true
theorem all_at {p : ByteArray → Bool} {es : List ByteArray} : es.all p = true ↔ ∀ j, j < es.length → p (es.getD j ByteArray.empty) = true := by
  rw [List.all_eq_true]
  constructor
  · intro h j hj
    rw [List.getD_eq_getElem?_getD, List.getElem?_eq_getElem hj]
    exact h _ (List.getElem_mem hj)
  · intro h x hx
    obtain ⟨j, hj, rfl⟩ := List.getElem_of_mem hx
    have := h j hj
    rwa [List.getD_eq_getElem?_getD, List.getElem?_eq_getElem hj] at this
theorem mayV_yes {l : List Int} {es : List ByteArray} : mayV l es = true ↔ MayVl l es := by
  unfold mayV
  rw [Bool.and_eq_true, Bool.and_eq_true, decide_eq_true_eq, decide_eq_true_eq, all_at]
  constructor
  · rintro ⟨⟨h1, h2⟩, h3⟩
    exact ⟨h1, by rw [h2, szV_pr h1], h3⟩
  · rintro ⟨h1, h2, h3⟩
    exact ⟨⟨h1, by rw [h2, szV_pr h1]⟩, h3⟩
theorem mayV_e {l : List Int} {es : List ByteArray} (h : szE l ≠ 0) : mayV l es = false := by
  unfold mayV; rw [decide_eq_false h]; rfl
theorem mayV_len {l : List Int} {es : List ByteArray} (h : (es.length : Int) ≠ szV l) : mayV l es = false := by
  unfold mayV; rw [decide_eq_false h, Bool.and_false]; rfl
theorem mayV_at {l : List Int} {es : List ByteArray} {j : Nat} (hj : j < es.length) (h : mayL (es.getD j ByteArray.empty).data.toList = false) : mayV l es = false := by
  rw [← Bool.not_eq_true]
  intro hh
  rw [(mayV_yes.1 hh).all j hj] at h
  cases h
/-- Not too many, nor too long. -/
def fewB (l : List Int) (es : List ByteArray) : Bool := (es.take 301).all (fun s => decide (s.size ≤ 120)) && (decide (es.length ≤ 300) && decide (l.length ≤ 20))
theorem fewB_yes {l : List Int} {es : List ByteArray} (h : fewB l es = true) : l.length ≤ 20 ∧ es.length ≤ 300 ∧ ∀ j, j < es.length → (es.getD j ByteArray.empty).size ≤ 120 := by
  unfold fewB at h
  rw [Bool.and_eq_true, Bool.and_eq_true, decide_eq_true_eq, decide_eq_true_eq, all_at] at h
  obtain ⟨h1, h2, h3⟩ := h
  refine ⟨h3, h2, fun j hj => ?_⟩
  have := h1 j (by rw [List.length_take]; omega)
  rw [List.getD_eq_getElem?_getD, List.getElem?_take_of_lt (by omega), ← List.getD_eq_getElem?_getD] at this
  simpa using this
theorem fewB_at {l : List Int} {es : List ByteArray} {j : Nat} (hj : j < es.length) (h3 : j < 301) (h : 120 < (es.getD j ByteArray.empty).size) : fewB l es = false := by
  have e : (es.take 301).all (fun s => decide (s.size ≤ 120)) = false := by
    rw [← Bool.not_eq_true]
    intro hh
    have := all_at.1 hh j (by rw [List.length_take]; omega)
    rw [List.getD_eq_getElem?_getD, List.getElem?_take_of_lt h3, ← List.getD_eq_getElem?_getD] at this
    have := of_decide_eq_true this
    omega
  unfold fewB
  rw [e]; rfl
theorem fewB_all {l : List Int} {es : List ByteArray} (h : ∀ j, j < es.length → j < 301 → (es.getD j ByteArray.empty).size ≤ 120) : fewB l es = (decide (es.length ≤ 300) && decide (l.length ≤ 20)) := by
  have e : (es.take 301).all (fun s => decide (s.size ≤ 120)) = true := by
    rw [all_at]
    intro j hj
    rw [List.length_take] at hj
    rw [List.getD_eq_getElem?_getD, List.getElem?_take_of_lt (by omega), ← List.getD_eq_getElem?_getD]
    exact decide_eq_true (h j (by omega) (by omega))
  unfold fewB
  rw [e]; rfl
/-- An item's elements. -/
def part (es : List ByteArray) (k i : Nat) : List ByteArray := (es.drop (i * k)).take k
theorem part_length {es : List ByteArray} {k i : Nat} (h : (i + 1) * k ≤ es.length) : (part es k i).length = k := by
  unfold part
  rw [Nat.add_mul, Nat.one_mul] at h
  rw [List.length_take, List.length_drop]; omega
theorem part_get {es : List ByteArray} {k i j : Nat} (hj : j < k) : (part es k i).getD j ByteArray.empty = es.getD (i * k + j) ByteArray.empty := by
  unfold part
  simp only [List.getD_eq_getElem?_getD, List.getElem?_take_of_lt hj, List.getElem?_drop]
theorem part_take {es : List ByteArray} {k i : Nat} : es.take (i * k) ++ part es k i = es.take ((i + 1) * k) := by
  unfold part
  rw [Nat.add_mul, Nat.one_mul, List.take_add]
end Go.Proofs.YtlhbejeninjmoaaGreatDoor
/-
  What a row's arrays are, opened.
-/
namespace Go.Proofs.YtlhbejeninjmoaaGreatDoor
set_option linter.unusedVariables false
set_option linter.unusedSimpArgs false
open Go.ChangeShapes Go.WideShapes Go.ChangeAt Go.RowKit

def I64s (x : Int) : Prop := -9223372036854775808 ≤ x ∧ x ≤ 9223372036854775807
theorem laidOut : laidOutB Tryz.prog = true := by kernel_rfl
theorem strings_at {w : World} {a : Addr} {ss : List ByteArray} (h : ∀ i, i < ss.length → w.cell? (a.add i) = some (.string (ss.getD i ByteArray.empty))) (hp : 0 < ss.length) :
    ∃ b off, a = ⟨b, off, none⟩ ∧ ∀ j, j < ss.length → w.cell? ⟨b, off + j, none⟩ = some (.string (ss.getD j ByteArray.empty)) := by
  obtain ⟨b, off, spot⟩ := a
  have hspot : spot = none := by simpa [Addr.add] using World.cell?_spot (h 0 hp)
  subst hspot
  exact ⟨b, off, rfl, fun j hj => by rw [← Go.WideShapes.add_plain]; exact h j hj⟩
theorem i64_of {x : Int} (h : (Lit.int .i64 x).wf = true) : I64s x := by
  have h1 : IntKind.i64.min = -9223372036854775808 := rfl
  have h2 : IntKind.i64.max = 9223372036854775807 := rfl
  simp only [Lit.wf, Bool.and_eq_true, decide_eq_true_eq] at h
  unfold I64s
  omega
theorem u8_of {x : Int} (h : (Lit.int .u8 x).wf = true) : 0 ≤ x ∧ x ≤ 255 := by
  have h1 : IntKind.u8.min = 0 := rfl
  have h2 : IntKind.u8.max = 255 := rfl
  simp only [Lit.wf, Bool.and_eq_true, decide_eq_true_eq] at h
  omega
theorem ints_opened {H : Type} {enc : TypeId × Value → H} {W : World} {fuel : Nat} {v : Value} {x : DataW H × List MemPlace} (hf : DataW.trod enc Tryz.prog W 0 (fun _ => true) true fuel 22 [v] = some x) :
    ∃ a n c l, v = .slice a n c ∧ Sl W a n l ∧ (∀ j, j < n → I64s (l.getD j 0)) ∧ n ≤ c ∧ c ≤ maxLen := by
  have hc : Tryz.prog.cellsOf 3 = 1 := by kernel_rfl
  rcases open_ints Tryz.underlying22 Tryz.underlying3 hc hf with ⟨hcs, _⟩ | ⟨a', n', c', zs, hcs, _, hle, hmax, hall, _, hcell, hwf⟩
  · simp at hcs
    exact ⟨none, 0, 0, [], hcs, Sl.nil _ _, fun j hj => by omega, Nat.le_refl _, by unfold maxLen; omega⟩
  · simp at hcs
    simp only [if_true] at hall
    have hget : ∀ j, j < n' → (zs.take n').getD j 0 = zs.getD j 0 := fun j hj => by simp [List.getD, List.getElem?_take_of_lt hj]
    refine ⟨some a', n', c', zs.take n', hcs, ⟨by simp; omega, fun hn => ?_⟩, fun j hj => ?_, hle, hmax⟩
    · obtain ⟨b, off, rfl, hc2⟩ := ints_at hcell (by omega)
      exact ⟨b, off, rfl, fun j hj => by rw [hc2 j (by omega), hget j hj]⟩
    · rw [hget j hj, List.getD_eq_getElem?_getD, List.getElem?_eq_getElem (show j < zs.length by omega)]
      exact i64_of (hwf _ (List.getElem_mem _))
theorem strs_opened {H : Type} {enc : TypeId × Value → H} {W : World} {fuel : Nat} {v : Value} {x : DataW H × List MemPlace} (hf : DataW.trod enc Tryz.prog W 0 (fun _ => true) true fuel 23 [v] = some x) :
    ∃ a n c l, v = .slice a n c ∧ St W a n l ∧ (∀ j, j < n → (l.getD j ByteArray.empty).size ≤ maxLen) ∧ n ≤ c ∧ c ≤ maxLen := by
  have hc : Tryz.prog.cellsOf 9 = 1 := by kernel_rfl
  rcases open_strings Tryz.underlying23 Tryz.underlying9 hc hf with ⟨hcs, _⟩ | ⟨a', n', c', zs, hcs, _, hle, hmax, hall, _, hcell, hwf⟩
  · simp at hcs
    exact ⟨none, 0, 0, [], hcs, St.nil _ _, fun j hj => by omega, Nat.le_refl _, by unfold maxLen; omega⟩
  · simp at hcs
    simp only [if_true] at hall
    have hget : ∀ j, j < n' → (zs.take n').getD j ByteArray.empty = zs.getD j ByteArray.empty := fun j hj => by simp [List.getD, List.getElem?_take_of_lt hj]
    refine ⟨some a', n', c', zs.take n', hcs, ⟨by simp; omega, fun hn => ?_⟩, fun j hj => ?_, hle, hmax⟩
    · obtain ⟨b, off, rfl, hc2⟩ := strings_at hcell (by omega)
      exact ⟨b, off, rfl, fun j hj => by rw [hc2 j (by omega), hget j hj]⟩
    · rw [hget j hj, List.getD_eq_getElem?_getD, List.getElem?_eq_getElem (show j < zs.length by omega)]
      exact hwf _ (List.getElem_mem _)
set_option maxRecDepth 100000 in
theorem ints_row {H : Type} {enc : TypeId × Value → H} {W : World} {r : Reach} {b0 : Nat} {v : Value} {dd : DataW H} {p : List MemPlace} (hv : Value.okWide Tryz.prog W r b0 22 v) (h : DataW.Trod enc Tryz.prog W 0 (fun _ => true) true 22 v dd p) :
    ∃ a n c l, v = .slice a n c ∧ Sl W a n l ∧ (∀ j, j < n → I64s (l.getD j 0)) ∧ n ≤ c ∧ c ≤ maxLen := by
  obtain ⟨a, n, c, rfl⟩ := okWide_slice Tryz.underlying22 hv
  obtain ⟨fuel, hf⟩ := h
  exact ints_opened hf
theorem maxLen_i64 : maxLen ≤ 9223372036854775807 := by unfold maxLen; omega
set_option maxRecDepth 100000 in
/-- A row's array. -/
theorem val_opened {H : Type} {enc : TypeId × Value → H} {W : World} {r : Reach} {b0 : Nat} {v : Value} {dd : DataW H} {p : List MemPlace} (hv : Value.okWide Tryz.prog W r b0 25 v) (h : DataW.Trod enc Tryz.prog W 0 (fun _ => true) true 25 v dd p) :
    ∃ a n c b m d l es, v = .agg #[.slice a n c, .slice b m d] ∧ Vl W a n b m l es ∧ Cp n c m d ∧ (∀ j, j < m → (es.getD j ByteArray.empty).size ≤ maxLen) := by
  obtain ⟨v0, v1, y0, y1, n, rfl, _, _, t0, t1⟩ := Go.Joins.open_agg2 Tryz.underlying25 (by kernel_rfl) (by kernel_rfl) hv h
  obtain ⟨a, k, c, l, rfl, hs, _, q1, q2⟩ := ints_opened t0
  obtain ⟨b, m, d, es, rfl, ht, hz, q3, q4⟩ := strs_opened t1
  exact ⟨a, k, c, b, m, d, l, es, rfl, ⟨hs, ht, Nat.le_trans (Nat.le_trans q3 q4) maxLen_i64⟩, ⟨q1, q2, q3, q4⟩, hz⟩
end Go.Proofs.YtlhbejeninjmoaaGreatDoor
/-
  Plain facts on lists of axes: their product, what Size tells of them, the places of offsets and the offsets of places. Nothing of any program.
-/
namespace Go.Proofs.YtlhbejeninjmoaaGreatDoor
set_option linter.unusedVariables false
set_option linter.unusedSimpArgs false

theorem mul_pos_int {a b : Int} (ha : 0 < a) (hb : 0 < b) : 0 < a * b := Int.mul_pos ha hb
/-- All axes multiplied. -/
def quo (l : List Int) (k : Int) (i : Nat) : Int := k / pr (l.drop i)
/-- The place on axis i. -/
def plc (l : List Int) (k : Int) (i : Nat) : Int := quo l k (i + 1) % l.getD i 0
def plL (l : List Int) (k : Int) : List Int := (List.range l.length).map (plc l k)
theorem plL_length (l : List Int) (k : Int) : (plL l k).length = l.length := by simp [plL]
theorem plL_get {l : List Int} {k : Int} {i : Nat} (h : i < l.length) : (plL l k).getD i 0 = plc l k i := by
  rw [List.getD_eq_getElem?_getD, List.getElem?_eq_getElem (by rw [plL_length]; exact h)]; simp [plL]
theorem quo_last (l : List Int) (k : Int) : quo l k l.length = k := by unfold quo; simp [pr]
theorem quo_step {l : List Int} {k : Int} {i : Nat} (h : i < l.length) (hp : 0 ≤ pr (l.drop (i + 1))) : quo l k (i + 1) / l.getD i 0 = quo l k i := by
  unfold quo
  rw [pr_drop h, Int.ediv_ediv_of_nonneg hp, Int.mul_comm]
/-- The offset, axis by axis, from the first one. -/
theorem inL_of {l t : List Int} {n : Nat} (h : ∀ i, i < n → 0 ≤ t.getD i 0 ∧ t.getD i 0 < l.getD i 0) : inL l t n = true := by
  induction n with
  | zero => rfl
  | succ n ih =>
    simp only [inL, Bool.and_eq_true, decide_eq_true_eq]
    exact ⟨ih fun i hi => h i (by omega), h n (by omega)⟩
theorem inL_not {l t : List Int} {n i : Nat} (hi : i < n) (h : t.getD i 0 < 0 ∨ l.getD i 0 ≤ t.getD i 0) : inL l t n = false := by
  rw [← Bool.not_eq_true]
  intro hh
  have := inL_at hh hi
  omega
/-- The offset stays below the axes multiplied. -/
theorem AllPos.drop_le {l : List Int} (h : AllPos l) (k : Nat) : Go.Proofs.YtlhbejeninjmoaaGreatDoor.pr (l.drop k) ≤ Go.Proofs.YtlhbejeninjmoaaGreatDoor.pr l := by
  have e : Go.Proofs.YtlhbejeninjmoaaGreatDoor.pr l = Go.Proofs.YtlhbejeninjmoaaGreatDoor.pr (l.take k) * Go.Proofs.YtlhbejeninjmoaaGreatDoor.pr (l.drop k) := by rw [← pr_append, List.take_append_drop]
  have h1 := h.take k
  have h2 := h.drop k
  have h3 : 1 * Go.Proofs.YtlhbejeninjmoaaGreatDoor.pr (l.drop k) ≤ Go.Proofs.YtlhbejeninjmoaaGreatDoor.pr (l.take k) * Go.Proofs.YtlhbejeninjmoaaGreatDoor.pr (l.drop k) := Int.mul_le_mul_of_nonneg_right (by omega) (by omega)
  omega
theorem AllPos.at_le {l : List Int} (h : AllPos l) {k : Nat} (hk : k < l.length) : l.getD k 0 ≤ Go.Proofs.YtlhbejeninjmoaaGreatDoor.pr l := by
  have h1 := h.drop_le k
  rw [pr_drop hk] at h1
  have h2 := h.drop (k + 1)
  have h3 := h.pos k hk
  have h4 : l.getD k 0 * 1 ≤ l.getD k 0 * Go.Proofs.YtlhbejeninjmoaaGreatDoor.pr (l.drop (k + 1)) := Int.mul_le_mul_of_nonneg_left (by omega) (by omega)
  omega
theorem plc_range {l : List Int} (h : AllPos l) (k : Int) {i : Nat} (hi : i < l.length) : 0 ≤ plc l k i ∧ plc l k i < l.getD i 0 :=
  ⟨Int.emod_nonneg _ (by have := h.pos i hi; omega), Int.emod_lt_of_pos _ (h.pos i hi)⟩
theorem quo_nonneg {l : List Int} (h : AllPos l) {k : Int} (hk : 0 ≤ k) (i : Nat) : 0 ≤ quo l k i := Int.ediv_nonneg hk (by have := h.drop i; omega)
theorem quo_le {l : List Int} (h : AllPos l) {k : Int} (hk : 0 ≤ k) (i : Nat) : quo l k i ≤ k := by
  have := h.drop i
  exact Int.ediv_le_self _ hk
theorem quo_first {l : List Int} {k : Int} (hk : 0 ≤ k) (hlt : k < pr l) : quo l k 0 = 0 := by unfold quo; rw [List.drop_zero]; exact Int.ediv_eq_zero_of_lt hk hlt
theorem quo_join {l : List Int} (h : AllPos l) (k : Int) {i : Nat} (hi : i < l.length) : quo l k i * l.getD i 0 + plc l k i = quo l k (i + 1) := by
  rw [← quo_step hi (Int.le_of_lt (h.drop _))]
  unfold plc
  have := Int.mul_ediv_add_emod (quo l k (i + 1)) (l.getD i 0)
  rw [Int.mul_comm] at this
  exact this
/-- There and back. -/
theorem hor_plL {l : List Int} (h : AllPos l) {k : Int} (hk : 0 ≤ k) (hlt : k < pr l) {i : Nat} (hi : i ≤ l.length) : hor l (plL l k) i = quo l k i := by
  induction i with
  | zero => rw [quo_first hk hlt]; rfl
  | succ i ih =>
    show hor l (plL l k) i * l.getD i 0 + (plL l k).getD i 0 = _
    rw [ih (by omega), plL_get (by omega), quo_join h k (by omega)]
theorem inL_plL {l : List Int} (h : AllPos l) (k : Int) : inL l (plL l k) l.length = true := inL_of fun i hi => by rw [plL_get hi]; exact plc_range h k hi
theorem back_plL {l : List Int} (hm : MayL l) {k : Int} (hk : 0 ≤ k) (hlt : k < pr l) : ofB l (plL l k) = true ∧ ofV l (plL l k) = k := by
  have h := hm.pos (by omega)
  have e : ofB l (plL l k) = true := by
    unfold ofB
    rw [inL_plL h k, szE_may.2 hm, plL_length]; simp
  refine ⟨e, ?_⟩
  unfold ofV
  rw [if_pos e, hor_plL h hk hlt (Nat.le_refl _), quo_last]
/-- Of two elements the one that is ahead on the first axis on which they are apart is ahead. -/
theorem quo_same {l : List Int} (h : AllPos l) {x y : Int} (hx : 0 ≤ x) (hy : 0 ≤ y) (hx2 : x < pr l) (hy2 : y < pr l) {i : Nat} (hi : i ≤ l.length) (he : ∀ j, j < i → plc l x j = plc l y j) : quo l x i = quo l y i := by
  induction i with
  | zero => rw [quo_first hx hx2, quo_first hy hy2]
  | succ i ih =>
    rw [← quo_join h x (by omega), ← quo_join h y (by omega), ih (by omega) (fun j hj => he j (by omega)), he i (by omega)]
theorem plc_rises {l : List Int} (h : AllPos l) {x y : Int} (hx : 0 ≤ x) (hy : 0 ≤ y) (hx2 : x < pr l) (hy2 : y < pr l) {i : Nat} (hi : i < l.length) (he : ∀ j, j < i → plc l x j = plc l y j) (hne : plc l x i ≠ plc l y i) : plc l x i < plc l y i ↔ x < y := by
  have e := quo_same h hx hy hx2 hy2 (by omega) he
  have e1 := quo_join h x hi
  have e2 := quo_join h y hi
  rw [e] at e1
  generalize quo l y i * l.getD i 0 = z at e1 e2
  have hD := h.drop (i + 1)
  constructor
  · intro hlt
    rcases Int.lt_or_le x y with h1 | h1
    · exact h1
    · have : quo l y (i + 1) ≤ quo l x (i + 1) := Int.ediv_le_ediv hD h1
      omega
  · intro hlt
    have : quo l x (i + 1) ≤ quo l y (i + 1) := Int.ediv_le_ediv hD (by omega)
    omega
theorem plc_same {l : List Int} (h : AllPos l) {x y : Int} (hx : 0 ≤ x) (hy : 0 ≤ y) (hx2 : x < pr l) (hy2 : y < pr l) (he : ∀ j, j < l.length → plc l x j = plc l y j) : x = y := by
  have := quo_same h hx hy hx2 hy2 (Nat.le_refl _) he
  rwa [quo_last, quo_last] at this
/-- The document's way: each place times what is behind its axis. -/
def sum (l t : List Int) : Nat → Int
  | 0 => 0
  | i + 1 => sum l t i + t.getD i 0 * pr (l.drop (i + 1))
theorem sum_hor {l t : List Int} {i : Nat} (hi : i ≤ l.length) : sum l t i = hor l t i * pr (l.drop i) := by
  induction i with
  | zero => simp [sum, hor]
  | succ i ih =>
    show sum l t i + t.getD i 0 * pr (l.drop (i + 1)) = (hor l t i * l.getD i 0 + t.getD i 0) * pr (l.drop (i + 1))
    rw [ih (by omega), pr_drop (by omega), Int.add_mul, Int.mul_assoc]
theorem sum_all (l t : List Int) : sum l t l.length = hor l t l.length := by rw [sum_hor (Nat.le_refl _)]; simp [pr]
end Go.Proofs.YtlhbejeninjmoaaGreatDoor

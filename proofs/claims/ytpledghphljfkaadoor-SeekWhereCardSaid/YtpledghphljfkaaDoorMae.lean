import Derived.Test.YtpledghphljfkaaDoorMad
import Derived.Deep.AppendLies
import Derived.Test.YtpledghphljfkaaDoorMac
import Derived.Lib.SmallJoins
import Derived.SliceStrings
import Derived.ProofKit
import Derived.Carry
import Derived.OpenShut
import Derived.WalkKit
/-
  Slices of strings as lists, arrays as two slices, and a box with an array in it; whether two slices of strings are the same; the plain facts on arrays that the layer's contracts speak of.
-/
namespace Go.Proofs.YtpledghphljfkaaDoor
set_option linter.unusedVariables false
set_option linter.unusedSimpArgs false
open Go.RowKit

/-- A slice of strings, read. -/
def St (W : World) (a : Option Addr) (n : Nat) (l : List ByteArray) : Prop :=
  l.length = n ∧ (0 < n → ∃ b off, a = some ⟨b, off, none⟩ ∧ ∀ j, j < n → W.cell? ⟨b, off + j, none⟩ = some (.string (l.getD j ByteArray.empty)))
theorem St.below {W W' : World} {a : Option Addr} {n : Nat} {l : List ByteArray} (h : St W a n l) (hb : Below W.heap.size W W') : St W' a n l := by
  refine ⟨h.1, fun hn => ?_⟩
  obtain ⟨b, off, e, hc⟩ := h.2 hn
  exact ⟨b, off, e, fun j hj => (hb.cell (show (⟨b, off + j, none⟩ : Addr).block < W.heap.size from World.block_lt_of_cell? W _ (hc j hj))).trans (hc j hj)⟩
theorem St.nil (W : World) (a : Option Addr) : St W a 0 [] := ⟨rfl, fun h => by omega⟩
/-- An array, read: its two slices. -/
structure Vl (W : World) (a : Option Addr) (n : Nat) (b : Option Addr) (m : Nat) (l : List Int) (es : List ByteArray) : Prop where
  s : Sl W a n l
  t : St W b m es
  mm : m ≤ 9223372036854775807
/-- What an array that came in has besides: its slices' capacities. -/
structure Cp (n c m d : Nat) : Prop where
  nc : n ≤ c
  cm : c ≤ maxLen
  md : m ≤ d
  dm : d ≤ maxLen
section
variable {W W' : World} {a b : Option Addr} {g n c m d : Nat} {l : List Int} {es : List ByteArray}
theorem Vl.below (h : Vl W a n b m l es) (hb : Below W.heap.size W W') : Vl W' a n b m l es := ⟨h.s.below hb, h.t.below hb, h.mm⟩
theorem Vl.none_ (W : World) : Vl W none 0 none 0 [] [] := ⟨Sl.nil _ _, St.nil _ _, by omega⟩
/-- A block with an array in it. -/
def Bx (W : World) (g : Nat) (a : Option Addr) (n c : Nat) (b : Option Addr) (m d : Nat) : Prop := W.heap[g]? = some (.cells #[.slice a n c, .slice b m d] 25 (0, 0))
theorem Bx.lt (h : Bx W g a n c b m d) : g < W.heap.size := (Array.getElem?_eq_some_iff.1 h).1
theorem Bx.c0 (h : Bx W g a n c b m d) : W.cell? ⟨g, 0, none⟩ = some (.slice a n c) := by rw [cell_of_row _ _ 0 _ _ _ h]; rfl
theorem Bx.c1 (h : Bx W g a n c b m d) : W.cell? ⟨g, 1, none⟩ = some (.slice b m d) := by rw [cell_of_row _ _ 1 _ _ _ h]; rfl
theorem Bx.f (h : Bx W g a n c b m d) (i : Nat) : W.frozen? ⟨g, i, none⟩ = false := frozen_of_row _ _ i _ _ h
theorem Bx.below (h : Bx W g a n c b m d) {B : Nat} (hb : Below B W W') (hg : g < B) : Bx W' g a n c b m d := (hb.block g hg).trans h
theorem Bx.alloc (h : Bx W g a n c b m d) (o : Obj) : Bx (W.alloc o) g a n c b m d := (Below.heap_alloc W o g h.lt).trans h
theorem Bx.new (W : World) (a : Option Addr) (n c : Nat) (b : Option Addr) (m d : Nat) : Bx (W.alloc (.cells #[.slice a n c, .slice b m d] 25)) W.heap.size a n c b m d := heap_alloc_new W _
theorem Bx.set (h : Bx W g a n c b m d) (a' : Option Addr) (n' c' : Nat) (b' : Option Addr) (m' d' : Nat) : Bx ((W.setCell ⟨g, 0, none⟩ (.slice a' n' c')).setCell ⟨g, 1, none⟩ (.slice b' m' d')) g a' n' c' b' m' d' := by
  unfold Bx at h ⊢
  simp [World.setCell, Array.getElem?_modify, h]
theorem Bx.grown (h : Bx W g a n c b m d) {g' : Nat} (hb : W.grownBy W' (some g')) (hne : g ≠ g') : Bx W' g a n c b m d := (hb.block g h.lt (by intro e; injection e with e; exact hne e)).trans h
theorem Bx.setOther (h : Bx W g a n c b m d) {p : Addr} (hp : g ≠ p.block) (u : Value) : Bx (W.setCell p u) g a n c b m d := (Below.heap_setCell W p u g hp).trans h
/-- What is no slice doesn't lie in a box: it stays, whatever is put there. -/
theorem Bx.cell_far (h : Bx W g a n c b m d) {p : Addr} {x : Value} (hp : W.cell? p = some x) (hx : ∀ a n c, x ≠ .slice a n c) (u v : Value) : ((W.setCell ⟨g, 0, none⟩ u).setCell ⟨g, 1, none⟩ v).cell? p = some x := by
  have p0 : p ≠ ⟨g, 0, none⟩ := by
    rintro rfl
    rw [h.c0] at hp
    injection hp with hp
    exact hx _ _ _ hp.symm
  have p1 : p ≠ ⟨g, 1, none⟩ := by
    rintro rfl
    rw [h.c1] at hp
    injection hp with hp
    exact hx _ _ _ hp.symm
  rw [World.cell?_setCell_other _ _ _ _ p1.symm, World.cell?_setCell_other _ _ _ _ p0.symm, hp]
theorem Bx.sl (h : Bx W g a n c b m d) {a' : Option Addr} {n' : Nat} (hs : Sl W a' n' l) (u v : Value) : Sl ((W.setCell ⟨g, 0, none⟩ u).setCell ⟨g, 1, none⟩ v) a' n' l := by
  refine ⟨hs.1, fun hn => ?_⟩
  obtain ⟨bb, off, e, hc⟩ := hs.2 hn
  exact ⟨bb, off, e, fun j hj => h.cell_far (hc j hj) (by intro _ _ _ hh; cases hh) u v⟩
theorem Bx.st (h : Bx W g a n c b m d) {a' : Option Addr} {n' : Nat} (hs : St W a' n' es) (u v : Value) : St ((W.setCell ⟨g, 0, none⟩ u).setCell ⟨g, 1, none⟩ v) a' n' es := by
  refine ⟨hs.1, fun hn => ?_⟩
  obtain ⟨bb, off, e, hc⟩ := hs.2 hn
  exact ⟨bb, off, e, fun j hj => h.cell_far (hc j hj) (by intro _ _ _ hh; cases hh) u v⟩
/-- A box made, and filled: nothing that was there has turned. -/
theorem below_made {B : Nat} (hb : Below B W W') (hg : B ≤ g) (u v : Value) : Below B W ((W'.setCell ⟨g, 0, none⟩ u).setCell ⟨g, 1, none⟩ v) := (hb.setCell hg u).setCell hg v
end

/-- Two slices of strings: whether they are the same. -/
theorem EqualS_is (a1 a2 : Option Addr) (n c m d : Nat) (l k : List ByteArray) (W : World) (h1 : St W a1 n l) (h2 : St W a2 m k) (hn : n ≤ 9223372036854775807) (hm : m ≤ 9223372036854775807) :
    Calls Tryd.prog 30 #[.slice a1 n c, .slice a2 m d] W fun x W' => x = .returned (.bool (decide (l = k))) ∧ Below W.heap.size W W' := by
  by_cases hnm : n = m
  · subst hnm
    by_cases h0 : n = 0
    · subst h0
      have e1 := List.length_eq_zero_iff.1 h1.1
      have e2 := List.length_eq_zero_iff.1 h2.1
      subst e1 e2
      refine (Tryd.slices_Equal_string_empty a1 a2 c 0 d W (by decide)).mono ?_
      rintro x w ⟨rfl, rfl⟩
      exact ⟨rfl, Below.refl _ _⟩
    · obtain ⟨b1, o1, rfl, hc1⟩ := h1.2 (by omega)
      obtain ⟨b2, o2, rfl, hc2⟩ := h2.2 (by omega)
      refine (Tryd.slices_Equal_string b1 o1 n c b2 o2 n d l k W (by rw [h1.1]; exact Nat.le_refl _) (by rw [h2.1]; exact Nat.le_refl _) hn hm (fun j hj => hc1 j (by rw [← h1.1]; exact hj)) (fun j hj => hc2 j (by rw [← h2.1]; exact hj))).mono ?_
      rintro x w ⟨rfl, q, rfl⟩
      refine ⟨?_, ⟨rfl, rfl, rfl, Nat.le_refl _, fun _ _ => rfl⟩⟩
      rw [List.take_of_length_le (by rw [h1.1]; exact Nat.le_refl _), List.take_of_length_le (by rw [h2.1]; exact Nat.le_refl _)]
  · refine (Tryd.slices_Equal_string_lens a1 a2 n c m d W hnm).mono ?_
    rintro x w ⟨rfl, rfl⟩
    refine ⟨?_, Below.refl _ _⟩
    have : decide (l = k) = false := decide_eq_false (by rintro rfl; exact hnm (h1.1.symm.trans h2.1))
    rw [this]

/-! ### Plain facts -/
/-- What may be, as an array. -/
def mayV (l : List Int) (es : List ByteArray) : Bool := decide (szE l = 0) && decide ((es.length : Int) = szV l) && es.all fun s => mayL s.data.toList
structure MayVl (l : List Int) (es : List ByteArray) : Prop where
  e : szE l = 0
  len : (es.length : Int) = pr l
  all : ∀ j, j < es.length → mayL (es.getD j ByteArray.empty).data.toList = true
theorem all_at {p : ByteArray → Bool} {es : List ByteArray} : es.all p = true ↔ ∀ j, j < es.length → p (es.getD j ByteArray.empty) = true := by
  rw [List.all_eq_true]
  constructor
  · intro h j hj
    rw [List.getD_eq_getElem?_getD, List.getElem?_eq_getElem hj]
    exact h _ (List.getElem_mem hj)
  · intro h x hx
    obtain ⟨j, hj, rfl⟩ := List.getElem_of_mem hx
    have := h j hj
    rwa [List.getD_eq_getElem?_getD, List.getElem?_eq_getElem hj] at this
theorem mayV_yes {l : List Int} {es : List ByteArray} : mayV l es = true ↔ MayVl l es := by
  unfold mayV
  rw [Bool.and_eq_true, Bool.and_eq_true, decide_eq_true_eq, decide_eq_true_eq, all_at]
  constructor
  · rintro ⟨⟨h1, h2⟩, h3⟩
    exact ⟨h1, by rw [h2, szV_pr h1], h3⟩
  · rintro ⟨h1, h2, h3⟩
    exact ⟨⟨h1, by rw [h2, szV_pr h1]⟩, h3⟩
theorem mayV_e {l : List Int} {es : List ByteArray} (h : szE l ≠ 0) : mayV l es = false := by
  unfold mayV; rw [decide_eq_false h]; rfl
theorem mayV_len {l : List Int} {es : List ByteArray} (h : (es.length : Int) ≠ szV l) : mayV l es = false := by
  unfold mayV; rw [decide_eq_false h, Bool.and_false]; rfl
theorem mayV_at {l : List Int} {es : List ByteArray} {j : Nat} (hj : j < es.length) (h : mayL (es.getD j ByteArray.empty).data.toList = false) : mayV l es = false := by
  rw [← Bool.not_eq_true]
  intro hh
  rw [(mayV_yes.1 hh).all j hj] at h
  cases h
/-- Not too many, nor too long. -/
def fewB (l : List Int) (es : List ByteArray) : Bool := (es.take 301).all (fun s => decide (s.size ≤ 120)) && (decide (es.length ≤ 300) && decide (l.length ≤ 20))
theorem fewB_yes {l : List Int} {es : List ByteArray} (h : fewB l es = true) : l.length ≤ 20 ∧ es.length ≤ 300 ∧ ∀ j, j < es.length → (es.getD j ByteArray.empty).size ≤ 120 := by
  unfold fewB at h
  rw [Bool.and_eq_true, Bool.and_eq_true, decide_eq_true_eq, decide_eq_true_eq, all_at] at h
  obtain ⟨h1, h2, h3⟩ := h
  refine ⟨h3, h2, fun j hj => ?_⟩
  have := h1 j (by rw [List.length_take]; omega)
  rw [List.getD_eq_getElem?_getD, List.getElem?_take_of_lt (by omega), ← List.getD_eq_getElem?_getD] at this
  simpa using this
theorem fewB_at {l : List Int} {es : List ByteArray} {j : Nat} (hj : j < es.length) (h3 : j < 301) (h : 120 < (es.getD j ByteArray.empty).size) : fewB l es = false := by
  have e : (es.take 301).all (fun s => decide (s.size ≤ 120)) = false := by
    rw [← Bool.not_eq_true]
    intro hh
    have := all_at.1 hh j (by rw [List.length_take]; omega)
    rw [List.getD_eq_getElem?_getD, List.getElem?_take_of_lt h3, ← List.getD_eq_getElem?_getD] at this
    have := of_decide_eq_true this
    omega
  unfold fewB
  rw [e]; rfl
theorem fewB_all {l : List Int} {es : List ByteArray} (h : ∀ j, j < es.length → j < 301 → (es.getD j ByteArray.empty).size ≤ 120) : fewB l es = (decide (es.length ≤ 300) && decide (l.length ≤ 20)) := by
  have e : (es.take 301).all (fun s => decide (s.size ≤ 120)) = true := by
    rw [all_at]
    intro j hj
    rw [List.length_take] at hj
    rw [List.getD_eq_getElem?_getD, List.getElem?_take_of_lt (by omega), ← List.getD_eq_getElem?_getD]
    exact decide_eq_true (h j (by omega) (by omega))
  unfold fewB
  rw [e]; rfl
/-- An item's elements. -/
def part (es : List ByteArray) (k i : Nat) : List ByteArray := (es.drop (i * k)).take k
theorem part_length {es : List ByteArray} {k i : Nat} (h : (i + 1) * k ≤ es.length) : (part es k i).length = k := by
  unfold part
  rw [Nat.add_mul, Nat.one_mul] at h
  rw [List.length_take, List.length_drop]; omega
theorem part_get {es : List ByteArray} {k i j : Nat} (hj : j < k) : (part es k i).getD j ByteArray.empty = es.getD (i * k + j) ByteArray.empty := by
  unfold part
  simp only [List.getD_eq_getElem?_getD, List.getElem?_take_of_lt hj, List.getElem?_drop]
theorem part_take {es : List ByteArray} {k i : Nat} : es.take (i * k) ++ part es k i = es.take ((i + 1) * k) := by
  unfold part
  rw [Nat.add_mul, Nat.one_mul, List.take_add]
end Go.Proofs.YtpledghphljfkaaDoor
/-
  What a row's arrays are, opened.
-/
namespace Go.Proofs.YtpledghphljfkaaDoor
set_option linter.unusedVariables false
set_option linter.unusedSimpArgs false
open Go.ChangeShapes Go.WideShapes Go.ChangeAt Go.RowKit

theorem laidOut : laidOutB Tryd.prog = true := by kernel_rfl
theorem strings_at {w : World} {a : Addr} {ss : List ByteArray} (h : ∀ i, i < ss.length → w.cell? (a.add i) = some (.string (ss.getD i ByteArray.empty))) (hp : 0 < ss.length) :
    ∃ b off, a = ⟨b, off, none⟩ ∧ ∀ j, j < ss.length → w.cell? ⟨b, off + j, none⟩ = some (.string (ss.getD j ByteArray.empty)) := by
  obtain ⟨b, off, spot⟩ := a
  have hspot : spot = none := by simpa [Addr.add] using World.cell?_spot (h 0 hp)
  subst hspot
  exact ⟨b, off, rfl, fun j hj => by rw [← Go.WideShapes.add_plain]; exact h j hj⟩
theorem i64_of {x : Int} (h : (Lit.int .i64 x).wf = true) : I64 x := by
  have h1 : IntKind.i64.min = -9223372036854775808 := rfl
  have h2 : IntKind.i64.max = 9223372036854775807 := rfl
  simp only [Lit.wf, Bool.and_eq_true, decide_eq_true_eq] at h
  unfold I64
  omega
theorem u8_of {x : Int} (h : (Lit.int .u8 x).wf = true) : 0 ≤ x ∧ x ≤ 255 := by
  have h1 : IntKind.u8.min = 0 := rfl
  have h2 : IntKind.u8.max = 255 := rfl
  simp only [Lit.wf, Bool.and_eq_true, decide_eq_true_eq] at h
  omega
theorem u16_of {x : Int} (h : (Lit.int .u16 x).wf = true) : 0 ≤ x ∧ x ≤ 65535 := by
  have h1 : IntKind.u16.min = 0 := rfl
  have h2 : IntKind.u16.max = 65535 := rfl
  simp only [Lit.wf, Bool.and_eq_true, decide_eq_true_eq] at h
  omega
theorem ints_opened {H : Type} {enc : TypeId × Value → H} {W : World} {fuel : Nat} {v : Value} {x : DataW H × List MemPlace} (hf : DataW.trod enc Tryd.prog W 0 (fun _ => true) true fuel 22 [v] = some x) :
    ∃ a n c l, v = .slice a n c ∧ Sl W a n l ∧ (∀ j, j < n → I64 (l.getD j 0)) ∧ n ≤ c ∧ c ≤ maxLen := by
  have hc : Tryd.prog.cellsOf 3 = 1 := by kernel_rfl
  rcases open_ints Tryd.underlying22 Tryd.underlying3 hc hf with ⟨hcs, _⟩ | ⟨a', n', c', zs, hcs, _, hle, hmax, hall, _, hcell, hwf⟩
  · simp at hcs
    exact ⟨none, 0, 0, [], hcs, Sl.nil _ _, fun j hj => by omega, Nat.le_refl _, by unfold maxLen; omega⟩
  · simp at hcs
    simp only [if_true] at hall
    have hget : ∀ j, j < n' → (zs.take n').getD j 0 = zs.getD j 0 := fun j hj => by simp [List.getD, List.getElem?_take_of_lt hj]
    refine ⟨some a', n', c', zs.take n', hcs, ⟨by simp; omega, fun hn => ?_⟩, fun j hj => ?_, hle, hmax⟩
    · obtain ⟨b, off, rfl, hc2⟩ := ints_at hcell (by omega)
      exact ⟨b, off, rfl, fun j hj => by rw [hc2 j (by omega), hget j hj]⟩
    · rw [hget j hj, List.getD_eq_getElem?_getD, List.getElem?_eq_getElem (show j < zs.length by omega)]
      exact i64_of (hwf _ (List.getElem_mem _))
theorem strs_opened {H : Type} {enc : TypeId × Value → H} {W : World} {fuel : Nat} {v : Value} {x : DataW H × List MemPlace} (hf : DataW.trod enc Tryd.prog W 0 (fun _ => true) true fuel 23 [v] = some x) :
    ∃ a n c l, v = .slice a n c ∧ St W a n l ∧ (∀ j, j < n → (l.getD j ByteArray.empty).size ≤ maxLen) ∧ n ≤ c ∧ c ≤ maxLen := by
  have hc : Tryd.prog.cellsOf 9 = 1 := by kernel_rfl
  rcases open_strings Tryd.underlying23 Tryd.underlying9 hc hf with ⟨hcs, _⟩ | ⟨a', n', c', zs, hcs, _, hle, hmax, hall, _, hcell, hwf⟩
  · simp at hcs
    exact ⟨none, 0, 0, [], hcs, St.nil _ _, fun j hj => by omega, Nat.le_refl _, by unfold maxLen; omega⟩
  · simp at hcs
    simp only [if_true] at hall
    have hget : ∀ j, j < n' → (zs.take n').getD j ByteArray.empty = zs.getD j ByteArray.empty := fun j hj => by simp [List.getD, List.getElem?_take_of_lt hj]
    refine ⟨some a', n', c', zs.take n', hcs, ⟨by simp; omega, fun hn => ?_⟩, fun j hj => ?_, hle, hmax⟩
    · obtain ⟨b, off, rfl, hc2⟩ := strings_at hcell (by omega)
      exact ⟨b, off, rfl, fun j hj => by rw [hc2 j (by omega), hget j hj]⟩
    · rw [hget j hj, List.getD_eq_getElem?_getD, List.getElem?_eq_getElem (show j < zs.length by omega)]
      exact hwf _ (List.getElem_mem _)
set_option maxRecDepth 100000 in
theorem ints_row {H : Type} {enc : TypeId × Value → H} {W : World} {r : Reach} {b0 : Nat} {v : Value} {dd : DataW H} {p : List MemPlace} (hv : Value.okWide Tryd.prog W r b0 22 v) (h : DataW.Trod enc Tryd.prog W 0 (fun _ => true) true 22 v dd p) :
    ∃ a n c l, v = .slice a n c ∧ Sl W a n l ∧ (∀ j, j < n → I64 (l.getD j 0)) ∧ n ≤ c ∧ c ≤ maxLen := by
  obtain ⟨a, n, c, rfl⟩ := okWide_slice Tryd.underlying22 hv
  obtain ⟨fuel, hf⟩ := h
  exact ints_opened hf
theorem maxLen_i64 : maxLen ≤ 9223372036854775807 := by unfold maxLen; omega
set_option maxRecDepth 100000 in
/-- A row's array. -/
theorem val_opened {H : Type} {enc : TypeId × Value → H} {W : World} {r : Reach} {b0 : Nat} {v : Value} {dd : DataW H} {p : List MemPlace} (hv : Value.okWide Tryd.prog W r b0 25 v) (h : DataW.Trod enc Tryd.prog W 0 (fun _ => true) true 25 v dd p) :
    ∃ a n c b m d l es, v = .agg #[.slice a n c, .slice b m d] ∧ Vl W a n b m l es ∧ Cp n c m d ∧ (∀ j, j < m → (es.getD j ByteArray.empty).size ≤ maxLen) := by
  obtain ⟨v0, v1, y0, y1, n, rfl, _, _, t0, t1⟩ := Go.Joins.open_agg2 Tryd.underlying25 (by kernel_rfl) (by kernel_rfl) hv h
  obtain ⟨a, k, c, l, rfl, hs, _, q1, q2⟩ := ints_opened t0
  obtain ⟨b, m, d, es, rfl, ht, hz, q3, q4⟩ := strs_opened t1
  exact ⟨a, k, c, b, m, d, l, es, rfl, ⟨hs, ht, Nat.le_trans (Nat.le_trans q3 q4) maxLen_i64⟩, ⟨q1, q2, q3, q4⟩, hz⟩
end Go.Proofs.YtpledghphljfkaaDoor
/-
  Places by their elements: one order, alike ones by place; a heap of places (as the library sifts it up and down), and what comes out of it; two lists in this order with the same places are the same.
-/
namespace Go.Proofs.YtpledghphljfkaaDoor
set_option linter.unusedVariables false
set_option linter.unusedSimpArgs false

/-- Place x comes ahead of place y. -/
def Lf (f : Nat → Int) (x y : Nat) : Prop := f x < f y ∨ (f x = f y ∧ x < y)
theorem Lf.irr {f : Nat → Int} {x : Nat} : ¬ Lf f x x := by unfold Lf; omega
theorem Lf.trans {f : Nat → Int} {x y z : Nat} (h : Lf f x y) (g : Lf f y z) : Lf f x z := by unfold Lf at *; omega
theorem Lf.tri {f : Nat → Int} {x y : Nat} (h : ¬ Lf f x y) : x = y ∨ Lf f y x := by unfold Lf at *; omega
theorem Lf.asym {f : Nat → Int} {x y : Nat} (h : Lf f x y) : ¬ Lf f y x := by unfold Lf at *; omega
theorem Lf.low {f : Nat → Int} {x y z : Nat} (h : ¬ Lf f y x) (g : ¬ Lf f z y) : ¬ Lf f z x := by unfold Lf at *; omega
/-! ### A heap -/
/-- Two slots with each other's places. -/
def swp (a : Nat → Nat) (i j : Nat) : Nat → Nat := fun k => if k = i then a j else if k = j then a i else a k
theorem swp_l {a : Nat → Nat} {i j : Nat} : swp a i j i = a j := if_pos rfl
theorem swp_r {a : Nat → Nat} {i j : Nat} : swp a i j j = a i := by
  unfold swp
  by_cases h : j = i
  · rw [if_pos h, h]
  · rw [if_neg h, if_pos rfl]
theorem swp_o {a : Nat → Nat} {i j k : Nat} (h1 : k ≠ i) (h2 : k ≠ j) : swp a i j k = a k := by unfold swp; rw [if_neg h1, if_neg h2]
/-- What stands in the first n slots, and no place twice. -/
def Con (a : Nat → Nat) (n : Nat) (v : Nat) : Prop := ∃ k, k < n ∧ a k = v
def Inj (a : Nat → Nat) (n : Nat) : Prop := ∀ i j, i < n → j < n → a i = a j → i = j
theorem Con.swp {a : Nat → Nat} {n i j v : Nat} (hi : i < n) (hj : j < n) : Con (swp a i j) n v ↔ Con a n v := by
  constructor
  · rintro ⟨k, hk, e⟩
    by_cases h1 : k = i
    · subst h1; rw [swp_l] at e; exact ⟨j, hj, e⟩
    · by_cases h2 : k = j
      · subst h2; rw [swp_r] at e; exact ⟨i, hi, e⟩
      · rw [swp_o h1 h2] at e; exact ⟨k, hk, e⟩
  · rintro ⟨k, hk, e⟩
    by_cases h1 : k = i
    · subst h1; exact ⟨j, hj, by rw [swp_r]; exact e⟩
    · by_cases h2 : k = j
      · subst h2; exact ⟨i, hi, by rw [swp_l]; exact e⟩
      · exact ⟨k, hk, by rw [swp_o h1 h2]; exact e⟩
theorem Inj.swp {a : Nat → Nat} {n i j : Nat} (h : Inj a n) (hi : i < n) (hj : j < n) : Inj (swp a i j) n := by
  intro x y hx hy e
  have g : ∀ z, z < n → ∃ q, q < n ∧ Go.Proofs.YtpledghphljfkaaDoor.swp a i j z = a q ∧ ((z = i ∧ q = j) ∨ (z ≠ i ∧ z = j ∧ q = i) ∨ (z ≠ i ∧ z ≠ j ∧ q = z)) := by
    intro z hz
    by_cases h1 : z = i
    · subst h1; exact ⟨j, hj, swp_l, .inl ⟨rfl, rfl⟩⟩
    · by_cases h2 : z = j
      · subst h2; exact ⟨i, hi, swp_r, .inr (.inl ⟨h1, rfl, rfl⟩)⟩
      · exact ⟨z, hz, swp_o h1 h2, .inr (.inr ⟨h1, h2, rfl⟩)⟩
  obtain ⟨p, hp, e1, c1⟩ := g x hx
  obtain ⟨q, hq, e2, c2⟩ := g y hy
  rw [e1, e2] at e
  have := h _ _ hp hq e
  omega
/-- Each slot from i0's first one below on is not ahead of the one above it. -/
def HP (f : Nat → Int) (a : Nat → Nat) (n i0 : Nat) : Prop := ∀ m, m < n → 0 < m → i0 ≤ (m - 1) / 2 → ¬ Lf f (a m) (a ((m - 1) / 2))
/-- While slot i is sifted down, from i0 on. -/
structure Dn (f : Nat → Int) (a : Nat → Nat) (n i0 i : Nat) : Prop where
  le : i0 ≤ i
  at_ : ∀ m, m < n → 0 < m → i0 ≤ (m - 1) / 2 → (m - 1) / 2 ≠ i → ¬ Lf f (a m) (a ((m - 1) / 2))
  up : i0 < i → i0 ≤ (i - 1) / 2 ∧ ∀ m, m < n → 0 < m → (m - 1) / 2 = i → ¬ Lf f (a m) (a ((i - 1) / 2))
theorem Dn.start {f : Nat → Int} {a : Nat → Nat} {n i : Nat} (h : HP f a n (i + 1)) : Dn f a n i i :=
  ⟨Nat.le_refl _, fun m h1 h2 h3 h4 => h m h1 h2 (by omega), fun h => by omega⟩
theorem Dn.step {f : Nat → Int} {a : Nat → Nat} {n i0 i j : Nat} (h : Dn f a n i0 i) (hj : j = 2 * i + 1 ∨ j = 2 * i + 2) (hn : j < n) (hl : Lf f (a j) (a i)) (hs : ∀ m, m < n → 0 < m → (m - 1) / 2 = i → ¬ Lf f (a m) (a j)) : Dn f (swp a i j) n i0 j := by
  have hle := h.le
  have hij : i ≠ j := by omega
  have hp : (j - 1) / 2 = i := by omega
  refine ⟨by omega, ?_, ?_⟩
  · intro m h1 h2 h3 h4
    by_cases e1 : m = j
    · subst e1
      rw [hp, swp_r, swp_l]
      exact hl.asym
    · by_cases e2 : (m - 1) / 2 = i
      · rw [e2, swp_o (by omega) e1, swp_l]
        exact hs m h1 h2 e2
      · by_cases e3 : m = i
        · subst e3
          obtain ⟨_, g2⟩ := h.up (by omega)
          rw [swp_l, swp_o (by omega) (by omega)]
          exact g2 j hn (by omega) hp
        · rw [swp_o e3 e1, swp_o e2 h4]
          exact h.at_ m h1 h2 h3 e2
  · intro _
    rw [hp]
    refine ⟨by omega, ?_⟩
    intro m h1 h2 h3
    rw [swp_l, swp_o (by omega) (by omega)]
    have g := h.at_ m h1 h2 (by omega) (by omega)
    rw [h3] at g
    exact g
theorem Dn.ends {f : Nat → Int} {a : Nat → Nat} {n i0 i : Nat} (h : Dn f a n i0 i) (he : ∀ m, m < n → 0 < m → (m - 1) / 2 = i → ¬ Lf f (a m) (a i)) : HP f a n i0 := by
  intro m h1 h2 h3
  by_cases e : (m - 1) / 2 = i
  · rw [e]; exact he m h1 h2 e
  · exact h.at_ m h1 h2 h3 e
/-- While slot j is sifted up. -/
structure Un (f : Nat → Int) (a : Nat → Nat) (n j : Nat) : Prop where
  at_ : ∀ m, m < n → 0 < m → m ≠ j → ¬ Lf f (a m) (a ((m - 1) / 2))
  up : ∀ m, m < n → 0 < m → 0 < j → (m - 1) / 2 = j → ¬ Lf f (a m) (a ((j - 1) / 2))
theorem Un.step {f : Nat → Int} {a : Nat → Nat} {n j : Nat} (h : Un f a n j) (hj : 0 < j) (hn : j < n) (hl : Lf f (a j) (a ((j - 1) / 2))) : Un f (swp a ((j - 1) / 2) j) n ((j - 1) / 2) := by
  obtain ⟨i, hi⟩ : ∃ i, i = (j - 1) / 2 := ⟨_, rfl⟩
  rw [← hi] at hl ⊢
  have hij : i ≠ j := by omega
  refine ⟨?_, ?_⟩
  · intro m h1 h2 h3
    by_cases e1 : m = j
    · subst e1
      rw [← hi, swp_r, swp_l]
      exact hl.asym
    · by_cases e2 : (m - 1) / 2 = i
      · rw [e2, swp_o h3 e1, swp_l]
        have g := h.at_ m h1 h2 e1
        rw [e2] at g
        exact Lf.low hl.asym g
      · by_cases e3 : (m - 1) / 2 = j
        · rw [e3, swp_r, swp_o h3 e1]
          have g := h.up m h1 h2 hj e3
          rw [← hi] at g
          exact g
        · rw [swp_o h3 e1, swp_o e2 e3]
          exact h.at_ m h1 h2 e1
  · intro m h1 h2 h3 h4
    have gi := h.at_ i (by omega) h3 hij
    by_cases e1 : m = j
    · subst e1
      rw [swp_r, swp_o (by omega) (by omega)]
      exact gi
    · rw [swp_o (by omega) e1, swp_o (by omega) (by omega)]
      have g := h.at_ m h1 h2 e1
      rw [h4] at g
      exact Lf.low gi g
theorem Un.ends {f : Nat → Int} {a : Nat → Nat} {n j : Nat} (h : Un f a n j) (he : 0 < j → ¬ Lf f (a j) (a ((j - 1) / 2))) : HP f a n 0 := by
  intro m h1 h2 _
  by_cases e : m = j
  · subst e; exact he h2
  · exact h.at_ m h1 h2 e
/-- One more, in the last slot. -/
theorem Un.start {f : Nat → Int} {a b : Nat → Nat} {n : Nat} (h : HP f a n 0) (hb : ∀ k, k < n → b k = a k) : Un f b (n + 1) n := by
  refine ⟨?_, fun m h1 h2 h3 h4 => by omega⟩
  intro m h1 h2 h3
  rw [hb m (by omega), hb _ (by omega)]
  exact h m (by omega) h2 (Nat.zero_le _)
/-- The first slot's place is ahead of all. -/
theorem HP.least {f : Nat → Int} {a : Nat → Nat} {n : Nat} (h : HP f a n 0) : ∀ m, m < n → ¬ Lf f (a m) (a 0) := by
  intro m
  induction m using Nat.strongRecOn with
  | ind m ih =>
    intro hm
    by_cases h0 : m = 0
    · subst h0; exact Lf.irr
    · exact Lf.low (ih ((m - 1) / 2) (by omega) (by omega)) (h m hm (by omega) (Nat.zero_le _))
/-- The first slot's place is put into the last slot, which counts no more. -/
theorem Dn.popped {f : Nat → Int} {a : Nat → Nat} {n : Nat} (h : HP f a (n + 1) 0) : Dn f (swp a 0 n) n 0 0 := by
  refine ⟨Nat.le_refl _, ?_, fun h => by omega⟩
  intro m h1 h2 h3 h4
  rw [swp_o (by omega) (by omega), swp_o (by omega) (by omega)]
  exact h m (by omega) h2 h3
/-! ### Lists in this order -/
theorem lf_mem {f : Nat → Int} {l m : List Nat} (hl : l.Pairwise (Lf f)) (hm : m.Pairwise (Lf f)) (h : ∀ v, v ∈ l ↔ v ∈ m) : l = m := by
  induction l generalizing m with
  | nil =>
    cases m with
    | nil => rfl
    | cons x r => exact absurd ((h x).2 (List.mem_cons_self ..)) (by simp)
  | cons x r ih =>
    cases m with
    | nil => exact absurd ((h x).1 (List.mem_cons_self ..)) (by simp)
    | cons y s =>
      rw [List.pairwise_cons] at hl hm
      have e : x = y := by
        rcases List.mem_cons.1 ((h x).1 (List.mem_cons_self ..)) with e | e
        · exact e
        · rcases List.mem_cons.1 ((h y).2 (List.mem_cons_self ..)) with e2 | e2
          · exact e2.symm
          · exact absurd (hl.1 y e2) (hm.1 x e).asym
      subst e
      congr 1
      refine ih hl.2 hm.2 fun v => ?_
      constructor
      · intro hv
        rcases List.mem_cons.1 ((h v).1 (List.mem_cons_of_mem _ hv)) with e | e
        · subst e; exact absurd (hl.1 v hv) Lf.irr
        · exact e
      · intro hv
        rcases List.mem_cons.1 ((h v).2 (List.mem_cons_of_mem _ hv)) with e | e
        · subst e; exact absurd (hm.1 v hv) Lf.irr
        · exact e
/-- Places of elements, in order. -/
structure Ord (f : Nat → Int) (n : Nat) (l : List Nat) : Prop where
  lt : l.Pairwise (Lf f)
  all : ∀ v, v ∈ l ↔ v < n
theorem Ord.one {f : Nat → Int} {n : Nat} {l m : List Nat} (h : Ord f n l) (g : Ord f n m) : l = m := lf_mem h.lt g.lt fun v => (h.all v).trans (g.all v).symm
/-- What came out of the heap, and what is left in it. -/
structure Out (f : Nat → Int) (N : Nat) (out : List Nat) (a : Nat → Nat) (n : Nat) : Prop where
  hp : HP f a n 0
  inj : Inj a n
  lt : out.Pairwise (Lf f)
  ahead : ∀ v, v ∈ out → ∀ k, k < n → Lf f v (a k)
  all : ∀ v, v < N ↔ v ∈ out ∨ Con a n v
theorem Out.ends {f : Nat → Int} {N : Nat} {out : List Nat} {a : Nat → Nat} (h : Out f N out a 0) : Ord f N out :=
  ⟨h.lt, fun v => ((h.all v).trans ⟨fun h => h.elim id fun ⟨k, hk, _⟩ => by omega, .inl⟩).symm⟩
/-- The first one comes out; b: what is left, sifted. -/
theorem Out.pop {f : Nat → Int} {N : Nat} {out : List Nat} {a b : Nat → Nat} {n : Nat} (h : Out f N out a (n + 1)) (hb : HP f b n 0) (hi : Inj b n) (hc : ∀ v, Con b n v ↔ Con (swp a 0 n) n v) : Out f N (out ++ [a 0]) b n := by
  have hs : Inj (swp a 0 n) (n + 1) := h.inj.swp (by omega) (by omega)
  have hcon : ∀ k, k < n → ∃ j, 0 < j ∧ j < n + 1 ∧ b k = a j := by
    intro k hk
    obtain ⟨j, hj, e⟩ := (hc (b k)).1 ⟨k, hk, rfl⟩
    by_cases h0 : j = 0
    · subst h0
      rw [swp_l] at e
      exact ⟨n, by omega, by omega, e.symm⟩
    · rw [swp_o h0 (by omega)] at e
      exact ⟨j, by omega, by omega, e.symm⟩
  refine ⟨hb, hi, ?_, ?_, ?_⟩
  · rw [List.pairwise_append]
    refine ⟨h.lt, List.pairwise_singleton _ _, ?_⟩
    intro v hv w hw
    rw [List.mem_singleton] at hw
    subst hw
    exact h.ahead v hv 0 (by omega)
  · intro v hv k hk
    obtain ⟨j, h0, hj, e⟩ := hcon k hk
    rw [e]
    rcases List.mem_append.1 hv with hv | hv
    · exact h.ahead v hv j hj
    · rw [List.mem_singleton] at hv
      subst hv
      rcases Lf.tri (h.hp.least j hj) with g | g
      · have := h.inj _ _ hj (by omega) g; omega
      · exact g
  · intro v
    rw [h.all v, hc v]
    constructor
    · rintro (hv | ⟨k, hk, e⟩)
      · exact .inl (List.mem_append_left _ hv)
      · by_cases h0 : k = 0
        · subst h0; exact .inl (List.mem_append_right _ (by rw [List.mem_singleton]; exact e.symm))
        · by_cases hn : k = n
          · subst hn
            exact .inr ⟨0, by omega, by rw [swp_l]; exact e⟩
          · exact .inr ⟨k, by omega, by rw [swp_o h0 hn]; exact e⟩
    · rintro (hv | ⟨k, hk, e⟩)
      · rcases List.mem_append.1 hv with hv | hv
        · exact .inl hv
        · rw [List.mem_singleton] at hv
          exact .inr ⟨0, by omega, hv.symm⟩
      · by_cases h0 : k = 0
        · subst h0
          rw [swp_l] at e
          exact .inr ⟨n, by omega, e⟩
        · rw [swp_o h0 (by omega)] at e
          exact .inr ⟨k, by omega, e⟩
end Go.Proofs.YtpledghphljfkaaDoor

import Derived.Test.YtpledghphljfkaaDoorMar
import Derived.Test.YtpledghphljfkaaDoorMas
import Derived.Test.YtpledghphljfkaaDoorMan
import Derived.Lib.AppendZeros
import Derived.Laws.IdiomCopy
/-
  The reference's bare and items, by their contracts.
-/
namespace Go.Proofs.YtpledghphljfkaaDoor
set_option linter.unusedVariables false
set_option linter.unusedSimpArgs false
open Go.RowKit

theorem tail_snoc {l : List Int} {x : Int} {k : Nat} (h0 : 1 ≤ k) (hk : k < l.length) : valsI (x :: l.tail.take (k + 1 - 1)) = valsI (x :: l.tail.take (k - 1)) ++ [.int .i64 (l.getD k 0)] := by
  obtain ⟨j, rfl⟩ : ∃ j, k = j + 1 := ⟨k - 1, by omega⟩
  have e : l.tail.take (j + 1) = l.tail.take j ++ [l.getD (j + 1) 0] := by
    rw [takeI_snoc (by rw [List.length_tail]; omega)]
    congr 2
    simp [List.getD_eq_getElem?_getD, List.getElem?_tail]
  show valsI (x :: l.tail.take (j + 1)) = valsI (x :: l.tail.take j) ++ _
  rw [e]; simp [valsI]
theorem cons_snoc {T : List Int} {x : Int} {k : Nat} (hk : k < T.length) : valsI (x :: T.take (k + 1)) = valsI (x :: T.take k) ++ [.int .i64 (T.getD k 0)] := by
  rw [takeI_snoc hk]; simp [valsI]
def BarEnd (l : List Int) (W : World) (e : Ending) (W' : World) : Prop := ∃ a n c, e = .returned (.agg #[.slice a n c, .slice none 0 0]) ∧ Sl W' a n l ∧ n ≤ c ∧ c ≤ maxLen ∧ Below W.heap.size W W'
theorem St.grown_far {w w' : World} {b : Option Addr} {m : Nat} {es : List ByteArray} {row : Option Nat} (h : St w b m es) (hg : w.grownBy w' row) (hne : ∀ p, b = some p → 0 < m → some p.block ≠ row) : St w' b m es :=
  ⟨h.1, fun h0 => by
    obtain ⟨bb, off, e, hc⟩ := h.2 h0
    exact ⟨bb, off, e, fun j hj => (hg.cell_far ⟨bb, off + j, none⟩ (World.block_lt_of_cell? w _ (hc j hj)) (show some bb ≠ row from hne _ e h0)).trans (hc j hj)⟩⟩
theorem Sl.grown_far {w w' : World} {b : Option Addr} {m : Nat} {es : List Int} {row : Option Nat} (h : Sl w b m es) (hg : w.grownBy w' row) (hne : ∀ p, b = some p → 0 < m → some p.block ≠ row) : Sl w' b m es :=
  ⟨h.1, fun h0 => by
    obtain ⟨bb, off, e, hc⟩ := h.2 h0
    exact ⟨bb, off, e, fun j hj => (hg.cell_far ⟨bb, off + j, none⟩ (World.block_lt_of_cell? w _ (hc j hj)) (show some bb ≠ row from hne _ e h0)).trans (hc j hj)⟩⟩
def ICut (T : List Int) (X : List ByteArray) (wz : World) (p q : Value) (wx : World) : Prop :=
  ∃ g a n c b m d, p = .pointer (some ⟨g, 0, none⟩) ∧ q = .bool true ∧ Bx wx g a n c b m d ∧ Vl wx a n b m T X ∧ wz.heap.size ≤ g ∧ (∀ p, b = some p → wz.heap.size ≤ p.block) ∧ Below wz.heap.size wz wx
theorem ICut.new {T : List Int} {X : List ByteArray} {wz wb : World} {a b : Option Addr} {n c m d : Nat} (hb : Below wz.heap.size wz wb) (hv : Vl wb a n b m T X) (hf : ∀ p, b = some p → wz.heap.size ≤ p.block) : ICut T X wz (.pointer (some ⟨wb.heap.size, 0, none⟩)) (.bool true) (wb.alloc (.cells #[.slice a n c, .slice b m d] 25)) :=
  have h1 : Below wb.heap.size wb (wb.alloc (.cells #[.slice a n c, .slice b m d] 25)) := (Below.refl _ _).alloc (Nat.le_refl _) _
  ⟨_, a, n, c, b, m, d, rfl, rfl, Bx.new _ _ _ _ _ _ _, hv.below h1, hb.size, hf, hb.alloc hb.size _⟩
theorem ICut.set {T : List Int} {X : List ByteArray} {wz wb : World} {a b : Option Addr} {g n c m d : Nat} (hb : Below wz.heap.size wz wb) (hv : Vl wb a n b m T X) (hf : ∀ p, b = some p → wz.heap.size ≤ p.block) (hZ : Bx wb g none 0 0 none 0 0) (h3 : wz.heap.size ≤ g) : ICut T X wz (.pointer (some ⟨g, 0, none⟩)) (.bool true) ((wb.setCell ⟨g, 0, none⟩ (.slice a n c)).setCell ⟨g, 1, none⟩ (.slice b m d)) :=
  ⟨_, a, n, c, b, m, d, rfl, rfl, hZ.set _ _ _ _ _ _, ⟨hZ.sl hv.s _ _, hZ.st hv.t _ _, hv.mm⟩, h3, hf, (hb.setCell h3 _).setCell h3 _⟩
theorem its_snoc (es : List ByteArray) (K : Nat) {L : List Nat} {j : Nat} (hj : j < L.length) : its es K (L.take (j + 1)) = its es K (L.take j) ++ part es K (L.getD j 0) := by
  have e : L.take (j + 1) = L.take j ++ [L.getD j 0] := by rw [List.take_add_one, List.getD_eq_getElem?_getD, List.getElem?_eq_getElem hj]; rfl
  rw [e, its_append]
  show _ ++ ((es.drop (L.getD j 0 * K)).take K ++ its es K []) = _
  rw [show its es K [] = ([] : List ByteArray) from rfl, List.append_nil]
  rfl
theorem cast_getD (L : List Nat) {j : Nat} (hj : j < L.length) : (L.map fun i : Nat => (i : Int)).getD j 0 = ((L.getD j 0 : Nat) : Int) := by
  simp [List.getD_eq_getElem?_getD, List.getElem?_eq_getElem hj]
end Go.Proofs.YtpledghphljfkaaDoor
/-
  The reference's Index, by its contract.
-/
namespace Go.Proofs.YtpledghphljfkaaDoor
set_option linter.unusedVariables false
set_option linter.unusedSimpArgs false
open Go.RowKit

theorem ix_1 (p : Option Ar) : ixK none p = (none, 1) := by cases p <;> rfl
theorem ix_2 (q : Ar) : ixK (some q) none = (none, 1) := rfl
theorem ix_3 {q : Ar} (r : Ar) (h : q.1 = []) : ixK (some q) (some r) = (none, 3) := by
  unfold ixK; dsimp only; rw [if_pos h]
theorem ix_4 {q r : Ar} (h : q.1 ≠ []) (hp : plE r (q.1.getD 0 0) ≠ 0) : ixK (some q) (some r) = (none, plE r (q.1.getD 0 0)) := by
  unfold ixK; dsimp only; rw [if_neg h, if_pos hp]
theorem ix_5 {q r : Ar} (h : q.1 ≠ []) (hp : plE r (q.1.getD 0 0) = 0) (hz : szE (r.1 ++ q.1.tail) ≠ 0) : ixK (some q) (some r) = (none, szE (r.1 ++ q.1.tail)) := by
  unfold ixK; dsimp only; rw [if_neg h, if_neg (fun e => e hp), if_pos hz]
theorem ix_6 {q r : Ar} (h : q.1 ≠ []) (hp : plE r (q.1.getD 0 0) = 0) (hz : szE (r.1 ++ q.1.tail) = 0) : ixK (some q) (some r) = (some (r.1 ++ q.1.tail, its q.2 (kI q.1) (natL r.2)), 0) := by
  unfold ixK; dsimp only; rw [if_neg h, if_neg (fun e => e hp), if_neg (fun e => e hz)]
theorem tail_snoc2 {l A : List Int} {k : Nat} (h0 : 1 ≤ k) (hk : k < l.length) : valsI (A ++ l.tail.take (k + 1 - 1)) = valsI (A ++ l.tail.take (k - 1)) ++ [.int .i64 (l.getD k 0)] := by
  obtain ⟨j, rfl⟩ : ∃ j, k = j + 1 := ⟨k - 1, by omega⟩
  have e : l.tail.take (j + 1) = l.tail.take j ++ [l.getD (j + 1) 0] := by
    rw [takeI_snoc (by rw [List.length_tail]; omega)]
    congr 2
    simp [List.getD_eq_getElem?_getD, List.getElem?_tail]
  show valsI (A ++ l.tail.take (j + 1)) = valsI (A ++ l.tail.take j) ++ _
  rw [e, ← List.append_assoc]; simp [valsI]
theorem getD_snoc {l : List Int} {k : Nat} (hk : k < l.length) : valsI (l.take (k + 1)) = valsI (l.take k) ++ [.int .i64 (l.getD k 0)] := pre_succ hk
def PCut (L : List Int) (N : Nat) (wz : World) (p q : Value) (wx : World) : Prop :=
  ∃ a c, p = .slice a N c ∧ q = .int .i64 0 ∧ Sl wx a N L ∧ Below wz.heap.size wz wx
end Go.Proofs.YtpledghphljfkaaDoor
/-
  slices.Insert of one int ahead of a slice of the call's own; slices.Grow of nil; slices.Concat of two slices of texts.
-/
namespace Go.Proofs.YtpledghphljfkaaDoor
set_option linter.unusedVariables false
set_option linter.unusedSimpArgs false
open Go.RowKit

/-! ### Insert -/
theorem bel_setCells {B b : Nat} {a : World} (hb : B ≤ b) : ∀ (vs : List Value) (o : Nat) (w : World), Below B a w → Below B a (w.setCells b o vs)
  | [], _, _, h => h
  | v :: r, o, w, h => by
    rw [World.setCells]
    exact bel_setCells hb r (o + 1) _ (h.setCell (p := ⟨b, o, none⟩) hb v)
def InsP (B n : Nat) (x : Int) (l : List Int) (W : World) (e : Ending) (w' : World) : Prop :=
  ∃ a c, e = .returned (.slice a (n + 1) c) ∧ Sl w' a (n + 1) (x :: l) ∧ n + 1 ≤ c ∧ c ≤ maxLen ∧ Below B W w'
theorem sl_cells {w : World} {g n : Nat} {x : Int} {l : List Int} (hl : l.length = n) (h0 : w.cell? ⟨g, 0, none⟩ = some (.int .i64 x)) (h1 : ∀ j, j < n → w.cell? ⟨g, j + 1, none⟩ = some (.int .i64 (l.getD j 0))) : Sl w (some ⟨g, 0, none⟩) (n + 1) (x :: l) := by
  refine ⟨by simp [hl], fun _ => ⟨g, 0, rfl, fun j hj => ?_⟩⟩
  rw [Nat.zero_add]
  cases j with
  | zero => exact h0
  | succ j => exact h1 j (by omega)
def GrP (W : World) (e : Ending) (w' : World) : Prop := ∃ a c, e = .returned (.slice a 0 c) ∧ w'.ownsRow W.heap.size 9 1 (.slice a 0 c) 0 [] ∧ Below W.heap.size W w'
/-- Two slices of texts, one behind the other. -/
def CcP (n : Nat) (es : List ByteArray) (W : World) (e : Ending) (w' : World) : Prop := ∃ a c, e = .returned (.slice a n c) ∧ w'.ownsRow W.heap.size 9 1 (.slice a n c) n (valsS es) ∧ Below W.heap.size W w'
def pick3 {α : Type} (a b c : α) : Nat → α
  | 0 => a
  | 1 => b
  | _ => c
end Go.Proofs.YtpledghphljfkaaDoor

import Derived.Test.YtpledghphljfkaaGreatDoorMan
import Derived.Lib.AppendZeros
import Derived.Laws.IdiomCopy
/-
  slices.Insert of one int ahead of a slice of the call's own; slices.Grow of nil; slices.Concat of two slices of texts.
-/
namespace Go.Proofs.YtpledghphljfkaaGreatDoor
set_option linter.unusedVariables false
set_option linter.unusedSimpArgs false
open Go.RowKit

/-! ### Insert -/
theorem bel_setCells {B b : Nat} {a : World} (hb : B ≤ b) : ∀ (vs : List Value) (o : Nat) (w : World), Below B a w → Below B a (w.setCells b o vs)
  | [], _, _, h => h
  | v :: r, o, w, h => by
    rw [World.setCells]
    exact bel_setCells hb r (o + 1) _ (h.setCell (p := ⟨b, o, none⟩) hb v)
def InsP (B n : Nat) (x : Int) (l : List Int) (W : World) (e : Ending) (w' : World) : Prop :=
  ∃ a c, e = .returned (.slice a (n + 1) c) ∧ Sl w' a (n + 1) (x :: l) ∧ n + 1 ≤ c ∧ c ≤ maxLen ∧ Below B W w'
theorem sl_cells {w : World} {g n : Nat} {x : Int} {l : List Int} (hl : l.length = n) (h0 : w.cell? ⟨g, 0, none⟩ = some (.int .i64 x)) (h1 : ∀ j, j < n → w.cell? ⟨g, j + 1, none⟩ = some (.int .i64 (l.getD j 0))) : Sl w (some ⟨g, 0, none⟩) (n + 1) (x :: l) := by
  refine ⟨by simp [hl], fun _ => ⟨g, 0, rfl, fun j hj => ?_⟩⟩
  rw [Nat.zero_add]
  cases j with
  | zero => exact h0
  | succ j => exact h1 j (by omega)
def GrP (W : World) (e : Ending) (w' : World) : Prop := ∃ a c, e = .returned (.slice a 0 c) ∧ w'.ownsRow W.heap.size 9 1 (.slice a 0 c) 0 [] ∧ Below W.heap.size W w'
/-- Two slices of texts, one behind the other. -/
def CcP (n : Nat) (es : List ByteArray) (W : World) (e : Ending) (w' : World) : Prop := ∃ a c, e = .returned (.slice a n c) ∧ w'.ownsRow W.heap.size 9 1 (.slice a n c) n (valsS es) ∧ Below W.heap.size W w'
def pick3 {α : Type} (a b c : α) : Nat → α
  | 0 => a
  | 1 => b
  | _ => c
end Go.Proofs.YtpledghphljfkaaGreatDoor

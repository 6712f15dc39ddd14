import Derived.Test.YtogphdflgcdiiaaGreatDoorMbu
/-
  ScalarMod at any three texts; ScalarBits at any text, if scalar answers as the document says.
-/
namespace Go.Proofs.YtogphdflgcdiiaaGreatDoor
set_option linter.unusedVariables false
set_option linter.unusedSimpArgs false
open Go.RowKit

theorem is_zero {s : ByteArray} {x : Int} (h : Is s (some x)) : (s.toList == [48]) = decide (x = 0) := by
  by_cases hx : x = 0
  · subst hx
    rw [h.1, S_0, str_tl]; rfl
  · rw [decide_eq_false hx]
    refine beq_eq_false_iff_ne.2 fun e => hx ?_
    have h2 : s = ⟨#[48]⟩ := toList_inj (by rw [e, str_tl])
    exact S_inj (by rw [← h.1, h2, S_0])
end Go.Proofs.YtogphdflgcdiiaaGreatDoor

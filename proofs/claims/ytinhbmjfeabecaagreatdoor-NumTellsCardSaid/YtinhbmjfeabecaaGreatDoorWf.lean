import Derived.Test.YtinhbmjfeabecaaGreatDoorProg
import Derived.WalkKit
import Derived.WalkSpells
import Derived.WalkLawsBesides
import Derived.Lib.Hide
import Derived.Laws.Rows
namespace Go.Proofs.YtinhbmjfeabecaaGreatDoor
open Go.RowKit

/-- The five widths, as the table has them. -/
def wrow : Array Value := #[.int .i64 8, .int .i64 16, .int .i64 32, .int .i64 64, .int .i64 128]
def Fit (x w : Int) : Prop := (w = 8 ∧ -128 ≤ x ∧ x ≤ 127) ∨ (w = 16 ∧ -32768 ≤ x ∧ x ≤ 32767) ∨ (w = 32 ∧ -2147483648 ≤ x ∧ x ≤ 2147483647) ∨ (w = 64 ∧ -9223372036854775808 ≤ x ∧ x ≤ 9223372036854775807) ∨ w = 128
instance (x w : Int) : Decidable (Fit x w) := by unfold Fit; infer_instance
theorem ret_w {a b : Bool} (h : a = b) : Ending.returned (.bool a) = .returned (.bool b) := by rw [h]
end Go.Proofs.YtinhbmjfeabecaaGreatDoor

import Derived.Test.YtlhbejeninjmoaaGreatDoorMap
/-
  What the layers above scalar ask of num and scalar: all of their contracts.
-/
namespace Go.Proofs.YtlhbejeninjmoaaGreatDoor
set_option linter.unusedVariables false
set_option linter.unusedSimpArgs false
open Go.RowKit
def IntEnd (v : Int) (W : World) (e : Ending) (W' : World) : Prop := e = .returned (.int .i64 v) ∧ Below W.heap.size W W'
end Go.Proofs.YtlhbejeninjmoaaGreatDoor

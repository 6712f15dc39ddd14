import Derived.Test.YtogphdflgcdiiaaGreatDoorMbi
/-
  The statement ScalarMod at any three texts, if scalar answers as the document says.
-/
namespace Go.Proofs.YtogphdflgcdiiaaGreatDoor
set_option linter.unusedVariables false
set_option linter.unusedSimpArgs false
open Go.RowKit

end Go.Proofs.YtogphdflgcdiiaaGreatDoor

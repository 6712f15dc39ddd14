import Derived.Test.YtogphdflgcdiiaaDoorMbk
import Derived.Test.YtogphdflgcdiiaaDoorMbo
/-
  scalar answers as the document says: the statements' own example.
-/
namespace Go.Proofs.YtogphdflgcdiiaaDoor
set_option linter.unusedVariables false
set_option linter.unusedSimpArgs false
open Go.RowKit
theorem sh_ok : ShownIs := shown_all dy_ok ds_ok ms_ok
end Go.Proofs.YtogphdflgcdiiaaDoor

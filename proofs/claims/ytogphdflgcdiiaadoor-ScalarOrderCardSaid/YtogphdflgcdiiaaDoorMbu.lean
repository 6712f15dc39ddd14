import Derived.Test.YtogphdflgcdiiaaDoorMbp
import Derived.Test.YtogphdflgcdiiaaDoorMbs
import Derived.Test.YtogphdflgcdiiaaDoorMbt
/-
  ScalarWhole with the byte as the row has it.
-/
namespace Go.Proofs.YtogphdflgcdiiaaDoor
set_option linter.unusedVariables false
set_option linter.unusedSimpArgs false
open Go.RowKit
theorem whole_row (x : Int) (h : 0 ≤ x ∧ x ≤ 255) (a b : ByteArray) (w : World) (ha : a.size ≤ maxLen) (hb : b.size ≤ maxLen) (hw : SC w) : Calls Tryd.prog 4 #[.int .u8 x, .string a, .string b] w (TrueEnd w) := by
  obtain ⟨y, rfl⟩ := Int.eq_ofNat_of_zero_le h.1
  exact whole_any dy_ok wh_ok ds_ok sh_ok y (by omega) a b w ha hb hw
end Go.Proofs.YtogphdflgcdiiaaDoor

/-
  The six variables as the rows list them, and the condition that the contracts ask of the world; joined by shake.py.
-/
import Derived.Test.YtdehcdnbalbdbaaDoorRows
import Derived.Test.YtdehcdnbalbdbaaDoorBn
import Derived.ProofKit
import Derived.LaidMore
import Derived.OpenShut
import Derived.Stop.LaidErr
import Derived.Stop.Joined
namespace Go.Proofs.YtdehcdnbalbdbaaDoor
section
open Go.ChangeShapes Go.WideShapes Go.ChangeAt Go.RowKit
theorem own : ownKnob Tryd.prog.godebug = none := by kernel_rfl
theorem gPow : Tryd.prog.globalNamed "internal/strconv.uint64pow10" = some 3 := by kernel_rfl
theorem tPow : (Tryd.prog.globals[3]?).map (·.type) = some 119 := by kernel_rfl
theorem powData : (Rows.laid_internal_strconv_uint64pow10 : DataW Unit) = Lib.tabData .u64 Lib.pow10Tab := by kernel_rfl
end
section
open Go.ChangeShapes Go.WideShapes Go.ChangeAt Go.RowKit
def laid6 : List (String × DataW Unit) := [("math/bits.deBruijn32tab", Rows.laid_math_bits_deBruijn32tab), ("math/bits.deBruijn64tab", Rows.laid_math_bits_deBruijn64tab), ("internal/strconv.uint64pow10", Rows.laid_internal_strconv_uint64pow10), ("strconv.ErrRange", Rows.laid_strconv_ErrRange), ("strconv.ErrSyntax", Rows.laid_strconv_ErrSyntax), ("reredos/width.widths", Rows.laid_reredos_width_widths)]
theorem gWid : Tryd.prog.globalNamed "reredos/width.widths" = some 0 := by kernel_rfl
theorem tWid : (Tryd.prog.globals[0]?).map (·.type) = some 87 := by kernel_rfl
theorem widData : (Rows.laid_reredos_width_widths : DataW Unit) = Lib.tabData .i64 [8, 16, 32, 64, 128] := by kernel_rfl
theorem gErr : Tryd.prog.globalNamed "strconv.ErrRange" = some 2 := by kernel_rfl
theorem tErr : (Tryd.prog.globals[2]?).map (·.type) = some 80 := by kernel_rfl
theorem star : "*" ++ "errors.errorString" = "*errors.errorString" := by decide
theorem rowErr (u : TypeId) (h : Tryd.prog.typeName? 3 u = some "*errors.errorString") : u = 125 :=
  typeName_ptr_named (nm := "errors.errorString") (by rw [star]; kernel_rfl) (by kernel_rfl) (by decide) u (by rw [star]; exact h)
theorem wtab_of_tab {W : World} (h : Lib.TabIs Tryd.prog W "reredos/width.widths" .i64 [8, 16, 32, 64, 128]) : WTab W := by
  unfold Lib.TabIs World.var? at h
  rw [gWid] at h
  simp only [Option.bind_some] at h
  unfold WTab
  split at h
  · rename_i cs t fr hh
    rw [hh]
    obtain rfl := Option.some.inj h
    exact ⟨_, _, rfl⟩
  · cases h
theorem wt_of_laid {W : World} (h : laidMetH Tryd.prog laid6 W) : WT W := by
  rw [MakeChecks.laidMetH_plain _ _ _ (by kernel_rfl)] at h
  have h2 := laidMet.tail (laidMet.tail h)
  have h3 := laidMet.tail h2
  have h5 := laidMet.tail (laidMet.tail h3)
  rw [powData] at h2
  rw [widData] at h5
  refine ⟨Lib.tabBelow_of_tabIs (Lib.tabIs_of_head gPow tPow Tryd.underlying119 Tryd.underlying101 (by kernel_rfl) (by kernel_rfl) h2), wtab_of_tab (Lib.tabIs_of_head gWid tWid Tryd.underlying87 Tryd.underlying3 (by kernel_rfl) (by kernel_rfl) h5), ?_⟩
  obtain ⟨a, s, hv, _, _, _⟩ := laid_sentinel h3 gErr tErr Tryd.underlying80 rowErr Tryd.underlying125 Tryd.underlying127 rfl rfl Tryd.underlying9 (by kernel_rfl) (by kernel_rfl)
  exact ⟨_, World.var?_cell gErr hv 0, .inr ⟨_, _, rfl⟩⟩
theorem door_met6 (os : Os) (args : Array Value) : laidMetH Tryd.prog laid6 ((World.doorLaid Tryd.prog 400 os).forCall (fun _ _ => 0) ⟨#[], args, []⟩).memory :=
  laidMetH_of_parts3 (fuel := 8) (laidMet_of_run' 8 (by kernel_rfl) (by kernel_rfl)) (by kernel_rfl) (by kernel_rfl)
end
end Go.Proofs.YtdehcdnbalbdbaaDoor

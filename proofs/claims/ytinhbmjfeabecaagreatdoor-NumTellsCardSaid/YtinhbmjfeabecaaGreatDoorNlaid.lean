import Derived.Test.YtinhbmjfeabecaaGreatDoorLaid5
import Derived.Test.YtinhbmjfeabecaaGreatDoorNt
import Derived.Stop.LaidErr
namespace Go.Proofs.YtinhbmjfeabecaaGreatDoor
open Go.ChangeShapes Go.WideShapes Go.ChangeAt Go.RowKit

theorem gErr : Tryz.prog.globalNamed "strconv.ErrRange" = some 1 := by kernel_rfl
theorem tErr : (Tryz.prog.globals[1]?).map (·.type) = some 36 := by kernel_rfl
theorem star : "*" ++ "errors.errorString" = "*errors.errorString" := by decide
theorem rowErr (u : TypeId) (h : Tryz.prog.typeName? 3 u = some "*errors.errorString") : u = 109 :=
  typeName_ptr_named (nm := "errors.errorString") (by rw [star]; kernel_rfl) (by kernel_rfl) (by decide) u (by rw [star]; exact h)
theorem nt_of_laid {W : World} (h : laidMetH Tryz.prog laid5 W) : NT W := by
  refine ⟨tab_of_laid5 h, ?_⟩
  rw [MakeChecks.laidMetH_plain _ _ _ (by kernel_rfl)] at h
  have h3 := laidMet.tail (laidMet.tail (laidMet.tail h))
  obtain ⟨a, s, hv, _, _, _⟩ := laid_sentinel h3 gErr tErr Tryz.underlying36 rowErr Tryz.underlying109 Tryz.underlying111 rfl rfl Tryz.underlying9 (by kernel_rfl) (by kernel_rfl)
  exact ⟨_, World.var?_cell gErr hv 0, .inr ⟨_, _, rfl⟩⟩
end Go.Proofs.YtinhbmjfeabecaaGreatDoor

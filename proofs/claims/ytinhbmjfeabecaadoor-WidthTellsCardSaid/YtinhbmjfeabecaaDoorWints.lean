import Derived.Test.YtinhbmjfeabecaaDoorWlaid
import Derived.Test.YtinhbmjfeabecaaDoorWo
import Derived.Carry
namespace Go.Proofs.YtinhbmjfeabecaaDoor
open Go.ChangeShapes Go.WideShapes Go.ChangeAt Go.RowKit

theorem laidOut : laidOutB Tryd.prog = true := by kernel_rfl
theorem ints_opened {H : Type} {enc : TypeId × Value → H} {W : World} {a : Option Addr} {n c : Nat} {d : DataW H} {ps : List MemPlace} (h : DataW.Trod enc Tryd.prog W 0 (fun _ => true) true 22 (.slice a n c) d ps) : Ints W a n := by
  obtain ⟨fuel, hf⟩ := h
  have hc : Tryd.prog.cellsOf 3 = 1 := by kernel_rfl
  rcases open_ints Tryd.underlying22 Tryd.underlying3 hc hf with ⟨hcs, hx⟩ | ⟨a', n', c', zs, hcs, _, hle, hmax, hall, hx, hcell, hwf⟩
  · simp [Value.cells] at hcs
    exact .inl hcs.2.1
  · simp [Value.cells] at hcs
    obtain ⟨rfl, rfl, rfl⟩ := hcs
    simp only [if_true] at hall
    by_cases hn : n = 0
    · exact .inl hn
    · obtain ⟨b, off, rfl, hc2⟩ := ints_at hcell (by omega)
      refine .inr ⟨b, off, zs.take n, rfl, by omega, by omega, by simp; omega, fun j hj => ?_⟩
      rw [hc2 j (by omega)]
      simp [List.getD, List.getElem?_take_of_lt hj]
end Go.Proofs.YtinhbmjfeabecaaDoor

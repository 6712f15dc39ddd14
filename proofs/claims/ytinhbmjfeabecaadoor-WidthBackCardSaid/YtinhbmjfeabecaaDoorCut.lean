import Derived.Test.YtinhbmjfeabecaaDoorClw
namespace Go.Proofs.YtinhbmjfeabecaaDoor
open Go.RowKit

theorem SzN.nil (w : World) (c : Nat) : SzN w (.slice none 0 c) 0 := ⟨none, [], c, rfl, .inl ⟨rfl, rfl⟩, ok_nil, norm_nil, rfl⟩
theorem SzN.below {w w' : World} {v : Value} {x : Nat} (h : SzN w v x) (hb : Below w.heap.size w w') : SzN w' v x := by
  obtain ⟨A, l, c, e, h1, h2⟩ := h
  exact ⟨A, l, c, e, h1.below hb, h2⟩
theorem SzN.drawn {w w' : World} {v : Value} {x : Nat} (h : SzN w v x) (hb : Drawn w w') : SzN w' v x := by obtain ⟨n, rfl⟩ := hb; exact h
theorem Drawn.below {B : Nat} {w w' : World} (h : Drawn w w') : Below B w w' := by obtain ⟨n, rfl⟩ := h; exact ⟨rfl, rfl, rfl, Nat.le_refl _, fun _ _ => rfl⟩
theorem Rw.one (w : World) (v : Nat) : Rw (w.alloc (.cells #[.int .u32 (v : Int)] 81)) w.heap.size 1 (fun _ => v) :=
  World.rowIs_alloc w #[.int .u32 (v : Int)] _ _ fun i hi => by
    have : i = 0 := by simp at hi; exact hi
    subst this; rfl

end Go.Proofs.YtinhbmjfeabecaaDoor

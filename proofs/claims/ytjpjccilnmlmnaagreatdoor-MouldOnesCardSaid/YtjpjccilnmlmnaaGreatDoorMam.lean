import Derived.Test.YtjpjccilnmlmnaaGreatDoorMak
/-
  What stays behind a call, as one: what is live is carried by one lemma.
-/
namespace Go.Proofs.YtjpjccilnmlmnaaGreatDoor
set_option linter.unusedVariables false
set_option linter.unusedSimpArgs false
open Go.RowKit

def Stb (P : World → Prop) : Prop := ∀ w w', P w → Below w.heap.size w w' → P w'
theorem Stb.and {P Q : World → Prop} (h : Stb P) (g : Stb Q) : Stb fun w => P w ∧ Q w := fun w w' k hb => ⟨h w w' k.1 hb, g w w' k.2 hb⟩
theorem Stb.bel (W : World) : Stb fun w => Below W.heap.size W w := fun _ _ h hb => h.trans (hb.mono h.size)
theorem Stb.bx {g : Nat} {a b : Option Addr} {n c m d : Nat} : Stb fun w => Bx w g a n c b m d := fun _ _ h hb => h.below hb h.lt
theorem Stb.vl {a b : Option Addr} {n m : Nat} {l : List Int} {es : List ByteArray} : Stb fun w => Vl w a n b m l es := fun _ _ h hb => h.below hb
theorem Stb.triv {p : Prop} : Stb fun _ => p := fun _ _ h _ => h
/-- What is live at a world, as one. -/
structure Lv (P : World → Prop) (w : World) : Prop where
  out : P w
theorem live {P : World → Prop} {w : World} {f : FuncId} {args : Array Value} {R : Ending → World → Prop} (h : Lv P w) (hc : Calls Tryz.prog f args w fun e w' => R e w' ∧ Below w.heap.size w w')
    (hs : Stb P := by repeat' (first | exact Stb.bel _ | exact Stb.bx | exact Stb.vl | refine Stb.and ?_ ?_ | exact Stb.triv)) : Calls Tryz.prog f args w fun e w' => R e w' ∧ Lv P w' := hc.mono fun _ _ k => ⟨k.1, ⟨hs _ _ h.out k.2⟩⟩
/-- An array that is told is laid into a box: what is live then. -/
theorem live_box {P : World → Prop} {w : World} {a b : Option Addr} {n m : Nat} {l : List Int} {es : List ByteArray} (h : Lv P w) (hv : Vl w a n b m l es) (c d : Nat)
    (hs : Stb P := by repeat' (first | exact Stb.bel _ | exact Stb.bx | exact Stb.vl | refine Stb.and ?_ ?_ | exact Stb.triv)) :
    Lv (fun w' => Bx w' w.heap.size a n c b m d ∧ Vl w' a n b m l es ∧ P w') (w.alloc (.cells #[.slice a n c, .slice b m d] 25)) :=
  have hb : Below w.heap.size w (w.alloc (.cells #[.slice a n c, .slice b m d] 25)) := (Below.refl _ _).alloc (Nat.le_refl _) _
  ⟨⟨Bx.new _ _ _ _ _ _ _, hv.below hb, hs _ _ h.out hb⟩⟩
/-- A law's array, laid into a box. -/
theorem live_one {a b : Option Addr} {n m : Nat} {l : List Int} {es : List ByteArray} (W : World) (hv : Vl W a n b m l es) (c d : Nat) :
    Lv (fun w' => Bx w' W.heap.size a n c b m d ∧ Vl w' a n b m l es ∧ Below W.heap.size W w') (W.alloc (.cells #[.slice a n c, .slice b m d] 25)) := live_box ⟨Below.refl _ _⟩ hv c d
end Go.Proofs.YtjpjccilnmlmnaaGreatDoor

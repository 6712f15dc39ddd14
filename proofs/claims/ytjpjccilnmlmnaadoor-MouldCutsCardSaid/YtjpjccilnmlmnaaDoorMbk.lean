import Derived.Test.YtjpjccilnmlmnaaDoorMbj
/-
  What MouldCuts needs besides.
-/
namespace Go.Proofs.YtjpjccilnmlmnaaDoor
set_option linter.unusedVariables false
set_option linter.unusedSimpArgs false
open Go.RowKit

theorem lw_M2 {P : World → Prop} {w : World} {f : FuncId} {args : Array Value} {o : Option Ar} {k : Int} (h : Lv P w) (hc : Calls Tryd.prog f args w (MEnd (o, k) w))
    (hs : Stb P := by repeat' (first | exact Stb.bel _ | exact Stb.bx | exact Av.stb2 | refine Stb.and ?_ ?_ | exact Stb.triv)) :
    Calls Tryd.prog f args w fun e w' => ∃ a n c b m d, e = .returned (.tuple #[.agg #[.slice a n c, .slice b m d], .int .i64 k]) ∧ Lv P w' ∧ Lv (fun w'' => Bx w'' w'.heap.size a n c b m d ∧ Av w'' a n c b m d (TS o).1 (TS o).2 o ∧ P w'') (w'.alloc (.cells #[.slice a n c, .slice b m d] 25)) :=
  hc.mono fun _ _ ⟨a, n, c, b, m, d, h1, h2, h3⟩ => ⟨a, n, c, b, m, d, h1, ⟨hs _ _ h.out h3⟩, lw_box ⟨hs _ _ h.out h3⟩ h2 hs⟩
theorem Av.put {W : World} {a b : Option Addr} {n c m d : Nat} {l : List Int} {es : List ByteArray} {o : Option Ar} (h : Av W a n c b m d l es o) {g n0 c0 m0 d0 : Nat} {a0 b0 : Option Addr} (hB : Bx W g a0 n0 c0 b0 m0 d0) (a' : Option Addr) (n' c' : Nat) (b' : Option Addr) (m' d' : Nat) :
    Av ((W.setCell ⟨g, 0, none⟩ (.slice a' n' c')).setCell ⟨g, 1, none⟩ (.slice b' m' d')) a n c b m d l es o := ⟨⟨hB.sl h.v.s _ _, hB.st h.v.t _ _, h.v.mm⟩, h.c, h.z, h.i⟩
theorem Bx.put {W : World} {a b : Option Addr} {g n c m d : Nat} (h : Bx W g a n c b m d) {g' : Nat} (hne : g ≠ g') (u v : Value) : Bx ((W.setCell ⟨g', 0, none⟩ u).setCell ⟨g', 1, none⟩ v) g a n c b m d := (h.setOther (p := ⟨g', 0, none⟩) hne u).setOther (p := ⟨g', 1, none⟩) hne v
end Go.Proofs.YtjpjccilnmlmnaaDoor

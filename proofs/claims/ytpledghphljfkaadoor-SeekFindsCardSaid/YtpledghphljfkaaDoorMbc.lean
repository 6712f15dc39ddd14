import Derived.Test.YtpledghphljfkaaDoorMba
import Derived.Test.YtpledghphljfkaaDoorMao
import Derived.BigQuiet
/-
  What stays behind a call, slices of numbers too, for the laws' walks.
-/
namespace Go.Proofs.YtpledghphljfkaaDoor
set_option linter.unusedVariables false
set_option linter.unusedSimpArgs false
open Go.RowKit

theorem lwS {P : World → Prop} {w : World} {f : FuncId} {args : Array Value} {R : Ending → World → Prop} (h : Lv P w) (hc : Calls Tryd.prog f args w fun e w' => R e w' ∧ Below w.heap.size w w')
    (hs : Stb P := by repeat' (first | exact Stb.bel _ | exact Stb.bx | exact Av.stb2 | exact Stb.sl | refine Stb.and ?_ ?_ | exact Stb.triv)) : Calls Tryd.prog f args w fun e w' => R e w' ∧ Lv P w' := lw h hc hs
theorem lwS_M {P : World → Prop} {w : World} {f : FuncId} {args : Array Value} {o : Option Ar} {k : Int} (h : Lv P w) (hc : Calls Tryd.prog f args w (MEnd (o, k) w))
    (hs : Stb P := by repeat' (first | exact Stb.bel _ | exact Stb.bx | exact Av.stb2 | exact Stb.sl | refine Stb.and ?_ ?_ | exact Stb.triv)) :
    Calls Tryd.prog f args w fun e w' => ∃ a n c b m d, e = .returned (.tuple #[.agg #[.slice a n c, .slice b m d], .int .i64 k]) ∧ Lv (fun w'' => Bx w'' w'.heap.size a n c b m d ∧ Av w'' a n c b m d (TS o).1 (TS o).2 o ∧ P w'') (w'.alloc (.cells #[.slice a n c, .slice b m d] 25)) := lw_M h hc hs
theorem lwS_al {P : World → Prop} {w : World} {f : FuncId} {args : Array Value} {xs : List Int} (h : Lv P w) (hc : Calls Tryd.prog f args w (AlO xs w) ∧ xs.all nearM = true)
    (hs : Stb P := by repeat' (first | exact Stb.bel _ | exact Stb.bx | exact Av.stb2 | exact Stb.sl | refine Stb.and ?_ ?_ | exact Stb.triv)) :
    Calls Tryd.prog f args w fun e w' => ∃ a n c, e = .returned (.tuple #[.slice a n c, .int .i64 0]) ∧ n = xs.length ∧ Lv (fun z => Sl z a n xs ∧ P z) w' :=
  hc.1.mono fun e w' ⟨a, n, c, z, h1, h2, h3⟩ => by
    rcases h2 with ⟨_, g1, g2, g3, _⟩ | ⟨g, _⟩
    · subst g1; exact ⟨a, n, c, h1, g2, ⟨g3, hs _ _ h.out h3⟩⟩
    · rw [hc.2] at g; cases g
theorem lwS_on {P : World → Prop} {w w' : World} (h : Lv P w) (hb : Below w.heap.size w w')
    (hs : Stb P := by repeat' (first | exact Stb.bel _ | exact Stb.bx | exact Av.stb2 | exact Stb.sl | refine Stb.and ?_ ?_ | exact Stb.triv)) : Lv P w' := ⟨hs _ _ h.out hb⟩
theorem S_ne {x y : Int} (h : x ≠ y) : ((S x).toList == (S y).toList) = false := beq_eq_false_iff_ne.2 fun e => h (S_inj (by
  rw [str_tl, str_tl] at e
  exact ByteArray.ext (Array.toList_inj.1 e)))
end Go.Proofs.YtpledghphljfkaaDoor

import Derived.RangeFuncBox
import Derived.RangeFuncLeaves
import Derived.RangeFuncCalls
/-
  A range over a function whose iterator keeps a variable of its own in a block: what the caller owes. (Over any program.)
-/
namespace Go.Proofs.YtomkjmhebnecbaaGreatDoor
set_option linter.unusedVariables false
set_option linter.unusedSimpArgs false
open Go.RowKit

/-- How a round may end: on, or by a return. -/
def RoundEnd (Kp : World → World → Prop) (I Ix : World → Prop) (W : World) : Exit → Act → World → Prop
  | .normal, _, W' => KeepsOthers W W' ∧ Kp W W' ∧ I W'
  | .ret, _, W' => KeepsOthers W W' ∧ Ix W'
  | .exit _, _, _ => False
  | .goto _, _, _ => False
  | .panic _, _, _ => False
  | .outgrown, _, _ => False
/-- What an iterator that turns block B alone promises: N rounds, in their order; or fewer, if one has said no more. -/
def Gives (F : Fence) (n : Nat) (P : Program) (gf : Nat) (lb : Array Value) (encs : Nat → Array Value) (B N : Nat) (Kp : World → World → Prop) (w : World) : Prop :=
  ∀ (l : Nat) (J : Nat → World → Prop) (Jx : World → Prop) (W : World), Below w.heap.size w W → (∀ k A A', J k A → A.grownBy A' (some B) → J k A') →
    (∀ k W1, k < N → J k W1 → YieldAt F (n - 1) P l (encs k) W1 fun e W' => (e = .returned (.bool true) ∧ J (k + 1) W' ∧ Kp W1 W') ∨ (e = .returned (.bool false) ∧ Jx W')) →
    J 0 W → CallsIn F n P gf (#[.func (.yield l) #[] #[]] ++ lb) W fun e W' => (∃ v, e = .returned v) ∧ (J N W' ∨ Jx W')
/-- What an invariant of the caller's abides: a block laid; block B turned; a block from S on turned that holds no cells. -/
structure Abs (S B : Nat) (I : World → Prop) : Prop where
  own : ∀ A A', I A → A.grownBy A' (some B) → I A'
  put : ∀ A l o o', I A → S ≤ l → A.heap[l]? = some o → o.isCells = false → I (A.putObj l o')
theorem grown_alloc (A : World) (o : Obj) (B : Nat) : A.grownBy (A.alloc o) (some B) := World.grownBy_alloc A o (some B)
theorem grown_heap {A A' : World} {B l : Nat} {o : Obj} (h : A.grownBy A' (some B)) (hl : A.heap[l]? = some o) (hne : l ≠ B) : A'.heap[l]? = some o :=
  (h.block l (Array.getElem?_eq_some_iff.1 hl).1 (fun e => hne (Option.some.inj e))).trans hl
variable {F : Fence} {n : Nat} {P : Program}
theorem range_gives {g : Operand} {ps : Array Tmp} {assign body : Code} {Q : Exit → Act → World → Prop} {a : Act} {w : World}
    (hro : F.round = none) (h1 : 1 ≤ n) {gf : Nat} {lb : Array Value} (hg : a.eval g = .func (.func gf) #[] lb) (hFg : F.fn gf) (eg : ∀ args w, (callFunc gf args).run P w = .ok (.enter gf args) w)
    {encs : Nat → Array Value} {B N : Nat} {Kp : World → World → Prop} (hseq : Gives F (n - 1) P gf lb encs B N Kp w) (hB : B < w.heap.size)
    (hKt : ∀ X Y Z, Kp X Y → Kp Y Z → Kp X Z) (hKb : ∀ X l o, w.heap.size ≤ l → Kp X (X.putObj l o)) (hps : ∀ k, (encs k).size = ps.size)
    (I : Nat → World → Prop) (Ix : World → Prop) (hI : ∀ k, Abs w.heap.size B (I k)) (hIx : Abs w.heap.size B Ix) (h0 : I 0 w) (a1 : Nat → Act)
    (hassign : ∀ (l k : Nat) (W : World) (K : Act → World → Prop), K (a1 k) W →
      assign.wpIn (F.inRound l) (n - 1 - 1) P (Exit.then K (fun _ _ _ => False)) { tmps := (ps.zip (encs k)).foldl (fun t (p, v) => t.setIfInBounds p v) a.tmps, defers := [] } W)
    (hbody : ∀ (l k : Nat) (W : World), k < N → I k W → body.wpIn (F.inRound l) (n - 1 - 1) P (RoundEnd Kp (I (k + 1)) Ix W) (a1 k) W)
    (hdone : ∀ (D : Nat) (W : World), w.heap.size ≤ D → I N W → W.heap[D]? = some (.deferred (some [])) → Q .normal { a with defers := { target := .collected D, args := #[] } :: a.defers } W)
    (hstop : ∀ (D : Nat) (W : World), w.heap.size ≤ D → Ix W → W.heap[D]? = some (.deferred (some [])) → Code.ret.wpIn F n P Q { a with defers := { target := .collected D, args := #[] } :: a.defers } W) :
    (Code.rangeFunc g ps assign body).wpIn F n P Q a w := by
  refine wpIn_rangeFunc fun fn hfn => ?_
  rw [hro]
  obtain ⟨S, hS⟩ : ∃ S, w.heap.size = S := ⟨_, rfl⟩
  let rec_ : LoopState → Option Code → Loop := fun st pe => { state := st, pending := pe, fn := fn, tmps := a.tmps, params := ps, assign := assign, body := body, defers := w.heap.size }
  obtain ⟨R, hR⟩ : ∃ R : LoopState → Option Code → Loop, R = rec_ := ⟨_, rfl⟩
  obtain ⟨V, hV⟩ : ∃ V, (w.alloc (.deferred (some []))).alloc (.loop (R .ready none)) = V := ⟨_, rfl⟩
  have dV : V.heap[S]? = some (.deferred (some [])) := by
    rw [← hV, ← hS]
    exact (Below.heap_alloc _ _ _ (by simp)).trans (World.alloc_heap_new w _)
  have lV : V.heap[S + 1]? = some (.loop (R .ready none)) := by
    rw [← hV, ← hS]
    have := World.alloc_heap_new (w.alloc (.deferred (some []))) (.loop (R .ready none))
    rwa [World.size_alloc] at this
  have bV : Below w.heap.size w V := by
    rw [← hV]
    exact ((Below.refl _ w).alloc (Nat.le_refl _) _).alloc (by simp) _
  have iV : I 0 V := by
    rw [← hV]
    exact (hI 0).own _ _ ((hI 0).own _ _ h0 (grown_alloc _ _ _)) (grown_alloc _ _ _)
  refine ⟨S + 1, [{ target := .collected S, args := #[] }], V, { target := .fn (.func gf) lb, args := #[.func (.yield (S + 1)) #[] #[]] }, V, gf, #[.func (.yield (S + 1)) #[] #[]] ++ lb, V, ?_, ?_, ?_, ?_, fun _ => h1, ?_⟩
  · rw [← hV, ← hS, hR]
    exact run_enterLoop_outer _ _ _ _ _
  · simp only [resolve, hg]
    simp [go_sem]
  · intro f' hf'
    simp [Target.leads] at hf'
    subst hf'
    exact hFg
  · simp [invoke, go_sem, eg]
  have hBS : B ≠ S ∧ B ≠ S + 1 := by omega
  refine (hseq (S + 1) (fun k W => I k W ∧ W.heap[S]? = some (.deferred (some [])) ∧ W.heap[S + 1]? = some (.loop (R .ready none)))
    (fun W => Ix W ∧ W.heap[S]? = some (.deferred (some [])) ∧ W.heap[S + 1]? = some (.loop (R .done (some .ret)))) V bV
    (fun k A A' h hg => ⟨(hI k).own _ _ h.1 hg, grown_heap hg h.2.1 hBS.1.symm, grown_heap hg h.2.2 hBS.2.symm⟩) ?_ ⟨iV, dV, lV⟩).mono ?_
  · rintro k X hk ⟨iX, dX, lX⟩
    have hlt : S + 1 < X.heap.size := (Array.getElem?_eq_some_iff.1 lX).1
    have hy := run_yield (P := P) (args := encs k) lX (by rw [hR]; exact hps k)
    rw [hR] at hy
    refine ⟨fn, _, assign, body, hy, roundIn_of_wpIn hfn (hassign _ k X _ ⟨_, run_beginRound lX (by rw [hR]), ?_⟩)⟩
    obtain ⟨Y, hY⟩ : ∃ Y, X.putObj (S + 1) (.loop { R .ready none with state := .busy }) = Y := ⟨_, rfl⟩
    have lY : Y.heap[S + 1]? = some (.loop { R .ready none with state := .busy }) := by rw [← hY]; exact World.putObj_heap_same hlt
    have dY : Y.heap[S]? = some (.deferred (some [])) := by rw [← hY]; exact (World.putObj_heap_other (by omega)).trans dX
    have iY : I k Y := by rw [← hY]; exact (hI k).put _ _ _ _ iX (by omega) lX rfl
    have kY : Kp X Y := by rw [← hY]; exact hKb _ _ _ (by omega)
    rw [hY]
    refine wpIn_mono (hbody _ k Y hk iY) ?_
    have fin : ∀ (jump : Option Code) (Z : World), KeepsOthers Y Z → (Instr.endRound (S + 1) jump).run P Z = .ok (.bool jump.isNone) (Z.putObj (S + 1) (.loop (R (if jump.isNone then .ready else .done) jump))) ∧
        Z.heap[S + 1]? = some (.loop { R .ready none with state := .busy }) ∧ (Z.putObj (S + 1) (.loop (R (if jump.isNone then .ready else .done) jump))).heap[S]? = some (.deferred (some [])) ∧
        (Z.putObj (S + 1) (.loop (R (if jump.isNone then .ready else .done) jump))).heap[S + 1]? = some (.loop (R (if jump.isNone then .ready else .done) jump)) := fun jump Z hZ => by
      have lZ := hZ.same _ _ lY rfl
      have e := run_endRound (P := P) jump lZ
      rw [hR] at e ⊢
      rw [hR] at lZ
      exact ⟨e, lZ, (World.putObj_heap_other (by omega)).trans (hZ.same _ _ dY rfl), World.putObj_heap_same (Array.getElem?_eq_some_iff.1 lZ).1⟩
    rintro e a3 Z hp
    cases e with
    | normal =>
      obtain ⟨h1, h2, h3⟩ := hp
      obtain ⟨hr, lZ, dU, lU⟩ := fin none Z h1
      exact ⟨_, _, hr, .inl ⟨rfl, ⟨(hI (k + 1)).put _ _ _ _ h3 (by omega) lZ rfl, dU, lU⟩, hKt _ _ _ (hKt _ _ _ kY h2) (hKb _ _ _ (by omega))⟩⟩
    | ret =>
      obtain ⟨h1, h3⟩ := hp
      obtain ⟨hr, lZ, dU, lU⟩ := fin (some .ret) Z h1
      exact ⟨_, _, hr, .inr ⟨rfl, hIx.put _ _ _ _ h3 (by omega) lZ rfl, dU, lU⟩⟩
    | exit id => exact hp.elim
    | goto t => exact hp.elim
    | panic ch => exact hp.elim
    | outgrown => exact hp.elim
  · rintro e Z ⟨⟨v, rfl⟩, (⟨iZ, dZ, lZ⟩ | ⟨iZ, dZ, lZ⟩)⟩
    · have e := run_endLoop (P := P) lZ (by rw [hR]; simp [rec_])
      rw [hR] at e
      exact ⟨none, _, e, hdone S _ (by omega) ((hI N).put _ _ _ _ iZ (by omega) lZ rfl) ((World.putObj_heap_other (by omega)).trans dZ)⟩
    · have e := run_endLoop (P := P) lZ (by rw [hR]; simp [rec_])
      rw [hR] at e
      exact ⟨some .ret, _, e, hstop S _ (by omega) (hIx.put _ _ _ _ iZ (by omega) lZ rfl) ((World.putObj_heap_other (by omega)).trans dZ)⟩
end Go.Proofs.YtomkjmhebnecbaaGreatDoor

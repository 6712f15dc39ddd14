import Derived.Test.YtogphdflgcdiiaaDoorMbc
import Derived.Maps.Own
import Derived.StringKeys
/-
  A map with keys of one kind, in memory: made, an entry more, an entry looked up, or not found.
-/
namespace Go.Proofs.YtogphdflgcdiiaaDoor
set_option linter.unusedVariables false
set_option linter.unusedSimpArgs false
open Go.RowKit Go.Maps Go.MapKept
open Go.ChangeMaps (setBlock heap_setBlock_same heap_setBlock_other)

/-- Block b is a map with these entries, in this order. -/
def Mq (W : World) (b : Nat) (l : List (Value × Value)) : Prop := ∃ es clock, W.heap[b]? = some (.map es clock) ∧ es.toList.map (fun e => (e.key, e.val)) = l
theorem Mq.lt {W : World} {b : Nat} {l : List (Value × Value)} (h : Mq W b l) : b < W.heap.size := by
  obtain ⟨es, clock, hb, _⟩ := h
  exact (Array.getElem?_eq_some_iff.1 hb).1
theorem Mq.below {W W' : World} {b : Nat} {l : List (Value × Value)} (h : Mq W b l) (hb : Below W.heap.size W W') : Mq W' b l := by
  have hlt := h.lt
  obtain ⟨es, clock, he, hm⟩ := h
  exact ⟨es, clock, (hb.block b hlt).trans he, hm⟩
theorem Mq.made (W : World) : Mq (W.alloc (.map #[] 0)) W.heap.size [] := ⟨#[], 0, (MapKept.heap_alloc W _).1, rfl⟩
theorem Mq.mem {es : Array MapEntry} {l : List (Value × Value)} (h : es.toList.map (fun e => (e.key, e.val)) = l) {e : MapEntry} (he : e ∈ es.toList) : (e.key, e.val) ∈ l := by
  rw [← h]
  exact List.mem_map.2 ⟨e, he, rfl⟩
theorem Mq.put {P : Program} {w : World} {t k e : TypeId} {b : Nat} {l : List (Value × Value)} (ht : P.underlying t = some (.map k e)) (K : Keyed P k) (h : Mq w b l) {x : Value} {lx : Lit} (hkey : keyOf P k x = some lx) (v : Value)
    (hl : ∀ p ∈ l, ∃ m, keyOf P k p.1 = some m) (hx : ∀ p ∈ l, p.1 ≠ x) : ∃ w', (Instr.mapUpdate t (.map (some b)) x v).run P w = .ok () w' ∧ Mq w' b (l ++ [(x, v)]) ∧ w.grownBy w' (some b) := by
  obtain ⟨es, clock, hb, hm⟩ := h
  rcases K.find w hkey es.toList (fun y hy => hl _ (Mq.mem hm hy)) with ⟨h1, h2⟩ | ⟨j, e0, h1, h2, h3⟩
  · refine ⟨setBlock w b (.map (es.push ⟨x, v, clock⟩) (clock + 1)), ?_, ⟨_, _, heap_setBlock_same hb _, ?_⟩, ⟨rfl, rfl, rfl, by simp [setBlock], fun i _ hi => heap_setBlock_other hb _ (fun e => hi (by rw [e]))⟩⟩
    · have hs := K.stays w hkey
      simp [Instr.mapUpdate, run_underlying ht, MapKept.run_getObj_map hb, K.check w false hkey, h1, MapKept.run_setObj_map _ hb, Result.andThen, setBlock]
    · rw [Array.toList_push, List.map_append, hm]; rfl
  · exact absurd h3 (hx _ (Mq.mem hm (List.mem_of_getElem? h2)))
theorem Mq.look {P : Program} {w : World} {t k e : TypeId} {b : Nat} {l : List (Value × Value)} (ht : P.underlying t = some (.map k e)) (K : Keyed P k) (h : Mq w b l) {x : Value} {lx : Lit} (hkey : keyOf P k x = some lx) {v : Value} (ok : Bool)
    (hl : ∀ p ∈ l, ∃ m, keyOf P k p.1 = some m) (hm : ∃ v', (x, v') ∈ l) (hu : ∀ p ∈ l, p.1 = x → p.2 = v) : (Instr.lookup t (.map (some b)) x ok).run P w = .ok (if ok then .tuple #[v, .bool true] else v) w := by
  obtain ⟨es, clock, hb, he⟩ := h
  rcases K.find w hkey es.toList (fun y hy => hl _ (Mq.mem he hy)) with ⟨h1, h2⟩ | ⟨j, e0, h1, h2, h3⟩
  · exfalso
    obtain ⟨v', hm⟩ := hm
    rw [← he] at hm
    obtain ⟨y, hy, e1⟩ := List.mem_map.1 hm
    injection e1 with e1 _
    exact h2 y hy e1
  · have hv : e0.val = v := hu _ (Mq.mem he (List.mem_of_getElem? h2)) h3
    simp [Instr.lookup, run_underlying ht, MapKept.run_getObj_map hb, K.check w _ hkey, h1, Result.andThen, hv]
theorem Mq.miss {P : Program} {w : World} {t k e : TypeId} {b : Nat} {l : List (Value × Value)} (ht : P.underlying t = some (.map k e)) (K : Keyed P k) (h : Mq w b l) {x : Value} {lx : Lit} (hkey : keyOf P k x = some lx) {z : Value} (ok : Bool)
    (hz : (zeroValue e).run P w = .ok z w) (hl : ∀ p ∈ l, ∃ m, keyOf P k p.1 = some m) (hx : ∀ p ∈ l, p.1 ≠ x) : (Instr.lookup t (.map (some b)) x ok).run P w = .ok (if ok then .tuple #[z, .bool false] else z) w := by
  obtain ⟨es, clock, hb, he⟩ := h
  rcases K.find w hkey es.toList (fun y hy => hl _ (Mq.mem he hy)) with ⟨h1, h2⟩ | ⟨j, e0, h1, h2, h3⟩
  · simp [Instr.lookup, run_underlying ht, MapKept.run_getObj_map hb, K.check w _ hkey, h1, hz, Result.andThen]
  · exact absurd h3 (hx _ (Mq.mem he (List.mem_of_getElem? h2)))
/-- An entry of a map's literal, at the operation. -/
theorem wpList_mput {P : Program} (w : World) {ops : Array Oper} {rest : List Oper} {o : Oper} {a : Act} {Q : Exit → Act → World → Prop}
    (hg : o.guard = none) (m x v : Operand) (t : TypeId) (hop : o.op = Op.insert t m x v) (k e : TypeId) (ht : P.underlying t = some (.map k e)) (K : Keyed P k) (b : Nat) (l : List (Value × Value))
    (hm : a.eval m = .map (some b)) (h : Mq w b l) (z u : Value) (hx : a.eval x = z) (hv : a.eval v = u) (lz : Lit) (hkey : keyOf P k z = some lz) (hl : ∀ p ∈ l, ∃ m, keyOf P k p.1 = some m) (hne : ∀ p ∈ l, p.1 ≠ z)
    (hK : ∀ w', Mq w' b (l ++ [(z, u)]) → w.grownBy w' (some b) → wpList P ops Q rest (a.put o.dst undef) w') : wpList P ops Q (o :: rest) a w := by
  refine wpList_plain hg fun K' hK' => ?_
  obtain ⟨w', hrun, r1, r2⟩ := h.put ht K hkey u hl hne
  unfold Oper.wp
  simp [execOp, hop, hm, hx, hv, hrun, Result.andThen]
  exact hK' _ _ (hK w' r1 r2)
theorem mgrown {B b : Nat} {w0 w w' : World} (h : Below B w0 w) (hg : w.grownBy w' (some b)) (hB : B ≤ b) (hs : B ≤ w.heap.size) : Below B w0 w' :=
  ⟨hg.os.trans h.os, hg.tape.trans h.tape, hg.output.trans h.output, Nat.le_trans h.size hg.size, fun i hi => (hg.block i (by omega) (fun e => by injection e with e; omega)).trans (h.block i hi)⟩
end Go.Proofs.YtogphdflgcdiiaaDoor

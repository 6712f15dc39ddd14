/-
  What a row's slice of parts is, opened.
-/
import Derived.Test.YtpmndcnjmocidaaRows
import Derived.Test.YtpmndcnjmocidaaLf
import Derived.Lib.SmallJoins
import Derived.Deep.Strs
import Derived.ProofKit
import Derived.Carry
import Derived.OpenShut
namespace Go.Proofs.Ytpmndcnjmocidaa
open Go.ChangeShapes Go.WideShapes Go.ChangeAt Go.RowKit

theorem own : ownKnob Try.prog.godebug = none := by kernel_rfl
theorem laidOut : laidOutB Try.prog = true := by kernel_rfl
theorem i64_le {x : Int} (h : (Lit.int .i64 x).wf = true) : -9223372036854775808 ≤ x ∧ x ≤ 9223372036854775807 := by
  have h1 : IntKind.i64.min = -9223372036854775808 := rfl
  have h2 : IntKind.i64.max = 9223372036854775807 := rfl
  simp only [Lit.wf, Bool.and_eq_true, decide_eq_true_eq] at h
  omega
theorem take_one {α : Type} {l : List α} {k : Nat} {v : α} (h : (l.drop k).take 1 = [v]) : l[k]? = some v := by
  have h2 : ((l.drop k).take 1)[0]? = some v := by rw [h]; rfl
  rw [List.getElem?_take_of_lt (by omega), List.getElem?_drop] at h2
  simpa using h2
set_option maxRecDepth 100000 in
/-- A row's slice of parts. -/
theorem toks_opened {H : Type} {enc : TypeId × Value → H} {W : World} {r : Reach} {b0 : Nat} {v : Value} {dd : DataW H} {p : List MemPlace} (hv : Value.okWide Try.prog W r b0 22 v) (h : DataW.Trod enc Try.prog W 0 (fun _ => true) true 22 v dd p) :
    ∃ a n c f, v = .slice a n c ∧ Qs W a n f ∧ n ≤ c ∧ c ≤ maxLen ∧ ∀ j, j < n → (f j).x.size ≤ maxLen := by
  obtain ⟨a, n, c, rfl⟩ := okWide_slice Try.underlying22 hv
  obtain ⟨fuel, hf⟩ := h
  have hc2 : Try.prog.cellsOf 25 = 3 := by kernel_rfl
  have hc1 : Try.prog.cellsOf 3 = 1 := by kernel_rfl
  have hcs1 : Try.prog.cellsOf 9 = 1 := by kernel_rfl
  rcases DataW.trod_slice Try.underlying22 hf with ⟨h0, _⟩ | ⟨a', n', c', elems, rest, m, _, h0, _, hb, hl, hm, hlen, hel, _, _⟩
  · simp [Value.cells] at h0
    obtain ⟨rfl, rfl, rfl⟩ := h0
    exact ⟨none, 0, 0, fun _ => ⟨0, ⟨#[]⟩, 0⟩, rfl, fun h => by omega, Nat.le_refl _, by unfold maxLen; omega, fun j h => by omega⟩
  · simp [Value.cells] at h0
    obtain ⟨rfl, rfl, rfl⟩ := h0
    rw [hc2] at hel
    have each : ∀ i, i < n → ∃ q : Rt, W.cell? ((a'.add (i * 3)).add 0) = some (.int .i64 q.k) ∧ W.cell? ((a'.add (i * 3)).add 1) = some (.string q.x) ∧ W.cell? ((a'.add (i * 3)).add 2) = some (.int .i64 q.p) ∧ q.x.size ≤ maxLen := by
      intro i hi
      obtain ⟨y, hy⟩ : ∃ y, elems[i]? = some y := ⟨_, List.getElem?_eq_getElem (by omega)⟩
      have hb' := hel i hi
      rw [hy, Option.bind_eq_some_iff] at hb'
      obtain ⟨cs, hcs, hy'⟩ := hb'
      obtain ⟨_, _, hcell⟩ := World.cells?_some hcs
      obtain ⟨y0, y1, y2, k, _, _, h0, h1, h2⟩ := Go.Deep.trod_struct3 Try.underlying25 hy'
      rw [hc1] at h0 h2
      rw [hcs1] at h1
      obtain ⟨u, e0, _, _⟩ := DataW.trod_int Try.underlying3 h0
      obtain ⟨v, e1, _, hzv⟩ := DataW.trod_string Try.underlying9 h1
      obtain ⟨z, e2, _, _⟩ := DataW.trod_int Try.underlying3 h2
      have g0 := hcell 0 (by omega)
      have g1 := hcell 1 (by omega)
      have g2 := hcell 2 (by omega)
      have f0 : cs[0]? = some (.int .i64 u) := take_one e0
      have f1 : cs[1]? = some (.string v) := take_one e1
      have f2 : cs[2]? = some (.int .i64 z) := take_one e2
      exact ⟨⟨u, v, z⟩, g0.trans f0, g1.trans f1, g2.trans f2, hzv⟩
    rcases Nat.eq_zero_or_pos n with h0 | h0
    · subst h0
      exact ⟨some a', 0, c, fun _ => ⟨0, ⟨#[]⟩, 0⟩, rfl, fun h => by omega, hl, hm, fun j h => by omega⟩
    · obtain ⟨b, off, spot⟩ := a'
      have hspot : spot = none := by
        obtain ⟨q, hx, _⟩ := each 0 h0
        simpa [Addr.add] using World.cell?_spot hx
      subst hspot
      have each2 : ∀ i, ∃ q : Rt, i < n → W.cell? ⟨b, off + i * 3, none⟩ = some (.int .i64 q.k) ∧ W.cell? ⟨b, off + i * 3 + 1, none⟩ = some (.string q.x) ∧ W.cell? ⟨b, off + i * 3 + 2, none⟩ = some (.int .i64 q.p) ∧ q.x.size ≤ maxLen := by
        intro i
        by_cases hi : i < n
        · obtain ⟨q, hx, hy, hz, hw⟩ := each i hi
          rw [Go.WideShapes.add_plain, Go.WideShapes.add_plain] at hx hy hz
          exact ⟨q, fun _ => ⟨hx, hy, hz, hw⟩⟩
        · exact ⟨⟨0, ⟨#[]⟩, 0⟩, fun h => absurd h hi⟩
      obtain ⟨f, hf2⟩ := Classical.axiomOfChoice each2
      exact ⟨some ⟨b, off, none⟩, n, c, f, rfl, fun _ => ⟨b, off, rfl, fun j hj => ⟨(hf2 j hj).1, (hf2 j hj).2.1, (hf2 j hj).2.2.1⟩⟩, hl, hm, fun j hj => (hf2 j hj).2.2.2⟩
end Go.Proofs.Ytpmndcnjmocidaa

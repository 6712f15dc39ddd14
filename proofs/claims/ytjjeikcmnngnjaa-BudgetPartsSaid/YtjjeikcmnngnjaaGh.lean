/-
  What a row's budgets, and its slices of budgets and of small numbers, are, opened.
-/
import Derived.Test.YtjjeikcmnngnjaaRows
import Derived.Test.YtjjeikcmnngnjaaGf
import Derived.Lib.SmallJoins
import Derived.ProofKit
import Derived.Carry
import Derived.OpenShut
namespace Go.Proofs.Ytjjeikcmnngnjaa
open Go.ChangeShapes Go.WideShapes Go.ChangeAt Go.RowKit

theorem own : ownKnob Try.prog.godebug = none := by kernel_rfl
theorem laidOut : laidOutB Try.prog = true := by kernel_rfl
theorem i64_le {x : Int} (h : (Lit.int .i64 x).wf = true) : -9223372036854775808 ≤ x ∧ x ≤ 9223372036854775807 := by
  have h1 : IntKind.i64.min = -9223372036854775808 := rfl
  have h2 : IntKind.i64.max = 9223372036854775807 := rfl
  simp only [Lit.wf, Bool.and_eq_true, decide_eq_true_eq] at h
  omega
theorem u8_le {x : Int} (h : (Lit.int .u8 x).wf = true) : 0 ≤ x ∧ x ≤ 255 := by
  have h1 : IntKind.u8.min = 0 := rfl
  have h2 : IntKind.u8.max = 255 := rfl
  simp only [Lit.wf, Bool.and_eq_true, decide_eq_true_eq] at h
  omega
theorem u16_le {x : Int} (h : (Lit.int .u16 x).wf = true) : 0 ≤ x ∧ x ≤ 65535 := by
  have h1 : IntKind.u16.min = 0 := rfl
  have h2 : IntKind.u16.max = 65535 := rfl
  simp only [Lit.wf, Bool.and_eq_true, decide_eq_true_eq] at h
  omega
theorem u32_le {x : Int} (h : (Lit.int .u32 x).wf = true) : 0 ≤ x ∧ x ≤ 4294967295 := by
  have h1 : IntKind.u32.min = 0 := rfl
  have h2 : IntKind.u32.max = 4294967295 := rfl
  simp only [Lit.wf, Bool.and_eq_true, decide_eq_true_eq] at h
  omega
set_option maxRecDepth 100000 in
/-- A row's budget. -/
theorem budget_opened {H : Type} {enc : TypeId × Value → H} {W : World} {r : Reach} {b0 : Nat} {v : Value} {dd : DataW H} {p : List MemPlace} (hv : Value.okWide Try.prog W r b0 23 v) (h : DataW.Trod enc Try.prog W 0 (fun _ => true) true 23 v dd p) :
    ∃ x y, v = .agg #[.int .i64 x, .int .i64 y] ∧ (-9223372036854775808 ≤ x ∧ x ≤ 9223372036854775807) ∧ (-9223372036854775808 ≤ y ∧ y ≤ 9223372036854775807) := by
  obtain ⟨v0, v1, y0, y1, n, rfl, _, _, t0, t1⟩ := Go.Joins.open_agg2 Try.underlying23 (by kernel_rfl) (by kernel_rfl) hv h
  obtain ⟨x, h0, _, hx⟩ := DataW.trod_int Try.underlying3 t0
  obtain ⟨y, h1, _, hy⟩ := DataW.trod_int Try.underlying3 t1
  injection h0 with h0
  injection h1 with h1
  subst h0 h1
  exact ⟨x, y, rfl, i64_le hx, i64_le hy⟩
theorem take_one {α : Type} {l : List α} {k : Nat} {v : α} (h : (l.drop k).take 1 = [v]) : l[k]? = some v := by
  have h2 : ((l.drop k).take 1)[0]? = some v := by rw [h]; rfl
  rw [List.getElem?_take_of_lt (by omega), List.getElem?_drop] at h2
  simpa using h2
set_option maxRecDepth 100000 in
/-- A row's slice of budgets. -/
theorem budgets_opened {H : Type} {enc : TypeId × Value → H} {W : World} {r : Reach} {b0 : Nat} {v : Value} {dd : DataW H} {p : List MemPlace} (hv : Value.okWide Try.prog W r b0 40 v) (h : DataW.Trod enc Try.prog W 0 (fun _ => true) true 40 v dd p) :
    ∃ a n c x y, v = .slice a n c ∧ Bs W a n x y ∧ n ≤ c ∧ c ≤ maxLen := by
  obtain ⟨a, n, c, rfl⟩ := okWide_slice Try.underlying40 hv
  obtain ⟨fuel, hf⟩ := h
  have hc2 : Try.prog.cellsOf 23 = 2 := by kernel_rfl
  have hc1 : Try.prog.cellsOf 3 = 1 := by kernel_rfl
  rcases DataW.trod_slice Try.underlying40 hf with ⟨h0, _⟩ | ⟨a', n', c', elems, rest, m, _, h0, _, hb, hl, hm, hlen, hel, _, _⟩
  · simp [Value.cells] at h0
    obtain ⟨rfl, rfl, rfl⟩ := h0
    exact ⟨none, 0, 0, fun _ => 0, fun _ => 0, rfl, fun h => by omega, Nat.le_refl _, by unfold maxLen; omega⟩
  · simp [Value.cells] at h0
    obtain ⟨rfl, rfl, rfl⟩ := h0
    rw [hc2] at hel
    have each : ∀ i, i < n → ∃ x y, W.cell? ((a'.add (i * 2)).add 0) = some (.int .i64 x) ∧ W.cell? ((a'.add (i * 2)).add 1) = some (.int .i64 y) := by
      intro i hi
      obtain ⟨y, hy⟩ : ∃ y, elems[i]? = some y := ⟨_, List.getElem?_eq_getElem (by omega)⟩
      have hb' := hel i hi
      rw [hy, Option.bind_eq_some_iff] at hb'
      obtain ⟨cs, hcs, hy'⟩ := hb'
      obtain ⟨_, _, hcell⟩ := World.cells?_some hcs
      obtain ⟨y0, y1, k, _, _, h0, h1⟩ := trod_struct2 Try.underlying23 hy'
      rw [hc1] at h0 h1
      obtain ⟨u, e0, _, _⟩ := DataW.trod_int Try.underlying3 h0
      obtain ⟨v, e1, _, _⟩ := DataW.trod_int Try.underlying3 h1
      have g0 := hcell 0 (by omega)
      have g1 := hcell 1 (by omega)
      have f0 : cs[0]? = some (.int .i64 u) := take_one e0
      have f1 : cs[1]? = some (.int .i64 v) := take_one e1
      exact ⟨u, v, g0.trans f0, g1.trans f1⟩
    rcases Nat.eq_zero_or_pos n with h0 | h0
    · subst h0
      exact ⟨some a', 0, c, fun _ => 0, fun _ => 0, rfl, fun h => by omega, hl, hm⟩
    · obtain ⟨b, off, spot⟩ := a'
      have hspot : spot = none := by
        obtain ⟨x, y, hx, _⟩ := each 0 h0
        simpa [Addr.add] using World.cell?_spot hx
      subst hspot
      have each2 : ∀ i, ∃ q : Int × Int, i < n → W.cell? ⟨b, off + i * 2, none⟩ = some (.int .i64 q.1) ∧ W.cell? ⟨b, off + i * 2 + 1, none⟩ = some (.int .i64 q.2) := by
        intro i
        by_cases hi : i < n
        · obtain ⟨x, y, hx, hy⟩ := each i hi
          rw [Go.WideShapes.add_plain, Go.WideShapes.add_plain] at hx hy
          exact ⟨(x, y), fun _ => ⟨hx, hy⟩⟩
        · exact ⟨(0, 0), fun h => absurd h hi⟩
      obtain ⟨f, hf2⟩ := Classical.axiomOfChoice each2
      exact ⟨some ⟨b, off, none⟩, n, c, fun i => (f i).1, fun i => (f i).2, rfl, fun _ => ⟨b, off, rfl, hf2⟩, hl, hm⟩
/-- A slice of small numbers, read by a function. -/
def Us (W : World) (a : Option Addr) (n : Nat) (f : Nat → Int) : Prop := 0 < n → ∃ b off, a = some ⟨b, off, none⟩ ∧ ∀ j, j < n → W.cell? ⟨b, off + j, none⟩ = some (.int .u16 (f j)) ∧ 0 ≤ f j ∧ f j ≤ 65535
set_option maxRecDepth 100000 in
theorem u16s_opened {H : Type} {enc : TypeId × Value → H} {W : World} {r : Reach} {b0 : Nat} {v : Value} {dd : DataW H} {p : List MemPlace} (hv : Value.okWide Try.prog W r b0 46 v) (h : DataW.Trod enc Try.prog W 0 (fun _ => true) true 46 v dd p) :
    ∃ a n c f, v = .slice a n c ∧ Us W a n f ∧ n ≤ c ∧ c ≤ maxLen := by
  obtain ⟨a, n, c, rfl⟩ := okWide_slice Try.underlying46 hv
  obtain ⟨fuel, hf⟩ := h
  have hc : Try.prog.cellsOf 47 = 1 := by kernel_rfl
  rcases open_ints Try.underlying46 Try.underlying47 hc hf with ⟨hcs, _⟩ | ⟨a', n', c', zs, hcs, _, hle, hmax, hall, _, hcell, hwf⟩
  · simp [Value.cells] at hcs
    obtain ⟨rfl, rfl, rfl⟩ := hcs
    exact ⟨none, 0, 0, fun _ => 0, rfl, fun h => by omega, Nat.le_refl _, by unfold maxLen; omega⟩
  · simp [Value.cells] at hcs
    obtain ⟨rfl, rfl, rfl⟩ := hcs
    simp only [if_true] at hall
    refine ⟨some a', n, c, fun j => zs.getD j 0, rfl, fun hn => ?_, hle, hmax⟩
    obtain ⟨b, off, spot⟩ := a'
    have hspot : spot = none := by simpa [Addr.add] using World.cell?_spot (hcell 0 (by omega))
    subst hspot
    refine ⟨b, off, rfl, fun j hj => ⟨?_, ?_⟩⟩
    · rw [← Go.WideShapes.add_plain]; exact hcell j (by omega)
    · have hj2 : j < zs.length := by omega
      have := u16_le (hwf (zs.getD j 0) (by rw [List.getD_eq_getElem?_getD, List.getElem?_eq_getElem hj2]; exact List.getElem_mem hj2))
      exact this
end Go.Proofs.Ytjjeikcmnngnjaa

import Derived.Test.YtjpjccilnmlmnaaGreatDoorMad
import Derived.Test.YtjpjccilnmlmnaaGreatDoorMaf
import Derived.Lib.SmallJoins
import Derived.SliceStrings
import Derived.ProofKit
import Derived.Carry
import Derived.OpenShut
/-
  What a row's arrays are, opened.
-/
namespace Go.Proofs.YtjpjccilnmlmnaaGreatDoor
set_option linter.unusedVariables false
set_option linter.unusedSimpArgs false
open Go.ChangeShapes Go.WideShapes Go.ChangeAt Go.RowKit

theorem laidOut : laidOutB Tryz.prog = true := by kernel_rfl
theorem strings_at {w : World} {a : Addr} {ss : List ByteArray} (h : ∀ i, i < ss.length → w.cell? (a.add i) = some (.string (ss.getD i ByteArray.empty))) (hp : 0 < ss.length) :
    ∃ b off, a = ⟨b, off, none⟩ ∧ ∀ j, j < ss.length → w.cell? ⟨b, off + j, none⟩ = some (.string (ss.getD j ByteArray.empty)) := by
  obtain ⟨b, off, spot⟩ := a
  have hspot : spot = none := by simpa [Addr.add] using World.cell?_spot (h 0 hp)
  subst hspot
  exact ⟨b, off, rfl, fun j hj => by rw [← Go.WideShapes.add_plain]; exact h j hj⟩
theorem i64_of {x : Int} (h : (Lit.int .i64 x).wf = true) : I64 x := by
  have h1 : IntKind.i64.min = -9223372036854775808 := rfl
  have h2 : IntKind.i64.max = 9223372036854775807 := rfl
  simp only [Lit.wf, Bool.and_eq_true, decide_eq_true_eq] at h
  unfold I64
  omega
theorem u8_of {x : Int} (h : (Lit.int .u8 x).wf = true) : 0 ≤ x ∧ x ≤ 255 := by
  have h1 : IntKind.u8.min = 0 := rfl
  have h2 : IntKind.u8.max = 255 := rfl
  simp only [Lit.wf, Bool.and_eq_true, decide_eq_true_eq] at h
  omega
theorem u16_of {x : Int} (h : (Lit.int .u16 x).wf = true) : 0 ≤ x ∧ x ≤ 65535 := by
  have h1 : IntKind.u16.min = 0 := rfl
  have h2 : IntKind.u16.max = 65535 := rfl
  simp only [Lit.wf, Bool.and_eq_true, decide_eq_true_eq] at h
  omega
theorem ints_opened {H : Type} {enc : TypeId × Value → H} {W : World} {fuel : Nat} {v : Value} {x : DataW H × List MemPlace} (hf : DataW.trod enc Tryz.prog W 0 (fun _ => true) true fuel 22 [v] = some x) :
    ∃ a n c l, v = .slice a n c ∧ Sl W a n l ∧ (∀ j, j < n → I64 (l.getD j 0)) ∧ n ≤ c ∧ c ≤ maxLen := by
  have hc : Tryz.prog.cellsOf 3 = 1 := by kernel_rfl
  rcases open_ints Tryz.underlying22 Tryz.underlying3 hc hf with ⟨hcs, _⟩ | ⟨a', n', c', zs, hcs, _, hle, hmax, hall, _, hcell, hwf⟩
  · simp at hcs
    exact ⟨none, 0, 0, [], hcs, Sl.nil _ _, fun j hj => by omega, Nat.le_refl _, by unfold maxLen; omega⟩
  · simp at hcs
    simp only [if_true] at hall
    have hget : ∀ j, j < n' → (zs.take n').getD j 0 = zs.getD j 0 := fun j hj => by simp [List.getD, List.getElem?_take_of_lt hj]
    refine ⟨some a', n', c', zs.take n', hcs, ⟨by simp; omega, fun hn => ?_⟩, fun j hj => ?_, hle, hmax⟩
    · obtain ⟨b, off, rfl, hc2⟩ := ints_at hcell (by omega)
      exact ⟨b, off, rfl, fun j hj => by rw [hc2 j (by omega), hget j hj]⟩
    · rw [hget j hj, List.getD_eq_getElem?_getD, List.getElem?_eq_getElem (show j < zs.length by omega)]
      exact i64_of (hwf _ (List.getElem_mem _))
theorem strs_opened {H : Type} {enc : TypeId × Value → H} {W : World} {fuel : Nat} {v : Value} {x : DataW H × List MemPlace} (hf : DataW.trod enc Tryz.prog W 0 (fun _ => true) true fuel 23 [v] = some x) :
    ∃ a n c l, v = .slice a n c ∧ St W a n l ∧ (∀ j, j < n → (l.getD j ByteArray.empty).size ≤ maxLen) ∧ n ≤ c ∧ c ≤ maxLen := by
  have hc : Tryz.prog.cellsOf 9 = 1 := by kernel_rfl
  rcases open_strings Tryz.underlying23 Tryz.underlying9 hc hf with ⟨hcs, _⟩ | ⟨a', n', c', zs, hcs, _, hle, hmax, hall, _, hcell, hwf⟩
  · simp at hcs
    exact ⟨none, 0, 0, [], hcs, St.nil _ _, fun j hj => by omega, Nat.le_refl _, by unfold maxLen; omega⟩
  · simp at hcs
    simp only [if_true] at hall
    have hget : ∀ j, j < n' → (zs.take n').getD j ByteArray.empty = zs.getD j ByteArray.empty := fun j hj => by simp [List.getD, List.getElem?_take_of_lt hj]
    refine ⟨some a', n', c', zs.take n', hcs, ⟨by simp; omega, fun hn => ?_⟩, fun j hj => ?_, hle, hmax⟩
    · obtain ⟨b, off, rfl, hc2⟩ := strings_at hcell (by omega)
      exact ⟨b, off, rfl, fun j hj => by rw [hc2 j (by omega), hget j hj]⟩
    · rw [hget j hj, List.getD_eq_getElem?_getD, List.getElem?_eq_getElem (show j < zs.length by omega)]
      exact hwf _ (List.getElem_mem _)
set_option maxRecDepth 100000 in
theorem ints_row {H : Type} {enc : TypeId × Value → H} {W : World} {r : Reach} {b0 : Nat} {v : Value} {dd : DataW H} {p : List MemPlace} (hv : Value.okWide Tryz.prog W r b0 22 v) (h : DataW.Trod enc Tryz.prog W 0 (fun _ => true) true 22 v dd p) :
    ∃ a n c l, v = .slice a n c ∧ Sl W a n l ∧ (∀ j, j < n → I64 (l.getD j 0)) ∧ n ≤ c ∧ c ≤ maxLen := by
  obtain ⟨a, n, c, rfl⟩ := okWide_slice Tryz.underlying22 hv
  obtain ⟨fuel, hf⟩ := h
  exact ints_opened hf
theorem maxLen_i64 : maxLen ≤ 9223372036854775807 := by unfold maxLen; omega
set_option maxRecDepth 100000 in
/-- A row's array. -/
theorem val_opened {H : Type} {enc : TypeId × Value → H} {W : World} {r : Reach} {b0 : Nat} {v : Value} {dd : DataW H} {p : List MemPlace} (hv : Value.okWide Tryz.prog W r b0 25 v) (h : DataW.Trod enc Tryz.prog W 0 (fun _ => true) true 25 v dd p) :
    ∃ a n c b m d l es, v = .agg #[.slice a n c, .slice b m d] ∧ Vl W a n b m l es ∧ Cp n c m d ∧ (∀ j, j < m → (es.getD j ByteArray.empty).size ≤ maxLen) := by
  obtain ⟨v0, v1, y0, y1, n, rfl, _, _, t0, t1⟩ := Go.Joins.open_agg2 Tryz.underlying25 (by kernel_rfl) (by kernel_rfl) hv h
  obtain ⟨a, k, c, l, rfl, hs, _, q1, q2⟩ := ints_opened t0
  obtain ⟨b, m, d, es, rfl, ht, hz, q3, q4⟩ := strs_opened t1
  exact ⟨a, k, c, b, m, d, l, es, rfl, ⟨hs, ht, Nat.le_trans (Nat.le_trans q3 q4) maxLen_i64⟩, ⟨q1, q2, q3, q4⟩, hz⟩
end Go.Proofs.YtjpjccilnmlmnaaGreatDoor

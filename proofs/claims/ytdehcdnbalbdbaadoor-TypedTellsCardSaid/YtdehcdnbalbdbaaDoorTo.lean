/-
  What a row's typed arrays are, opened.
-/
import Derived.Test.YtdehcdnbalbdbaaDoorVo
import Derived.Test.YtdehcdnbalbdbaaDoorTd
namespace Go.Proofs.YtdehcdnbalbdbaaDoor
open Go.ChangeShapes Go.WideShapes Go.ChangeAt Go.RowKit

set_option maxRecDepth 100000 in
/-- A row's typed array. -/
theorem typed_opened {H : Type} {enc : TypeId × Value → H} {W : World} {r : Reach} {b0 : Nat} {v : Value} {dd : DataW H} {p : List MemPlace} (hv : Value.okWide Tryd.prog W r b0 33 v) (h : DataW.Trod enc Tryd.prog W 0 (fun _ => true) true 33 v dd p) :
    ∃ w a n c l s, v = .agg #[.int .i64 w, .slice a n c, .string s] ∧ I64 w ∧ Sl W a n l ∧ (∀ j, j < n → I64 (l.getD j 0)) ∧ n ≤ c ∧ c ≤ maxLen ∧ s.size ≤ maxLen := by
  obtain ⟨v0, v1, v2, y0, y1, y2, n, rfl, _, _, t0, t1, t2⟩ := Go.Joins.open_agg3 Tryd.underlying33 (by kernel_rfl) (by kernel_rfl) hv h
  obtain ⟨x, h0, _, hx⟩ := DataW.trod_int Tryd.underlying3 t0
  obtain ⟨a, k, c, l, rfl, hs, hi, q1, q2⟩ := ints_opened t1
  obtain ⟨s, h2, _, hz⟩ := DataW.trod_string Tryd.underlying9 t2
  injection h0 with h0
  injection h2 with h2
  subst h0 h2
  exact ⟨x, a, k, c, l, s, rfl, i64_of hx, hs, hi, q1, q2, hz⟩
end Go.Proofs.YtdehcdnbalbdbaaDoor

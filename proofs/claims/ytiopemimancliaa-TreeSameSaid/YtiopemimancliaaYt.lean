/-
  What a row's node, and its slice of nodes, is, opened.
-/
import Derived.Test.YtiopemimancliaaRows
import Derived.Test.YtiopemimancliaaYp
import Derived.Lib.SmallJoins
import Derived.SliceStrings
import Derived.Deep.Strs
import Derived.ProofKit
import Derived.Carry
import Derived.OpenShut
import Derived.SizedLaws
namespace Go.Proofs.Ytiopemimancliaa
open Go.ChangeShapes Go.WideShapes Go.ChangeAt Go.RowKit

theorem own : ownKnob Try.prog.godebug = none := by kernel_rfl
theorem laidOut : laidOutB Try.prog = true := by kernel_rfl
theorem i64_le {x : Int} (h : (Lit.int .i64 x).wf = true) : -9223372036854775808 ≤ x ∧ x ≤ 9223372036854775807 := by
  have h1 : IntKind.i64.min = -9223372036854775808 := rfl
  have h2 : IntKind.i64.max = 9223372036854775807 := rfl
  simp only [Lit.wf, Bool.and_eq_true, decide_eq_true_eq] at h
  omega
theorem one_of {a b : Value} (h : [a] = [b]) : a = b := by cases h; rfl
set_option maxRecDepth 100000 in
/-- A node's five cells, as a row has them. -/
theorem node_trod {H : Type} {enc : TypeId × Value → H} {W : World} {fuel : Nat} {cs : List Value} {x : DataW H × List MemPlace} (h : DataW.trod enc Try.prog W 0 (fun _ => true) true fuel 25 cs = some x) :
    ∃ (d : Nd) (p0 p1 p2 p3 p4 : DataW H), cs = d.cells ∧ d.on W ∧ x.1 = .agg [p0, p1, p2, p3, p4] ∧ (d.m = 0 ∨ ∃ el sp, p4 = .slice el sp ∧ d.m ≤ el.length + sp.length) := by
  obtain ⟨xs, n, _, rfl, hl, hlen, hf⟩ := DataW.trod_struct Try.underlying25 h
  have hc : Try.prog.cellsOf 25 = 5 := by kernel_rfl
  have ki : Try.prog.cellsOf 3 = 1 := by kernel_rfl
  have ks : Try.prog.cellsOf 9 = 1 := by kernel_rfl
  have kl : Try.prog.cellsOf 23 = 1 := by kernel_rfl
  rw [hc] at hl
  match cs, hl with
  | [c0, c1, c2, c3, c4], _ =>
    match xs, hlen with
    | [y0, y1, y2, y3, y4], _ =>
      have h0 : DataW.trod enc Try.prog W 0 (fun _ => true) true n 3 (([c0, c1, c2, c3, c4].drop 0).take (Try.prog.cellsOf 3)) = some y0 := hf 0 _ rfl
      rw [ki] at h0
      have h1 : DataW.trod enc Try.prog W 0 (fun _ => true) true n 9 (([c0, c1, c2, c3, c4].drop 1).take (Try.prog.cellsOf 9)) = some y1 := hf 1 _ rfl
      rw [ks] at h1
      have h2 : DataW.trod enc Try.prog W 0 (fun _ => true) true n 9 (([c0, c1, c2, c3, c4].drop 2).take (Try.prog.cellsOf 9)) = some y2 := hf 2 _ rfl
      rw [ks] at h2
      have h3 : DataW.trod enc Try.prog W 0 (fun _ => true) true n 9 (([c0, c1, c2, c3, c4].drop 3).take (Try.prog.cellsOf 9)) = some y3 := hf 3 _ rfl
      rw [ks] at h3
      have h4 : DataW.trod enc Try.prog W 0 (fun _ => true) true n 23 (([c0, c1, c2, c3, c4].drop 4).take (Try.prog.cellsOf 23)) = some y4 := hf 4 _ rfl
      rw [kl] at h4
      obtain ⟨k, e0, _, hk⟩ := DataW.trod_int Try.underlying3 h0
      obtain ⟨v, e1, _, hv⟩ := DataW.trod_string Try.underlying9 h1
      obtain ⟨a, e2, _, ha⟩ := DataW.trod_string Try.underlying9 h2
      obtain ⟨z, e3, _, hz⟩ := DataW.trod_string Try.underlying9 h3
      replace e0 := one_of (show [_] = [_] from e0)
      replace e1 := one_of (show [_] = [_] from e1)
      replace e2 := one_of (show [_] = [_] from e2)
      replace e3 := one_of (show [_] = [_] from e3)
      have hkk := i64_le hk
      subst e0 e1 e2 e3
      rcases open_strings Try.underlying23 Try.underlying9 ks h4 with ⟨e4, _⟩ | ⟨ad, len, cap, ss, e4, _, hle, hm, hlen2, hx, hcell, hsz⟩
      · replace e4 := one_of (show [_] = [_] from e4)
        subst e4
        exact ⟨⟨k, v, a, z, none, 0, 0, []⟩, y0.1, y1.1, y2.1, y3.1, y4.1, rfl, ⟨St.nil _ _, Nat.le_refl _, Nat.zero_le _, hkk.1, hkk.2, hv, ha, hz, fun s hs => by cases hs⟩, rfl, .inl rfl⟩
      · replace e4 := one_of (show [_] = [_] from e4)
        subst e4
        simp only [if_true] at hlen2
        have hlt : (ss.take len).length = len := by rw [List.length_take]; omega
        refine ⟨⟨k, v, a, z, some ad, len, cap, ss.take len⟩, y0.1, y1.1, y2.1, y3.1, y4.1, rfl, ⟨⟨hlt, fun hn => ?_⟩, hle, hm, hkk.1, hkk.2, hv, ha, hz, fun s hs => hsz s (List.mem_of_mem_take hs)⟩, rfl, .inr ⟨_, _, by rw [hx], ?_⟩⟩
        · have hn : 0 < len := hn
          obtain ⟨b, off, spot⟩ := ad
          have hs0 := hcell 0 (by omega)
          have hspot : spot = none := by simpa [Addr.add] using World.cell?_spot hs0
          subst hspot
          refine ⟨b, off, rfl, fun j hj => ?_⟩
          have hj : j < len := hj
          have hc := hcell j (by omega)
          rw [Go.WideShapes.add_plain] at hc
          rw [hc]
          show some (Value.string (ss.getD j ByteArray.empty)) = some (.string ((ss.take len).getD j ByteArray.empty))
          rw [List.getD_eq_getElem?_getD, List.getD_eq_getElem?_getD, List.getElem?_take_of_lt hj]
        · unfold strs
          simp
          omega
set_option maxRecDepth 100000 in
/-- A row's node. -/
theorem node_opened {H : Type} {enc : TypeId × Value → H} {W : World} {r : Reach} {b0 : Nat} {v : Value} {dd : DataW H} {p : List MemPlace} (hv : Value.okWide Try.prog W r b0 25 v) (h : DataW.Trod enc Try.prog W 0 (fun _ => true) true 25 v dd p) :
    ∃ (d : Nd) (p0 p1 p2 p3 p4 : DataW H), v = d.val ∧ d.on W ∧ dd = .agg [p0, p1, p2, p3, p4] ∧ (d.m = 0 ∨ ∃ el sp, p4 = .slice el sp ∧ d.m ≤ el.length + sp.length) := by
  obtain ⟨cs, rfl, _⟩ := okWide_struct Try.underlying25 hv
  obtain ⟨fuel, hf⟩ := h
  obtain ⟨d, p0, p1, p2, p3, p4, hc, ho, hx, hw⟩ := node_trod hf
  refine ⟨d, p0, p1, p2, p3, p4, ?_, ho, hx, hw⟩
  have hc : cs.toList = d.cells := by simpa [Value.cells] using hc
  obtain ⟨l⟩ := cs
  have hc : l = d.cells := hc
  rw [hc]; rfl
/-- How many numbers a row's node may have: the form's own reach. -/
theorem node_sized {H : Type} {ts : List TypeId} {ds : List (DataW H)} {d : Nd} {p0 p1 p2 p3 p4 : DataW H} (h : (DataW.weightsEach Try.prog ts ds).all (· ≤ reachBytes) = true) {j : Nat} (ht : ts[j]? = some 25) (hd : ds[j]? = some (.agg [p0, p1, p2, p3, p4]))
    (hm : d.m = 0 ∨ ∃ el sp, p4 = .slice el sp ∧ d.m ≤ el.length + sp.length) : d.m * 16 ≤ 140737488351232 := by
  rcases hm with h0 | ⟨el, sp, rfl, hle⟩
  · rw [h0]; omega
  · have hb : Try.prog.bytesOf 9 = 16 := by kernel_rfl
    have := List.all_eq_true.1 h _ (DataW.weights_mem_each ht hd ((el.length + sp.length) * Try.prog.bytesOf 9) (by simp [DataW.weights, DataW.weightsEach, Try.underlying25, Try.underlying23]))
    rw [hb] at this
    have h2 : (el.length + sp.length) * 16 ≤ reachBytes := of_decide_eq_true this
    have h3 : reachBytes = 140737488351232 := by decide
    omega
set_option maxRecDepth 100000 in
/-- A row's slice of nodes. -/
theorem nodes_opened {H : Type} {enc : TypeId × Value → H} {W : World} {r : Reach} {b0 : Nat} {v : Value} {dd : DataW H} {p : List MemPlace} (hv : Value.okWide Try.prog W r b0 22 v) (h : DataW.Trod enc Try.prog W 0 (fun _ => true) true 22 v dd p) :
    ∃ a n c f, v = .slice a n c ∧ Nq W a n f ∧ n ≤ c ∧ c ≤ maxLen := by
  obtain ⟨a, n, c, rfl⟩ := okWide_slice Try.underlying22 hv
  obtain ⟨fuel, hf⟩ := h
  have hc5 : Try.prog.cellsOf 25 = 5 := by kernel_rfl
  rcases DataW.trod_slice Try.underlying22 hf with ⟨h0, _⟩ | ⟨a', n', c', elems, rest, m, _, h0, _, hb, hl, hm, hlen, hel, _, _⟩
  · simp [Value.cells] at h0
    obtain ⟨rfl, rfl, rfl⟩ := h0
    exact ⟨none, 0, 0, fun _ => ⟨0, ⟨#[]⟩, ⟨#[]⟩, ⟨#[]⟩, none, 0, 0, []⟩, rfl, Nq.nil _ _ _, Nat.le_refl _, by unfold maxLen; omega⟩
  · simp [Value.cells] at h0
    obtain ⟨rfl, rfl, rfl⟩ := h0
    rw [hc5] at hel
    have each : ∀ i, i < n → ∃ d : Nd, d.on W ∧ ∀ j, j < 5 → W.cell? ((a'.add (i * 5)).add j) = d.cells[j]? := by
      intro i hi
      obtain ⟨y, hy⟩ : ∃ y, elems[i]? = some y := ⟨_, List.getElem?_eq_getElem (by omega)⟩
      have hb' := hel i hi
      rw [hy, Option.bind_eq_some_iff] at hb'
      obtain ⟨cs, hcs, hy'⟩ := hb'
      obtain ⟨_, _, hcell⟩ := World.cells?_some hcs
      obtain ⟨d, _, _, _, _, _, hcd, ho, _, _⟩ := node_trod hy'
      exact ⟨d, ho, fun j hj => by rw [← hcd]; exact hcell j (by omega)⟩
    rcases Nat.eq_zero_or_pos n with h0 | h0
    · subst h0
      exact ⟨some a', 0, c, fun _ => ⟨0, ⟨#[]⟩, ⟨#[]⟩, ⟨#[]⟩, none, 0, 0, []⟩, rfl, Nq.nil _ _ _, hl, hm⟩
    · obtain ⟨b, off, spot⟩ := a'
      have hspot : spot = none := by
        obtain ⟨d, _, hx⟩ := each 0 h0
        have := hx 0 (by omega)
        simpa [Addr.add] using World.cell?_spot (show W.cell? _ = some (.int .i64 d.k) from this)
      subst hspot
      have each2 : ∀ i, ∃ d : Nd, i < n → d.on W ∧ Ld W b (off + i * 5) d := by
        intro i
        by_cases hi : i < n
        · obtain ⟨d, ho, hx⟩ := each i hi
          refine ⟨d, fun _ => ⟨ho, ?_⟩⟩
          have g : ∀ j, j < 5 → W.cell? ⟨b, off + i * 5 + j, none⟩ = d.cells[j]? := fun j hj => by
            have := hx j hj
            rw [Go.WideShapes.add_plain, Go.WideShapes.add_plain] at this
            exact this
          exact ⟨g 0 (by omega), g 1 (by omega), g 2 (by omega), g 3 (by omega), g 4 (by omega)⟩
        · exact ⟨⟨0, ⟨#[]⟩, ⟨#[]⟩, ⟨#[]⟩, none, 0, 0, []⟩, fun h => absurd h hi⟩
      obtain ⟨f, hf2⟩ := Classical.axiomOfChoice each2
      exact ⟨some ⟨b, off, none⟩, n, c, f, rfl, ⟨fun _ => ⟨b, off, rfl, fun j hj => (hf2 j hj).2⟩, fun j hj => (hf2 j hj).1⟩, hl, hm⟩
end Go.Proofs.Ytiopemimancliaa

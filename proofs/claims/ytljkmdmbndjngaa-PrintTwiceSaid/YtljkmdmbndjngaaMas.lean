import Derived.Test.YtljkmdmbndjngaaRows
import Derived.Test.YtljkmdmbndjngaaMai
import Derived.Lib.SmallJoins
import Derived.SliceStrings
import Derived.Deep.Strs
import Derived.ProofKit
import Derived.Carry
import Derived.OpenShut
import Derived.SizedLaws
import Derived.Test.YtljkmdmbndjngaaMar
import Derived.Test.YtljkmdmbndjngaaMac
/-
  What a row's node, and its slice of nodes, is, opened.
-/
namespace Go.Proofs.Ytljkmdmbndjngaa
set_option linter.unusedVariables false
set_option linter.unusedSimpArgs false
open Go.ChangeShapes Go.WideShapes Go.ChangeAt Go.RowKit

theorem own : ownKnob Try.prog.godebug = none := by kernel_rfl
theorem laidOut : laidOutB Try.prog = true := by kernel_rfl
theorem i64_le {x : Int} (h : (Lit.int .i64 x).wf = true) : -9223372036854775808 ≤ x ∧ x ≤ 9223372036854775807 := by
  have h1 : IntKind.i64.min = -9223372036854775808 := rfl
  have h2 : IntKind.i64.max = 9223372036854775807 := rfl
  simp only [Lit.wf, Bool.and_eq_true, decide_eq_true_eq] at h
  omega
theorem one_of {a b : Value} (h : [a] = [b]) : a = b := by cases h; rfl
set_option maxRecDepth 100000 in
/-- A node's five cells, as a row has them. -/
theorem node_trod {H : Type} {enc : TypeId × Value → H} {W : World} {fuel : Nat} {cs : List Value} {x : DataW H × List MemPlace} (h : DataW.trod enc Try.prog W 0 (fun _ => true) true fuel 36 cs = some x) :
    ∃ (d : Nd) (p0 p1 p2 p3 p4 : DataW H), cs = d.cells ∧ d.on W ∧ x.1 = .agg [p0, p1, p2, p3, p4] ∧ (d.m = 0 ∨ ∃ el sp, p4 = .slice el sp ∧ d.m ≤ el.length + sp.length) := by
  obtain ⟨xs, n, _, rfl, hl, hlen, hf⟩ := DataW.trod_struct Try.underlying36 h
  have hc : Try.prog.cellsOf 36 = 5 := by kernel_rfl
  have ki : Try.prog.cellsOf 3 = 1 := by kernel_rfl
  have ks : Try.prog.cellsOf 9 = 1 := by kernel_rfl
  have kl : Try.prog.cellsOf 34 = 1 := by kernel_rfl
  rw [hc] at hl
  match cs, hl with
  | [c0, c1, c2, c3, c4], _ =>
    match xs, hlen with
    | [y0, y1, y2, y3, y4], _ =>
      have h0 : DataW.trod enc Try.prog W 0 (fun _ => true) true n 3 (([c0, c1, c2, c3, c4].drop 0).take (Try.prog.cellsOf 3)) = some y0 := hf 0 _ rfl
      rw [ki] at h0
      have h1 : DataW.trod enc Try.prog W 0 (fun _ => true) true n 9 (([c0, c1, c2, c3, c4].drop 1).take (Try.prog.cellsOf 9)) = some y1 := hf 1 _ rfl
      rw [ks] at h1
      have h2 : DataW.trod enc Try.prog W 0 (fun _ => true) true n 9 (([c0, c1, c2, c3, c4].drop 2).take (Try.prog.cellsOf 9)) = some y2 := hf 2 _ rfl
      rw [ks] at h2
      have h3 : DataW.trod enc Try.prog W 0 (fun _ => true) true n 9 (([c0, c1, c2, c3, c4].drop 3).take (Try.prog.cellsOf 9)) = some y3 := hf 3 _ rfl
      rw [ks] at h3
      have h4 : DataW.trod enc Try.prog W 0 (fun _ => true) true n 34 (([c0, c1, c2, c3, c4].drop 4).take (Try.prog.cellsOf 34)) = some y4 := hf 4 _ rfl
      rw [kl] at h4
      obtain ⟨k, e0, _, hk⟩ := DataW.trod_int Try.underlying3 h0
      obtain ⟨v, e1, _, hv⟩ := DataW.trod_string Try.underlying9 h1
      obtain ⟨a, e2, _, ha⟩ := DataW.trod_string Try.underlying9 h2
      obtain ⟨z, e3, _, hz⟩ := DataW.trod_string Try.underlying9 h3
      replace e0 := one_of (show [_] = [_] from e0)
      replace e1 := one_of (show [_] = [_] from e1)
      replace e2 := one_of (show [_] = [_] from e2)
      replace e3 := one_of (show [_] = [_] from e3)
      have hkk := i64_le hk
      subst e0 e1 e2 e3
      rcases open_strings Try.underlying34 Try.underlying9 ks h4 with ⟨e4, _⟩ | ⟨ad, len, cap, ss, e4, _, hle, hm, hlen2, hx, hcell, hsz⟩
      · replace e4 := one_of (show [_] = [_] from e4)
        subst e4
        exact ⟨⟨k, v, a, z, none, 0, 0, []⟩, y0.1, y1.1, y2.1, y3.1, y4.1, rfl, ⟨St.nil _ _, Nat.le_refl _, Nat.zero_le _, hkk.1, hkk.2, hv, ha, hz, fun s hs => by cases hs⟩, rfl, .inl rfl⟩
      · replace e4 := one_of (show [_] = [_] from e4)
        subst e4
        simp only [if_true] at hlen2
        have hlt : (ss.take len).length = len := by rw [List.length_take]; omega
        refine ⟨⟨k, v, a, z, some ad, len, cap, ss.take len⟩, y0.1, y1.1, y2.1, y3.1, y4.1, rfl, ⟨⟨hlt, fun hn => ?_⟩, hle, hm, hkk.1, hkk.2, hv, ha, hz, fun s hs => hsz s (List.mem_of_mem_take hs)⟩, rfl, .inr ⟨_, _, by rw [hx], ?_⟩⟩
        · have hn : 0 < len := hn
          obtain ⟨b, off, spot⟩ := ad
          have hs0 := hcell 0 (by omega)
          have hspot : spot = none := by simpa [Addr.add] using World.cell?_spot hs0
          subst hspot
          refine ⟨b, off, rfl, fun j hj => ?_⟩
          have hj : j < len := hj
          have hc := hcell j (by omega)
          rw [Go.WideShapes.add_plain] at hc
          rw [hc]
          show some (Value.string (ss.getD j ByteArray.empty)) = some (.string ((ss.take len).getD j ByteArray.empty))
          rw [List.getD_eq_getElem?_getD, List.getD_eq_getElem?_getD, List.getElem?_take_of_lt hj]
        · unfold strs
          simp
          omega
set_option maxRecDepth 100000 in
/-- A row's node. -/
theorem node_opened {H : Type} {enc : TypeId × Value → H} {W : World} {r : Reach} {b0 : Nat} {v : Value} {dd : DataW H} {p : List MemPlace} (hv : Value.okWide Try.prog W r b0 36 v) (h : DataW.Trod enc Try.prog W 0 (fun _ => true) true 36 v dd p) :
    ∃ (d : Nd) (p0 p1 p2 p3 p4 : DataW H), v = d.val ∧ d.on W ∧ dd = .agg [p0, p1, p2, p3, p4] ∧ (d.m = 0 ∨ ∃ el sp, p4 = .slice el sp ∧ d.m ≤ el.length + sp.length) := by
  obtain ⟨cs, rfl, _⟩ := okWide_struct Try.underlying36 hv
  obtain ⟨fuel, hf⟩ := h
  obtain ⟨d, p0, p1, p2, p3, p4, hc, ho, hx, hw⟩ := node_trod hf
  refine ⟨d, p0, p1, p2, p3, p4, ?_, ho, hx, hw⟩
  have hc : cs.toList = d.cells := by simpa [Value.cells] using hc
  obtain ⟨l⟩ := cs
  have hc : l = d.cells := hc
  rw [hc]; rfl
/-- How many numbers a row's node may have: the form's own reach. -/
theorem node_sized {H : Type} {ts : List TypeId} {ds : List (DataW H)} {d : Nd} {p0 p1 p2 p3 p4 : DataW H} (h : (DataW.weightsEach Try.prog ts ds).all (· ≤ reachBytes) = true) {j : Nat} (ht : ts[j]? = some 36) (hd : ds[j]? = some (.agg [p0, p1, p2, p3, p4]))
    (hm : d.m = 0 ∨ ∃ el sp, p4 = .slice el sp ∧ d.m ≤ el.length + sp.length) : d.m * 16 ≤ 140737488351232 := by
  rcases hm with h0 | ⟨el, sp, rfl, hle⟩
  · rw [h0]; omega
  · have hb : Try.prog.bytesOf 9 = 16 := by kernel_rfl
    have := List.all_eq_true.1 h _ (DataW.weights_mem_each ht hd ((el.length + sp.length) * Try.prog.bytesOf 9) (by simp [DataW.weights, DataW.weightsEach, Try.underlying36, Try.underlying34]))
    rw [hb] at this
    have h2 : (el.length + sp.length) * 16 ≤ reachBytes := of_decide_eq_true this
    have h3 : reachBytes = 140737488351232 := by decide
    omega
set_option maxRecDepth 100000 in
/-- A row's slice of nodes. -/
theorem nodes_opened {H : Type} {enc : TypeId × Value → H} {W : World} {r : Reach} {b0 : Nat} {v : Value} {dd : DataW H} {p : List MemPlace} (hv : Value.okWide Try.prog W r b0 22 v) (h : DataW.Trod enc Try.prog W 0 (fun _ => true) true 22 v dd p) :
    ∃ a n c f, v = .slice a n c ∧ Nq W a n f ∧ n ≤ c ∧ c ≤ maxLen := by
  obtain ⟨a, n, c, rfl⟩ := okWide_slice Try.underlying22 hv
  obtain ⟨fuel, hf⟩ := h
  have hc5 : Try.prog.cellsOf 36 = 5 := by kernel_rfl
  rcases DataW.trod_slice Try.underlying22 hf with ⟨h0, _⟩ | ⟨a', n', c', elems, rest, m, _, h0, _, hb, hl, hm, hlen, hel, _, _⟩
  · simp [Value.cells] at h0
    obtain ⟨rfl, rfl, rfl⟩ := h0
    exact ⟨none, 0, 0, fun _ => ⟨0, ⟨#[]⟩, ⟨#[]⟩, ⟨#[]⟩, none, 0, 0, []⟩, rfl, Nq.nil _ _ _, Nat.le_refl _, by unfold maxLen; omega⟩
  · simp [Value.cells] at h0
    obtain ⟨rfl, rfl, rfl⟩ := h0
    rw [hc5] at hel
    have each : ∀ i, i < n → ∃ d : Nd, d.on W ∧ ∀ j, j < 5 → W.cell? ((a'.add (i * 5)).add j) = d.cells[j]? := by
      intro i hi
      obtain ⟨y, hy⟩ : ∃ y, elems[i]? = some y := ⟨_, List.getElem?_eq_getElem (by omega)⟩
      have hb' := hel i hi
      rw [hy, Option.bind_eq_some_iff] at hb'
      obtain ⟨cs, hcs, hy'⟩ := hb'
      obtain ⟨_, _, hcell⟩ := World.cells?_some hcs
      obtain ⟨d, _, _, _, _, _, hcd, ho, _, _⟩ := node_trod hy'
      exact ⟨d, ho, fun j hj => by rw [← hcd]; exact hcell j (by omega)⟩
    rcases Nat.eq_zero_or_pos n with h0 | h0
    · subst h0
      exact ⟨some a', 0, c, fun _ => ⟨0, ⟨#[]⟩, ⟨#[]⟩, ⟨#[]⟩, none, 0, 0, []⟩, rfl, Nq.nil _ _ _, hl, hm⟩
    · obtain ⟨b, off, spot⟩ := a'
      have hspot : spot = none := by
        obtain ⟨d, _, hx⟩ := each 0 h0
        have := hx 0 (by omega)
        simpa [Addr.add] using World.cell?_spot (show W.cell? _ = some (.int .i64 d.k) from this)
      subst hspot
      have each2 : ∀ i, ∃ d : Nd, i < n → d.on W ∧ Ld W b (off + i * 5) d := by
        intro i
        by_cases hi : i < n
        · obtain ⟨d, ho, hx⟩ := each i hi
          refine ⟨d, fun _ => ⟨ho, ?_⟩⟩
          have g : ∀ j, j < 5 → W.cell? ⟨b, off + i * 5 + j, none⟩ = d.cells[j]? := fun j hj => by
            have := hx j hj
            rw [Go.WideShapes.add_plain, Go.WideShapes.add_plain] at this
            exact this
          exact ⟨g 0 (by omega), g 1 (by omega), g 2 (by omega), g 3 (by omega), g 4 (by omega)⟩
        · exact ⟨⟨0, ⟨#[]⟩, ⟨#[]⟩, ⟨#[]⟩, none, 0, 0, []⟩, fun h => absurd h hi⟩
      obtain ⟨f, hf2⟩ := Classical.axiomOfChoice each2
      exact ⟨some ⟨b, off, none⟩, n, c, f, rfl, ⟨fun _ => ⟨b, off, rfl, fun j hj => (hf2 j hj).2⟩, fun j hj => (hf2 j hj).1⟩, hl, hm⟩
end Go.Proofs.Ytljkmdmbndjngaa
/-
  The document's example.
-/
namespace Go.Proofs.Ytljkmdmbndjngaa
set_option linter.unusedVariables false
set_option linter.unusedSimpArgs false
open Go.RowKit Go.Maps

def exTs : List Tk := [⟨6, [40], 1⟩, ⟨1, [49], 3⟩, ⟨4, [43], 4⟩, ⟨1, [50], 5⟩, ⟨6, [41], 7⟩, ⟨4, [42], 9⟩, ⟨2, [120], 11⟩]
def exL : List Tn := [⟨4, [43], [], [], []⟩, ⟨1, [], [], [], [numT [49]]⟩, ⟨1, [], [], [], [numT [50]]⟩]
def exX : List Tn := ⟨4, [42], [], [], []⟩ :: (exL ++ [⟨2, [], [], [120], []⟩])
theorem ex_run : Run numB [32, 40, 32, 49, 43, 50, 32, 41, 32, 42, 32, 120] 0 exTs none :=
  .blank (by decide) (.own (k := 6) (by decide) (by decide) (by decide) (.blank (by decide)
    (.byte (k := 1) (by decide) (by decide) (by decide) (.cons (by decide)) (fun _ => by decide) (.own (k := 4) (by decide) (by decide) (by decide)
      (.byte (k := 1) (by decide) (by decide) (by decide) (.cons (by decide)) (fun _ => by decide) (.blank (by decide) (.own (k := 6) (by decide) (by decide) (by decide) (.blank (by decide)
        (.own (k := 4) (by decide) (by decide) (by decide) (.blank (by decide) (.byte (k := 2) (by decide) (by decide) (by decide) (.nil _) (fun h => by cases h) (.nil _))))))))))))
theorem no_vb {q : Pk} {r : List Pk} (h : (decide (q.k = 3) || decide (q.k = 4) || decide (q.k = 6 ∧ q.t = [123])) = false) : ¬ isVb (q :: r) := fun g => by
  rcases (show q.k = 3 ∨ q.k = 4 ∨ (q.k = 6 ∧ q.t = [123]) from g) with g | g | g <;> simp [g] at h
theorem no_mk {q : Pk} {r : List Pk} {c : UInt8} (h : (decide (q.k = 6) && decide (q.t = [c])) = false) : ¬ isMk c (q :: r) := fun g => by
  obtain ⟨g1, g2⟩ := (show q.k = 6 ∧ q.t = [c] from g)
  simp [g1, g2] at h
theorem ex_num {c : UInt8} {p : Int} {q : Pk} {r : List Pk} (hq : q.k ≠ 1) : Rd' numT .atom (⟨1, [c], p⟩ :: q :: r) (some [⟨1, [], [], [], [numT [c]]⟩]) (q :: r) := by
  have e : nmL (⟨1, [c], p⟩ :: q :: r) = [[c]] := by
    show (if (1 : Int) = 1 then [c] :: nmL (q :: r) else []) = _
    rw [if_pos rfl, show nmL (q :: r) = [] from if_neg hq]
  have h := Rd'.m_nums (M := numT) (ts := ⟨1, [c], p⟩ :: q :: r) (by rw [e]; simp) (by rw [e]; simp)
  rw [e] at h
  exact h
theorem ex_ln : Ln numT (pks exTs) (some exX) [] := by
  refine .plain (fun h => absurd (show (6 : Int) = 2 from h.1) (by decide)) (fun h => absurd (show (6 : Int) = 3 from h.1) (by decide)) ?_
  refine .e_term (L := exL) (no_vb (by decide)) (.t_is (L := exL) (.m_par rfl rfl (.c_is (q := ⟨6, [41], 7⟩) (r := [⟨4, [42], 9⟩, ⟨2, [120], 11⟩]) ?_ rfl rfl)) (.b_end (no_mk (by decide)))) (.a_op (.inr (.inl rfl)) ?_)
  · refine .e_term (L := [⟨1, [], [], [], [numT [49]]⟩]) (no_vb (by decide)) (.t_is (L := [⟨1, [], [], [], [numT [49]]⟩]) (ex_num (by decide)) (.b_end (no_mk (by decide)))) (.a_op (.inr (.inl rfl)) ?_)
    exact .o_is (V := [⟨4, [43], [], [], []⟩]) (x := some [⟨1, [], [], [], [numT [50]]⟩]) (.v_one (.inr rfl) (.d_none (fun h => absurd (show (1 : Int) = 5 from h) (by decide)))) (.e_term (L := [⟨1, [], [], [], [numT [50]]⟩]) (no_vb (by decide)) (.t_is (L := [⟨1, [], [], [], [numT [50]]⟩]) (ex_num (by decide)) (.b_end (no_mk (by decide)))) (.a_end (no_vb (by decide))))
  · exact .o_is (V := [⟨4, [42], [], [], []⟩]) (x := some [⟨2, [], [], [120], []⟩]) (.v_one (.inr rfl) (.d_none (fun h => absurd (show (2 : Int) = 5 from h) (by decide)))) (.e_term (no_vb (by decide)) (.t_is (.m_word rfl) (.b_end id)) (.a_end id))
theorem nu_one {c : UInt8} (h : cls c = 1) (hn : numB [c] = true) : Nu numB [c] := ⟨⟨c, [], rfl, h, by simp⟩, hn⟩
theorem ex_pr : PrL numB numT exX [40, 49, 43, 50, 41, 42, 120] := by
  have one : ∀ {c : UInt8}, cls c = 1 → numB [c] = true → Pr numB numT .left [⟨1, [], [], [], [numT [c]]⟩] [c] := fun h hn => .lit (ss := [[_]]) (by simp) (by simp) (fun s hs => by
    obtain rfl : s = [_] := by simpa using hs
    exact nu_one h hn)
  have h1 : Pr numB numT .whole exL [49, 43, 50] := .dyad (V := [⟨4, [43], [], [], []⟩]) (L := [⟨1, [], [], [], [numT [49]]⟩]) (X := [⟨1, [], [], [], [numT [50]]⟩]) (l := [49]) (s := [43] ++ []) (t := [50]) (one (by decide) (by decide)) (.one (.sign (by decide)) (.inl rfl)) (.plain (one (by decide) (by decide)) (not_op (.inl rfl)))
  have h2 : Pr numB numT .left exL [40, 49, 43, 50, 41] := .paren h1 ⟨_, _, rfl, .inr rfl⟩
  exact .expr (.dyad (V := [⟨4, [42], [], [], []⟩]) (L := exL) (X := [⟨2, [], [], [120], []⟩]) (l := [40, 49, 43, 50, 41]) (s := [42] ++ []) (t := [120]) h2 (.one (.sign (by decide)) (.inl rfl)) (.plain (.name (by decide) (by simp)) (not_op (.inr (.inl rfl)))))
theorem ex_dp : Dp exX 1 3 := by
  have h1 : Dp [(⟨1, [], [], [], [numT [49]]⟩ : Tn)] 1 1 := .cons (k := 0) rfl .nil
  have h2 : Dp [(⟨1, [], [], [], [numT [50]]⟩ : Tn)] 1 1 := .cons (k := 0) rfl .nil
  have h3 : Dp [(⟨2, [], [], [120], []⟩ : Tn)] 1 1 := .cons (k := 0) rfl .nil
  have h4 : Dp exL 1 2 := .cons (k := 2) rfl (h1.app h2)
  exact .cons (k := 2) rfl (h4.app h3)
set_option maxHeartbeats 1600000 in
theorem shownP_is (W : World) : Calls Try.prog 7 #[] W (TrueEnd W) := by
  have hz : (⟨#[32, 40, 32, 49, 43, 50, 32, 41, 32, 42, 32, 120]⟩ : ByteArray).size ≤ 256 := by decide
  have K1 := Lib.hid (show Calls Try.prog 13 #[.string ⟨#[32, 40, 32, 49, 43, 50, 32, 41, 32, 42, 32, 120]⟩] W (CnEnd ⟨#[40, 49, 43, 50, 41, 42, 120]⟩ 0 0 W) from
    Can_yes _ (mx_of hz ex_run ex_ln ex_dp (by decide) (by decide)) ex_pr (fun W => (Parse_ok _ hz _ ex_run ex_ln W).mono fun e W' h => h.tree ex_dp (by decide)) W)
  go_enter Try.func7, Try.ntmps7
  go_wp2_with fail
  refine K1.out.mono ?_
  rintro e w1 ⟨rfl, hb⟩
  go_wp2_with fail
  go_ret
  exact ⟨rfl, hb⟩
end Go.Proofs.Ytljkmdmbndjngaa
/-
  PrintBack, at every row of nodes.
-/
namespace Go.Proofs.Ytljkmdmbndjngaa
set_option linter.unusedVariables false
set_option linter.unusedSimpArgs false
open Go.RowKit Go.Maps

theorem nx_of {a : Option Addr} {n c : Nat} {f : Nat → Nd} {W : World} (h : Nq W a n f) (hnc : n ≤ c) (hc : c ≤ maxLen) : Nx W a n c (tnF f n) := ⟨f, h, hnc, hc, rfl⟩
theorem maxLen_int {n c : Nat} (hnc : n ≤ c) (hc : c ≤ maxLen) : n ≤ 9223372036854775807 := maxLen_le (Nat.le_trans hnc hc)
set_option maxHeartbeats 6400000 in
set_option maxRecDepth 10000 in
theorem back_any (a : Option Addr) (n c : Nat) (f : Nat → Nd) (W : World) (h : Nq W a n f) (hnc : n ≤ c) (hc : c ≤ maxLen) : Calls Try.prog 3 #[.slice a n c] W (TrueEnd W) := by
  have KS := Lib.hid (fun w => shownP_is w)
  have KF := Lib.hid (fun w (hb : Below W.heap.size W w) => Few_is a n c f w (h.below hb) (maxLen_int hnc hc))
  have H := Lib.hid h
  have HX := Lib.hid (nx_of h hnc hc)
  have HNC := Lib.hid hnc
  have HC := Lib.hid hc
  clear h hnc hc
  go_enter Try.func3, Try.ntmps3
  go_wp2_with fail
  refine (KS.out _).mono ?_
  rintro e w1 ⟨rfl, hb1⟩
  have KF1 := KF.out w1 hb1
  go_wp2_with fail
  refine KF1.mono ?_
  rintro e w2 ⟨r, rfl, hr, hb2⟩
  have HR := Lib.hid hr
  have HB2 := Lib.hid (hb1.trans (hb2.mono hb1.size))
  clear hb1 hb2 hr KF KF1 KS
  cases r with
  | false =>
    go_wp2_with fail
    go_ret
    exact ⟨rfl, HB2.out⟩
  | true =>
    have hn80 : n ≤ 80 := (HR.out rfl).1
    by_cases hm : mayP f n
    · have hpr := may_prT hm
      obtain ⟨d, hd, h40⟩ := hm.dp
      have KP := Lib.hid (fun w (hb : Below W.heap.size W w) => Print_yes a n c f w (H.out.below hb) HNC.out HC.out (by omega) hm hpr)
      have hl := tnF_len f n
      by_cases hz : (prT (tnF f n)).length ≤ 256
      · have KB := Lib.hid (fun w => back_parse hpr hz hd h40 w)
        have KM := Lib.hid (fun a' n' c' w (hb : Below W.heap.size W w) (h1 : Nx w a' n' c' (tnF f n)) => same_nx (by omega) h1 (HX.out.below hb))
        have hz2 : (tx (prT (tnF f n))).size ≤ 256 := hz
        clear hpr hd h40 hz hm hl
        generalize tx (prT (tnF f n)) = st at *
        have e1 : ¬ (256 : Int) < (st.size : Int) := by omega
        have KP1 := Lib.hid (KP.out w2 HB2.out)
        clear KP
        go_wp2_with fail
        refine KP1.out.mono ?_
        rintro e w3 ⟨rfl, hb3⟩
        have HB3 := Lib.hid (HB2.out.trans (hb3.mono HB2.out.size))
        clear hb3 KP1
        go_wp2_with fail
        refine (KB.out _).mono ?_
        rintro e w4 ⟨a4, n4, c4, rfl, hN, hb4⟩
        have HB4 := Lib.hid (HB3.out.trans (hb4.mono HB3.out.size))
        have KM4 := Lib.hid (KM.out _ _ _ _ HB4.out hN)
        clear hb4 hN KM KB
        go_wp2_with fail
        refine KM4.out.mono ?_
        rintro e w5 ⟨rfl, hb5⟩
        have HB5 := Lib.hid (HB4.out.trans (hb5.mono HB4.out.size))
        clear hb5 KM4
        go_wp2_with fail
        go_ret
        exact ⟨rfl, HB5.out⟩
      · have hz2 : 256 < (tx (prT (tnF f n))).size := by rw [tx_size]; omega
        have hz3 : (tx (prT (tnF f n))).size ≤ 20000000000 := by
          rw [tx_size]
          exact (may_pt hm (by omega) hpr).size
        have KB := Lib.hid (fun w => big_fl hz2 (by omega) w)
        clear hpr hd h40 hz hm hl
        generalize tx (prT (tnF f n)) = st at *
        have e1 : (256 : Int) < (st.size : Int) := by omega
        have KP1 := Lib.hid (KP.out w2 HB2.out)
        clear KP
        go_wp2_with fail
        refine KP1.out.mono ?_
        rintro e w3 ⟨rfl, hb3⟩
        have HB3 := Lib.hid (HB2.out.trans (hb3.mono HB2.out.size))
        clear hb3 KP1
        go_wp2_with fail
        refine (KB.out _).mono ?_
        rintro e w4 ⟨rfl, hb4⟩
        have HB4 := Lib.hid (HB3.out.trans (hb4.mono HB3.out.size))
        clear hb4 KB
        go_wp2_with fail
        go_ret
        exact ⟨rfl, HB4.out⟩
    · have KP1 := Lib.hid (Print_no a n c f w2 (H.out.below HB2.out) HNC.out HC.out (by omega) hm)
      have KM := Lib.hid (fun w (hb : Below W.heap.size W w) => (show Calls Try.prog 10 #[.slice a n c] w (ValEnd (.bool false) w) from mayB_no hm ▸ TMay_is a n c f w (H.out.below hb) HNC.out HC.out (by omega)))
      clear hm
      go_wp2_with fail
      refine KP1.out.mono ?_
      rintro e w3 ⟨rfl, hb3⟩
      have HB3 := Lib.hid (HB2.out.trans (hb3.mono HB2.out.size))
      have KM3 := Lib.hid (KM.out _ HB3.out)
      clear hb3 KP1 KM
      go_wp2_with fail
      refine KM3.out.mono ?_
      rintro e w4 ⟨rfl, hb4⟩
      have HB4 := Lib.hid (HB3.out.trans (hb4.mono HB3.out.size))
      clear hb4 KM3
      go_wp2_with fail
      go_ret
      exact ⟨rfl, HB4.out⟩
end Go.Proofs.Ytljkmdmbndjngaa
/-
  PrintTwice, at every text.
-/
namespace Go.Proofs.Ytljkmdmbndjngaa
set_option linter.unusedVariables false
set_option linter.unusedSimpArgs false
open Go.RowKit Go.Maps

/-- Any plain nodes are those of some row. -/
theorem tn_ex (X : List Tn) : ∃ f, tnF f X.length = X := by
  refine ⟨fun i => ⟨(X.getD i ⟨0, [], [], [], []⟩).k, tx (X.getD i ⟨0, [], [], [], []⟩).v, tx (X.getD i ⟨0, [], [], [], []⟩).a, tx (X.getD i ⟨0, [], [], [], []⟩).x, none, 0, 0, (X.getD i ⟨0, [], [], [], []⟩).ns.map tx⟩, ?_⟩
  refine List.ext_getElem (by rw [tnF_len]) fun i h1 h2 => ?_
  have e : X.getD i ⟨0, [], [], [], []⟩ = X[i] := by simp [List.getD, h2]
  have g : (tnF (fun i => (⟨(X.getD i ⟨0, [], [], [], []⟩).k, tx (X.getD i ⟨0, [], [], [], []⟩).v, tx (X.getD i ⟨0, [], [], [], []⟩).a, tx (X.getD i ⟨0, [], [], [], []⟩).x, none, 0, 0, (X.getD i ⟨0, [], [], [], []⟩).ns.map tx⟩ : Nd)) X.length)[i]? = some X[i] := by
    rw [tnF_at h2]
    show some (Tn.mk _ _ _ _ _) = _
    rw [e]
    simp only [tx_list, List.map_map]
    have : ((fun x : ByteArray => x.data.toList) ∘ tx) = id := rfl
    rw [this, List.map_id]
  rw [List.getElem?_eq_getElem h1] at g
  exact Option.some.inj g
theorem Mx.pr {X : List Tn} (h : Mx X) : PrL numB numT X (prT X) ∧ (prT X).length ≤ 20000000000 := by
  obtain ⟨f, e⟩ := tn_ex X
  have hm := h.2.2 f _ e
  have g := may_prT hm
  have hz := (may_pt hm (by have := h.1; omega) g).size
  rw [e] at g hz
  exact ⟨g, hz⟩
set_option maxHeartbeats 6400000 in
set_option maxRecDepth 10000 in
theorem twice_any (s : ByteArray) (hs : s.size ≤ 4611686018427387903) (W : World) : Calls Try.prog 4 #[.string s] W (TrueEnd W) := by
  have KS := Lib.hid (fun w => shownP_is w)
  by_cases hz : 600 < s.size
  · have e1 : (600 : Int) < (s.size : Int) := by omega
    clear hz
    go_enter Try.func4, Try.ntmps4
    go_wp2_with fail
    refine (KS.out _).mono ?_
    rintro e w1 ⟨rfl, hb1⟩
    go_wp2_with fail
    go_ret
    exact ⟨rfl, hb1⟩
  have e1 : ¬ (600 : Int) < (s.size : Int) := by omega
  clear hz
  cases Pc.any s (by omega) with
  | no p q hq K =>
    have KC := Lib.hid (fun W => Can_no s p q hq K W)
    have KP := Lib.hid K
    clear K
    rcases hq with rfl | rfl | rfl
    all_goals
      go_enter Try.func4, Try.ntmps4
      go_wp2_with fail
      refine (KS.out _).mono ?_
      rintro e w1 ⟨rfl, hb1⟩
      go_wp2_with fail
      refine (KC.out _).mono ?_
      rintro e w2 ⟨rfl, hb2⟩
      replace hb2 := hb1.trans (hb2.mono hb1.size)
      clear hb1
      go_wp2_with fail
      refine (KP.out _).mono ?_
      rintro e w3 ⟨rfl, hb3⟩
      replace hb3 := hb2.trans (hb3.mono hb2.size)
      clear hb2
      go_wp2_with fail
      go_ret
      exact ⟨rfl, hb3⟩
  | yes ts X d _ hr hl hd h40 hX K =>
    obtain ⟨hpr, hlen⟩ := hX.pr
    have KC := Lib.hid (fun W => Can_yes s hX hpr K W)
    have KP := Lib.hid K
    by_cases hz : (prT X).length ≤ 256
    · have KB := fun w => back_parse hpr hz hd h40 w
      have KC2 := Lib.hid (fun W => Can_yes (tx (prT X)) hX hpr KB W)
      replace KB := Lib.hid KB
      have KM := Lib.hid (fun a n c b m e w (h1 : Nx w a n c X) (h2 : Nx w b m e X) => same_nx (by have := hX.1; omega) h1 h2)
      have hz2 : (tx (prT X)).size ≤ 256 := hz
      clear K hpr hlen hz hd h40 hl hr hX
      generalize tx (prT X) = st at *
      have e2 : ¬ (256 : Int) < (st.size : Int) := by omega
      go_enter Try.func4, Try.ntmps4
      go_wp2_with fail
      refine (KS.out _).mono ?_
      rintro e w1 ⟨rfl, hb1⟩
      go_wp2_with fail
      refine (KC.out _).mono ?_
      rintro e w2 ⟨rfl, hb2⟩
      replace hb2 := Lib.hid (hb1.trans (hb2.mono hb1.size))
      clear hb1
      go_wp2_with fail
      refine (KP.out _).mono ?_
      rintro e w3 ⟨a3, n3, c3, rfl, hN3, hb3⟩
      replace hb3 := Lib.hid (hb2.out.trans (hb3.mono hb2.out.size))
      have HN3 := Lib.hid hN3
      clear hb2 hN3
      go_wp2_with fail
      refine (KC2.out _).mono ?_
      rintro e w4 ⟨rfl, hb4⟩
      have HN4 := Lib.hid (HN3.out.below hb4)
      replace hb4 := Lib.hid (hb3.out.trans (hb4.mono hb3.out.size))
      clear hb3 HN3
      go_wp2_with fail
      refine (KB.out _).mono ?_
      rintro e w5 ⟨a5, n5, c5, rfl, hN5, hb5⟩
      have KM5 := Lib.hid (KM.out _ _ _ _ _ _ _ hN5 (HN4.out.below hb5))
      replace hb5 := Lib.hid (hb4.out.trans (hb5.mono hb4.out.size))
      clear hb4 HN4 hN5 KM
      go_wp2_with fail
      refine KM5.out.mono ?_
      rintro e w6 ⟨rfl, hb6⟩
      replace hb6 := Lib.hid (hb5.out.trans (hb6.mono hb5.out.size))
      clear hb5
      go_wp2_with fail
      go_ret
      exact ⟨rfl, hb6.out⟩
    · have hz2 : 256 < (tx (prT X)).size := by rw [tx_size]; omega
      have hz3 : (tx (prT X)).size ≤ 20000000000 := hlen
      have KB := fun w => big_fl hz2 (by omega) w
      have KC2 := Lib.hid (fun W => Can_no (tx (prT X)) 0 8 (.inr (.inr rfl)) KB W)
      replace KB := Lib.hid KB
      clear K hpr hlen hz hd h40 hl hr hX
      generalize tx (prT X) = st at *
      have e2 : (256 : Int) < (st.size : Int) := by omega
      go_enter Try.func4, Try.ntmps4
      go_wp2_with fail
      refine (KS.out _).mono ?_
      rintro e w1 ⟨rfl, hb1⟩
      go_wp2_with fail
      refine (KC.out _).mono ?_
      rintro e w2 ⟨rfl, hb2⟩
      replace hb2 := Lib.hid (hb1.trans (hb2.mono hb1.size))
      clear hb1
      go_wp2_with fail
      refine (KP.out _).mono ?_
      rintro e w3 ⟨a3, n3, c3, rfl, hN3, hb3⟩
      replace hb3 := Lib.hid (hb2.out.trans (hb3.mono hb2.out.size))
      clear hb2 hN3
      go_wp2_with fail
      refine (KC2.out _).mono ?_
      rintro e w4 ⟨rfl, hb4⟩
      replace hb4 := Lib.hid (hb3.out.trans (hb4.mono hb3.out.size))
      clear hb3
      go_wp2_with fail
      refine (KB.out _).mono ?_
      rintro e w5 ⟨rfl, hb5⟩
      replace hb5 := Lib.hid (hb4.out.trans (hb5.mono hb4.out.size))
      clear hb4
      go_wp2_with fail
      go_ret
      exact ⟨rfl, hb5.out⟩
end Go.Proofs.Ytljkmdmbndjngaa
/-
  PrintOnes, at every two rows of nodes.
-/
namespace Go.Proofs.Ytljkmdmbndjngaa
set_option linter.unusedVariables false
set_option linter.unusedSimpArgs false
open Go.RowKit Go.Maps

/-- What is printed tells what it was printed of. -/
theorem PrL.inj {X Y : List Tn} {s : List UInt8} (h : PrL numB numT X s) (g : PrL numB numT Y s) : X = Y := by
  obtain ⟨ts, h1, h2⟩ := h.back
  obtain ⟨us, g1, g2⟩ := g.back
  obtain ⟨rfl, _⟩ := h1.det g1
  have := (h2.det g2).1
  injection this
/-- Print of a row of few nodes, both ways at once. -/
theorem Print_any (a : Option Addr) (n c : Nat) (f : Nat → Nd) (hnc : n ≤ c) (hc : c ≤ maxLen) (hn : n ≤ 80) : (∀ W, Nq W a n f → Calls Try.prog 9 #[.slice a n c] W (PnEnd ⟨#[]⟩ 1 W)) ∨ ∃ s, PrL numB numT (tnF f n) s ∧ (∀ Y, PrL numB numT Y s → Y = tnF f n) ∧ s = prT (tnF f n) ∧ s.length ≤ 20000000000 ∧ ∀ W, Nq W a n f → Calls Try.prog 9 #[.slice a n c] W (PnEnd (tx s) 0 W) := by
  by_cases hm : mayP f n
  · have hp := may_prT hm
    exact .inr ⟨_, hp, fun Y h => h.inj hp, rfl, (may_pt hm (by omega) hp).size, fun W h => Print_yes a n c f W h hnc hc (by omega) hm hp⟩
  · exact .inl fun W h => Print_no a n c f W h hnc hc (by omega) hm
set_option maxHeartbeats 6400000 in
set_option maxRecDepth 10000 in
theorem ones_any (a : Option Addr) (n c : Nat) (f : Nat → Nd) (b : Option Addr) (m d : Nat) (g : Nat → Nd) (W : World) (h : Nq W a n f) (hnc : n ≤ c) (hc : c ≤ maxLen) (h' : Nq W b m g) (hmd : m ≤ d) (hd : d ≤ maxLen) : Calls Try.prog 5 #[.slice a n c, .slice b m d] W (TrueEnd W) := by
  have KS := Lib.hid (fun w => shownP_is w)
  have KF := Lib.hid (fun w (hb : Below W.heap.size W w) => Few_is a n c f w (h.below hb) (maxLen_int hnc hc))
  have KG := Lib.hid (fun w (hb : Below W.heap.size W w) => Few_is b m d g w (h'.below hb) (maxLen_int hmd hd))
  have KA := Lib.hid (fun hn => Print_any a n c f hnc hc hn)
  have KB := Lib.hid (fun hn => Print_any b m d g hmd hd hn)
  have H := Lib.hid h
  have H' := Lib.hid h'
  have KM := Lib.hid (fun w (hb : Below W.heap.size W w) (hn : n ≤ 80) (hm : m ≤ 80) => Same_is a b n m c d f g w (h.below hb) (h'.below hb) (by omega) (by omega))
  clear h hnc hc h' hmd hd
  go_enter Try.func5, Try.ntmps5
  go_wp2_with fail
  refine (KS.out _).mono ?_
  rintro e w1 ⟨rfl, hb1⟩
  have KF1 := KF.out w1 hb1
  go_wp2_with fail
  refine KF1.mono ?_
  rintro e w2 ⟨r, rfl, hr, hb2⟩
  have HR := Lib.hid hr
  have HB2 := Lib.hid (hb1.trans (hb2.mono hb1.size))
  clear hb1 hb2 hr KF KF1 KS
  cases r with
  | false =>
    go_wp2_with fail
    go_ret
    exact ⟨rfl, HB2.out⟩
  | true =>
    have hn80 : n ≤ 80 := (HR.out rfl).1
    have KG2 := KG.out w2 HB2.out
    go_wp2_with fail
    refine KG2.mono ?_
    rintro e w3 ⟨r, rfl, hr, hb3⟩
    have HR3 := Lib.hid hr
    have HB3 := Lib.hid (HB2.out.trans (hb3.mono HB2.out.size))
    clear hb3 hr KG KG2 HB2 HR
    cases r with
    | false =>
      go_wp2_with fail
      go_ret
      exact ⟨rfl, HB3.out⟩
    | true =>
      have hm80 : m ≤ 80 := (HR3.out rfl).1
      have KM2 := Lib.hid (fun w hb => KM.out w hb hn80 hm80)
      clear KM HR3
      have CA := KA.out hn80
      have CB := KB.out hm80
      clear KA KB hn80 hm80
      rcases CA with KA | ⟨s, hs1, hs2, hs3, hsz, KA⟩
      · rcases CB with KB | ⟨t, ht1, ht2, ht3, htz, KB⟩
        all_goals
          first | clear ht1 ht2 ht3 | skip
          have KA3 := Lib.hid (KA w3 (H.out.below HB3.out))
          have KB3 := Lib.hid (fun w hb => KB w (H'.out.below hb))
          clear KA KB KM2
          go_wp2_with fail
          refine KA3.out.mono ?_
          rintro e w4 ⟨rfl, hb4⟩
          have HB4 := Lib.hid (HB3.out.trans (hb4.mono HB3.out.size))
          have KB4 := Lib.hid (KB3.out _ HB4.out)
          clear hb4 HB3 KA3 KB3
          go_wp2_with fail
          refine KB4.out.mono ?_
          rintro e w5 ⟨rfl, hb5⟩
          have HB5 := Lib.hid (HB4.out.trans (hb5.mono HB4.out.size))
          clear hb5 HB4 KB4
          go_wp2_with fail
          go_ret
          exact ⟨rfl, HB5.out⟩
      · rcases CB with KB | ⟨t, ht1, ht2, ht3, htz, KB⟩
        · clear hs1 hs2 hs3
          have KA3 := Lib.hid (KA w3 (H.out.below HB3.out))
          have KB3 := Lib.hid (fun w hb => KB w (H'.out.below hb))
          clear KA KB KM2
          go_wp2_with fail
          refine KA3.out.mono ?_
          rintro e w4 ⟨rfl, hb4⟩
          have HB4 := Lib.hid (HB3.out.trans (hb4.mono HB3.out.size))
          have KB4 := Lib.hid (KB3.out _ HB4.out)
          clear hb4 HB3 KA3 KB3
          go_wp2_with fail
          refine KB4.out.mono ?_
          rintro e w5 ⟨rfl, hb5⟩
          have HB5 := Lib.hid (HB4.out.trans (hb5.mono HB4.out.size))
          clear hb5 HB4 KB4
          go_wp2_with fail
          go_ret
          exact ⟨rfl, HB5.out⟩
        · have z1 : (tx s).size ≤ 20000000000 := hsz
          have z2 : (tx t).size ≤ 20000000000 := htz
          clear hsz htz
          have key : ((tx s = tx t) ∧ (decide (n = m) && sameL f g n) = true) ∨ ((tx s ≠ tx t) ∧ (decide (n = m) && sameL f g n) = false) := by
            by_cases hX : tnF f n = tnF g m
            · exact .inl ⟨by rw [hs3, ht3, hX], same_tn.2 hX⟩
            · refine .inr ⟨fun e => hX ?_, same_no hX⟩
              have e2 : s = t := by have := congrArg (·.data.toList) e; exact this
              subst e2
              exact ht2 _ hs1
          clear hs1 hs2 hs3 ht1 ht2 ht3
          have KA3 := Lib.hid (KA w3 (H.out.below HB3.out))
          have KB3 := Lib.hid (fun w hb => KB w (H'.out.below hb))
          clear KA KB
          generalize tx s = su at *
          generalize tx t = tu at *
          generalize (decide (n = m) && sameL f g n) = eq at *
          rcases key with ⟨rfl, rfl⟩ | ⟨hne, rfl⟩
          · by_cases hz : su.size ≤ 256
            · have e1 : ¬ (256 : Int) < (su.size : Int) := by omega
              clear hz
              go_wp2_with fail
              refine KA3.out.mono ?_
              rintro e w4 ⟨rfl, hb4⟩
              have HB4 := Lib.hid (HB3.out.trans (hb4.mono HB3.out.size))
              have KB4 := Lib.hid (KB3.out _ HB4.out)
              clear hb4 HB3 KA3 KB3
              go_wp2_with fail
              refine KB4.out.mono ?_
              rintro e w5 ⟨rfl, hb5⟩
              have HB5 := Lib.hid (HB4.out.trans (hb5.mono HB4.out.size))
              have KM5 := Lib.hid (KM2.out _ HB5.out)
              clear hb5 HB4 KB4 KM2
              go_wp2_with fail
              refine KM5.out.mono ?_
              rintro e w6 ⟨rfl, hb6⟩
              have HB6 := Lib.hid (HB5.out.trans (hb6.mono HB5.out.size))
              clear hb6 HB5 KM5
              go_wp2_with fail
              go_ret
              exact ⟨rfl, HB6.out⟩
            · have e1 : (256 : Int) < (su.size : Int) := by omega
              clear hz KM2
              go_wp2_with fail
              refine KA3.out.mono ?_
              rintro e w4 ⟨rfl, hb4⟩
              have HB4 := Lib.hid (HB3.out.trans (hb4.mono HB3.out.size))
              have KB4 := Lib.hid (KB3.out _ HB4.out)
              clear hb4 HB3 KA3 KB3
              go_wp2_with fail
              refine KB4.out.mono ?_
              rintro e w5 ⟨rfl, hb5⟩
              have HB5 := Lib.hid (HB4.out.trans (hb5.mono HB4.out.size))
              clear hb5 HB4 KB4
              go_wp2_with fail
              go_ret
              exact ⟨rfl, HB5.out⟩
          · have hne2 : su.toList ≠ tu.toList := fun e => hne (by
              rw [str_tl, str_tl] at e
              exact bytes_ext e)
            have ne2 : (su.toList == tu.toList) = false := beq_eq_false_iff_ne.2 hne2
            by_cases hz : 256 < su.size ∨ 256 < tu.size
            · clear KM2
              by_cases hz1 : 256 < su.size
              · have e1 : (256 : Int) < (su.size : Int) := by omega
                clear hz hz1
                go_wp2_with fail
                refine KA3.out.mono ?_
                rintro e w4 ⟨rfl, hb4⟩
                have HB4 := Lib.hid (HB3.out.trans (hb4.mono HB3.out.size))
                have KB4 := Lib.hid (KB3.out _ HB4.out)
                clear hb4 HB3 KA3 KB3
                go_wp2_with fail
                refine KB4.out.mono ?_
                rintro e w5 ⟨rfl, hb5⟩
                have HB5 := Lib.hid (HB4.out.trans (hb5.mono HB4.out.size))
                clear hb5 HB4 KB4
                go_wp2_with fail
                go_ret
                exact ⟨rfl, HB5.out⟩
              · have e1 : ¬ (256 : Int) < (su.size : Int) := by omega
                have e2 : (256 : Int) < (tu.size : Int) := by omega
                clear hz hz1
                go_wp2_with fail
                refine KA3.out.mono ?_
                rintro e w4 ⟨rfl, hb4⟩
                have HB4 := Lib.hid (HB3.out.trans (hb4.mono HB3.out.size))
                have KB4 := Lib.hid (KB3.out _ HB4.out)
                clear hb4 HB3 KA3 KB3
                go_wp2_with fail
                refine KB4.out.mono ?_
                rintro e w5 ⟨rfl, hb5⟩
                have HB5 := Lib.hid (HB4.out.trans (hb5.mono HB4.out.size))
                clear hb5 HB4 KB4
                go_wp2_with fail
                go_ret
                exact ⟨rfl, HB5.out⟩
            · have e1 : ¬ (256 : Int) < (su.size : Int) := by omega
              have e2 : ¬ (256 : Int) < (tu.size : Int) := by omega
              clear hz
              go_wp2_with fail
              refine KA3.out.mono ?_
              rintro e w4 ⟨rfl, hb4⟩
              have HB4 := Lib.hid (HB3.out.trans (hb4.mono HB3.out.size))
              have KB4 := Lib.hid (KB3.out _ HB4.out)
              clear hb4 HB3 KA3 KB3
              go_wp2_with fail
              refine KB4.out.mono ?_
              rintro e w5 ⟨rfl, hb5⟩
              have HB5 := Lib.hid (HB4.out.trans (hb5.mono HB4.out.size))
              have KM5 := Lib.hid (KM2.out _ HB5.out)
              clear hb5 HB4 KB4 KM2
              go_wp2_with fail
              refine KM5.out.mono ?_
              rintro e w6 ⟨rfl, hb6⟩
              have HB6 := Lib.hid (HB5.out.trans (hb6.mono HB5.out.size))
              clear hb6 HB5 KM5
              go_wp2_with fail
              go_ret
              exact ⟨rfl, HB6.out⟩
end Go.Proofs.Ytljkmdmbndjngaa
/-
  A line that can't be reckoned is no line in parentheses. (Imports nothing of the program.)
-/
namespace Go.Proofs.Ytljkmdmbndjngaa
set_option linter.unusedVariables false
set_option linter.unusedSimpArgs false
variable {N : List UInt8 → Bool} {M : List UInt8 → List UInt8}

theorem nok_kind {P : Pk → Prop} {n : Tn} (h : Nok M P n) : ¬ (5 ≤ n.k ∧ n.k ≤ 7) := by
  cases h with
  | lit h0 h1 h => show ¬ ((5 : Int) ≤ 1 ∧ (1 : Int) ≤ 7); omega
  | name hq h => show ¬ ((5 : Int) ≤ 2 ∧ (2 : Int) ≤ 7); omega
  | one hk hq h ha => rcases hk with rfl | rfl <;> (intro g; have := g.1; simp at this)
  | body hk ha => rcases hk with rfl | rfl <;> (intro g; have := g.1; simp at this)
  | index => show ¬ ((5 : Int) ≤ 8 ∧ (8 : Int) ≤ 7); omega
theorem mark_vb {q : Pk} {r : List Pk} {c : UInt8} (hk : q.k = 6) (ht : q.t = [c]) (hc : c ≠ 123) : ¬ isVb (q :: r) :=
  not_vb (.inr (.inr (.inr ⟨hk, by rw [ht]; intro e; exact hc (by injection e)⟩)))
theorem mark_mk {q : Pk} {r : List Pk} {c d : UInt8} (ht : q.t = [c]) (hc : c ≠ d) : ¬ isMk d (q :: r) := fun g => by
  have := (show q.k = 6 ∧ q.t = [d] from g).2
  rw [ht] at this
  exact hc (by injection this)
theorem mark_k {q : Pk} {r : List Pk} (hk : q.k = 6) {k : Int} (h : k ≠ 6) : ¬ isK k (q :: r) := fun g => h ((show q.k = k from g).symm.trans hk)
theorem Ln.shut {ts : List Pk} {X : List Tn} (h : Ln M ts (some X) []) {n : Tn} {Y : List Tn} (hX : X = n :: Y) (hk : 5 ≤ n.k ∧ n.k ≤ 7) {q w : Pk} (hq : q.k = 6) (hq2 : q.t = [40]) (hw : w.k = 6) (hw2 : w.t = [41]) : ∃ r, Ln M (q :: (ts ++ [w])) none r := by
  have key : ∃ r, Rd' M (.cl 41) (ts ++ [w]) none r := by
    generalize ho : (some X : Option (List Tn)) = o at h
    have bad : ∀ {X' : List Tn}, o = some X' → (∀ m ∈ X', Nok M (fun _ => True) m) → False := fun e g => by
      rw [← ho] at e
      injection e with e
      subst e
      exact nok_kind (g n (by rw [hX]; simp)) hk
    cases h with
    | @assign q' w' r r' x h h2 ht h1 =>
      exact ⟨_, .c_not (L := [⟨2, [], [], q'.t, []⟩]) (.e_term (not_vb (.inr (.inl h))) (.t_is (.m_word h) (.b_end (mark_mk ht (by decide)))) (.a_end (mark_vb h2 ht (by decide)))) (mark_mk ht (by decide))⟩
    | defbad h h2 ht h1 => cases ho
    | @define q' w' b r r' x h h2 ht h3 hb h1 =>
      refine ⟨w' :: b :: (r ++ [w]), .c_bad (.e_verb (.inl h) ?_)⟩
      exact .o_is (L := []) (V := [⟨3, q'.t, [], [], []⟩]) (x := none) (.v_one (.inl h) (.d_none (mark_k h2 (by decide)))) (.e_bad (mark_vb h2 ht (by decide)) (.t_bad (.m_bad (mark_k h2 (by decide)) (mark_mk ht (by decide)) (mark_k h2 (by decide)))))
    | idxbad h h2 ht h1 => cases ho
    | @amend q' w' d r r1 r' I x h h2 ht h1 h3 hd h4 =>
      refine ⟨_, .c_not (L := ⟨8, [], [], [], []⟩ :: ([⟨2, [], [], q'.t, []⟩] ++ I)) (r := d :: (r1 ++ [w])) (.e_term (not_vb (.inr (.inl h))) (.t_is (.m_word h) (.b_is h2 ht (r' := d :: (r1 ++ [w])) ?_ (.b_end (mark_mk hd (by decide))))) (.a_end (mark_vb h3 hd (by decide)))) (mark_mk hd (by decide))⟩
      exact h1.app (us := [w]) (.inl (by simp))
    | ixbad h h2 ht h1 h3 h4 => cases ho
    | @index q' w' r r1 r2 r' I L x h h2 ht h1 h3 h4 h5 =>
      exfalso
      have n1 := h1.nodes (P := fun _ => True) (fun _ _ => trivial) trivial _ rfl
      have n4 := h4.nodes (P := fun _ => True) (fun _ _ => trivial) (fun m hm => by
        rcases List.mem_cons.1 hm with rfl | hm
        · exact .index
        · rcases List.mem_append.1 hm with hm | hm
          · obtain rfl : m = ⟨2, [], [], q'.t, []⟩ := by simpa using hm
            exact .name (q := q') trivial h
          · exact n1 m hm) _ rfl
      exact bad ho.symm (h5.nodes (P := fun _ => True) (fun _ _ => trivial) n4 X ho.symm)
    | plain h1 h2 h => exact (bad ho.symm (h.nodes (P := fun _ => True) (fun _ _ => trivial) trivial X ho.symm)).elim
  obtain ⟨r, hr⟩ := key
  exact ⟨r, .plain (fun g => mark_k hq (by decide) g.1) (fun g => mark_k hq (by decide) g.1) (.e_bad (mark_vb hq hq2 (by decide)) (.t_bad (.m_par hq hq2 hr)))⟩
/-- Blanks ahead of a line, and behind it. -/
theorem Run.blanks {s : List UInt8} {ts : List Tk} {e : Option Nat} (h : Run N s 0 ts e) : Run N (32 :: 32 :: (s ++ [32])) 0 (ts.map (Tk.up 2)) (e.map (· + 2)) := by
  have g := h.up 2
  rw [Nat.zero_add] at g
  refine .blank cls_blank (.blank cls_blank ?_)
  cases e with
  | none =>
    have g2 := g.app_blank rfl (b := []) (us := []) (f := none) (.nil _)
    rw [List.append_nil] at g2
    exact g2
  | some q => exact g.err_blank rfl []
theorem Ln.blanks {ts : List Tk} {r : List Pk} {x : Option (List Tn)} (h : Ln M (ts.map Tk.pk) x r) : Ln M ((ts.map (Tk.up 2)).map Tk.pk) x (r.map (Pk.up 2)) := by
  rw [pk_up]
  exact h.map (f := Pk.up 2) (fun _ => rfl) (fun _ => rfl)
/-- A line in parentheses, of its parts. -/
theorem Run.parens {s : List UInt8} {ts : List Tk} (h : Run N s 0 ts none) : ∃ q w : Tk, q.pk.k = 6 ∧ q.pk.t = [40] ∧ w.pk.k = 6 ∧ w.pk.t = [41] ∧ Run N (40 :: (s ++ [41])) 0 (q :: (ts.map (Tk.up 1) ++ [w])) none :=
  ⟨⟨6, [40], 0⟩, ⟨6, [41], _⟩, rfl, rfl, rfl, rfl, .own (k := 6) (by decide) (by decide) (by decide) (run_mark (c := 41) (by decide) (run_up h 1) (.nil _))⟩
end Go.Proofs.Ytljkmdmbndjngaa
/-
  ParseParens, at every text.
-/
namespace Go.Proofs.Ytljkmdmbndjngaa
set_option linter.unusedVariables false
set_option linter.unusedSimpArgs false
open Go.RowKit

def Nxs (w : World) (l : List (Option Addr × Nat × Nat × List Tn)) : Prop := ∀ q ∈ l, Nx w q.1 q.2.1 q.2.2.1 q.2.2.2
theorem Nxs.below {w w' : World} {l : List (Option Addr × Nat × Nat × List Tn)} (h : Nxs w l) (hb : Below w.heap.size w w') : Nxs w' l := fun q hq => (h q hq).below hb
theorem Nxs.cons {w : World} {l : List (Option Addr × Nat × Nat × List Tn)} {a : Option Addr} {n c : Nat} {X : List Tn} (h : Nxs w l) (h1 : Nx w a n c X) : Nxs w ((a, n, c, X) :: l) := fun q hq => by
  rcases List.mem_cons.1 hq with rfl | hq
  · exact h1
  · exact h q hq
theorem Nxs.nil (w : World) : Nxs w [] := fun q hq => by cases hq
theorem Nxs.get {w : World} {l : List (Option Addr × Nat × Nat × List Tn)} (h : Nxs w l) {a : Option Addr} {n c : Nat} {X : List Tn} (hm : (a, n, c, X) ∈ l) : Nx w a n c X := h _ hm
theorem dp_pos {X : List Tn} {d : Nat} (h : Dp X 1 d) : 0 < X.length := by
  cases X with
  | nil => cases h with | cons h0 _ _ _ => cases h0
  | cons n Y => simp
theorem cat3 (l s r : ByteArray) : (l ++ s ++ r).data.toList = l.data.toList ++ s.data.toList ++ r.data.toList := by
  rw [ByteArray.data_append, Array.toList_append, ByteArray.data_append, Array.toList_append]
theorem cat2 (l s : ByteArray) : (l ++ s).data.toList = l.data.toList ++ s.data.toList := by
  rw [ByteArray.data_append, Array.toList_append]
/-- A text that is put together, parsed. -/
theorem Parse_put {S : ByteArray} (hS : S.size ≤ 256) {us : List Tk} (h : Run numB S.data.toList 0 us none) {L : List Tn} (hl : Ln numT (us.map Tk.pk) (some L) []) {d : Nat} (hd : Dp L 1 d) (h40 : d ≤ 40) (W : World) : Calls Try.prog 11 #[.string S] W (PkEnd L W) :=
  (Parse_ok S hS us h hl W).mono fun _ _ h => h.tree hd h40
theorem dp_one {n : Tn} {L : List Tn} {d : Nat} (hk : kdT n = 1) (h : Dp L 1 d) : Dp (n :: L) 1 (d + 1) := by rw [Nat.add_comm]; exact .cons (k := 1) hk h
theorem dp_two {n : Tn} {L K : List Tn} {d e : Nat} (hk : kdT n = 2) (h : Dp L 1 d) (h2 : Dp K 1 e) : Dp (n :: (L ++ K)) 1 (max d e + 1) := by rw [Nat.add_comm]; exact .cons (k := 2) hk (h.app h2)
theorem dp_leaf {n : Tn} (hk : n.k = 1 ∨ n.k = 2) : Dp [n] 1 1 := .cons (k := 0) (by unfold kdT; rw [if_pos hk]; rfl) .nil
end Go.Proofs.Ytljkmdmbndjngaa
/-
  ParseIndex, at every two texts.
-/
namespace Go.Proofs.Ytljkmdmbndjngaa
set_option linter.unusedVariables false
set_option linter.unusedSimpArgs false
open Go.RowKit

/-- What Parse tells of a text: an error, or a tree. -/
theorem parse_cases (s : ByteArray) (hs : s.size ≤ 256) : (∃ p q, (q = 10 ∨ q = 2) ∧ ∀ W, Calls Try.prog 11 #[.string s] W (FlEnd p q W)) ∨
    (∃ ts X d, Run numB s.data.toList 0 ts none ∧ Ln numT (pks ts) (some X) [] ∧ Dp X 1 d ∧ Fw X ∧ X.length ≤ 256 ∧ ∀ W, Calls Try.prog 11 #[.string s] W (PkEnd X W)) := by
  obtain ⟨ts, e, hrun⟩ := Run.any numB s.data.toList 0
  cases e with
  | some q => exact .inl ⟨q, 2, .inr rfl, fun W => Parse_bad s hs ts q hrun W⟩
  | none =>
    obtain ⟨x, r, hR⟩ := Ln.any numT (pks ts)
    have k1 := fun W => Parse_ok s hs ts hrun hR W
    cases ht : told x r with
    | none => exact .inl ⟨_, 2, .inr rfl, fun W => (k1 W).mono fun e W' h => h.none ht⟩
    | some X =>
      have hfew := told_few hs hrun hR ht
      obtain ⟨rfl, rfl⟩ := told_some ht
      have hbr := (run_few hs hrun).2.1
      obtain ⟨d, hd⟩ := hR.tree hbr
      by_cases h40 : 40 < d
      · refine .inl ⟨0, 10, .inl rfl, fun W => (k1 W).mono ?_⟩
        rintro e W' ⟨hb, ⟨h1, _⟩ | ⟨Y, d2, h1, h2, ⟨_, h3⟩ | ⟨h3, _⟩⟩⟩
        · cases h1
        · exact ⟨h3, hb⟩
        · injection h1 with h1
          subst h1
          have := (hd.det h2).2
          omega
      · exact .inr ⟨ts, X, d, hrun, hR, hd, ⟨by omega, hR.ns (P := fun _ => True) (fun _ _ => trivial) hbr⟩, hfew, fun W => (k1 W).mono fun e W' h => h.tree hd (by omega)⟩
/-- A tree's head in memory. -/
theorem head_cell {X : List Tn} (hpos : 0 < X.length) : ∃ (k0 : Int) (xm : Nat), k0 = (X[0]'hpos).k ∧ X.length = xm + 1 ∧ ∀ w a n c, Nx w a n c X → ∃ b off, a = some ⟨b, off, none⟩ ∧ w.cell? ⟨b, off, none⟩ = some (.int .i64 k0) ∧ n = xm + 1 := by
  refine ⟨_, X.length - 1, rfl, by omega, fun w a n c h => ?_⟩
  obtain ⟨hn, b, off, rfl, hc⟩ := h.kinds hpos
  have := hc 0 hpos
  rw [Nat.zero_mul, Nat.add_zero] at this
  exact ⟨b, off, rfl, this, by omega⟩
theorem is_expr {ts : List Tk} {X : List Tn} (hR : Ln numT (pks ts) (some X) []) (hpos : 0 < X.length) (h : ¬ (5 ≤ (X[0]'hpos).k ∧ (X[0]'hpos).k ≤ 7)) : Rd' numT .expr (ts.map Tk.pk) (some X) [] := by
  refine hR.expr fun n Y hY => ?_
  have h0 : (X[0]'hpos).k = n.k := by
    subst hY
    rfl
  omega
end Go.Proofs.Ytljkmdmbndjngaa
/-
  PrintBlanks, at every text.
-/
namespace Go.Proofs.Ytljkmdmbndjngaa
set_option linter.unusedVariables false
set_option linter.unusedSimpArgs false
open Go.RowKit Go.Maps

theorem cat_blanks (s : ByteArray) : ((⟨#[32, 32]⟩ : ByteArray) ++ s ++ ⟨#[32]⟩).data.toList = 32 :: 32 :: (s.data.toList ++ [32]) := by
  rw [ByteArray.data_append, Array.toList_append, ByteArray.data_append, Array.toList_append]
  simp
theorem cat_parens (s : ByteArray) : ((⟨#[40]⟩ : ByteArray) ++ s ++ ⟨#[41]⟩).data.toList = 40 :: (s.data.toList ++ [41]) := by
  rw [ByteArray.data_append, Array.toList_append, ByteArray.data_append, Array.toList_append]
  simp
theorem blanks_size (s : ByteArray) : ((⟨#[32, 32]⟩ : ByteArray) ++ s ++ ⟨#[32]⟩).size = s.size + 3 := by
  rw [ByteArray.size_append, ByteArray.size_append, show (⟨#[32, 32]⟩ : ByteArray).size = 2 from rfl, show (⟨#[32]⟩ : ByteArray).size = 1 from rfl]; omega
theorem parens_size (s : ByteArray) : ((⟨#[40]⟩ : ByteArray) ++ s ++ ⟨#[41]⟩).size = s.size + 2 := by
  rw [ByteArray.size_append, ByteArray.size_append, show (⟨#[40]⟩ : ByteArray).size = 1 from rfl, show (⟨#[41]⟩ : ByteArray).size = 1 from rfl]; omega
theorem told_map {x : Option (List Tn)} {r : List Pk} (h : told x r = none) (f : Pk → Pk) : told x (r.map f) = none := by
  cases r with
  | nil => exact h
  | cons q r => rfl
theorem deep_fl {X : List Tn} {d : Nat} (hd : Dp X 1 d) (h40 : 40 < d) {z : Int} {W : World} {e : Ending} {W' : World} (h : PpEnd (some X) [] z W e W') : FlEnd 0 10 W e W' := by
  obtain ⟨hb, ⟨h1, _⟩ | ⟨Y, d2, h1, h2, ⟨_, h3⟩ | ⟨h3, _⟩⟩⟩ := h
  · cases h1
  · exact ⟨h3, hb⟩
  · injection h1 with h1
    subst h1
    have := (hd.det h2).2
    omega
/-- What Parse tells of a short text, and of it with blanks ahead and behind, and in parentheses. -/
theorem blanks_cases (s : ByteArray) (hs : s.size ≤ 250) :
    (∃ p q p' q', (q = 10 ∨ q = 2) ∧ (q' = 10 ∨ q' = 2) ∧ (∀ W, Calls Try.prog 11 #[.string s] W (FlEnd p q W)) ∧ ∀ W, Calls Try.prog 11 #[.string ((⟨#[32, 32]⟩ : ByteArray) ++ s ++ ⟨#[32]⟩)] W (FlEnd p' q' W)) ∨
    ∃ X, ∃ hpos : 0 < X.length, Mx X ∧ (∀ W, Calls Try.prog 11 #[.string s] W (PkEnd X W)) ∧ (∀ W, Calls Try.prog 11 #[.string ((⟨#[32, 32]⟩ : ByteArray) ++ s ++ ⟨#[32]⟩)] W (PkEnd X W)) ∧
      (((5 ≤ (X[0]'hpos).k ∧ (X[0]'hpos).k ≤ 7) ∧ ∃ p, ∀ W, Calls Try.prog 11 #[.string ((⟨#[40]⟩ : ByteArray) ++ s ++ ⟨#[41]⟩)] W (FlEnd p 2 W)) ∨
       (¬ (5 ≤ (X[0]'hpos).k ∧ (X[0]'hpos).k ≤ 7) ∧ ∀ W, Calls Try.prog 11 #[.string ((⟨#[40]⟩ : ByteArray) ++ s ++ ⟨#[41]⟩)] W (PkEnd X W))) := by
  have hS : ((⟨#[32, 32]⟩ : ByteArray) ++ s ++ ⟨#[32]⟩).size ≤ 256 := by rw [blanks_size]; omega
  have hP : ((⟨#[40]⟩ : ByteArray) ++ s ++ ⟨#[41]⟩).size ≤ 256 := by rw [parens_size]; omega
  obtain ⟨ts, e, hrun⟩ := Run.any numB s.data.toList 0
  have hrun2 := hrun.blanks
  rw [← cat_blanks] at hrun2
  cases e with
  | some q => exact .inl ⟨q, 2, _, 2, .inr rfl, .inr rfl, fun W => Parse_bad s (by omega) ts q hrun W, fun W => Parse_bad _ hS _ _ hrun2 W⟩
  | none =>
    obtain ⟨x, r, hR⟩ := Ln.any numT (pks ts)
    have hR2 := Ln.blanks hR
    have k1 := fun W => Parse_ok s (by omega) ts hrun hR W
    have k2 := fun W => Parse_ok _ hS _ hrun2 hR2 W
    cases ht : told x r with
    | none => exact .inl ⟨_, 2, _, 2, .inr rfl, .inr rfl, fun W => (k1 W).mono fun e W' h => h.none ht, fun W => (k2 W).mono fun e W' h => h.none (told_map ht _)⟩
    | some X =>
      have hfew := told_few (by omega) hrun hR ht
      obtain ⟨rfl, rfl⟩ := told_some ht
      have hbr := (run_few (show s.size ≤ 256 by omega) hrun).2.1
      obtain ⟨d, hd⟩ := hR.tree hbr
      by_cases h40 : 40 < d
      · exact .inl ⟨0, 10, 0, 10, .inl rfl, .inl rfl, fun W => (k1 W).mono fun e W' h => deep_fl hd h40 h, fun W => (k2 W).mono fun e W' h => deep_fl hd h40 h⟩
      · have hpos := dp_pos hd
        refine .inr ⟨X, hpos, mx_of (by omega) hrun hR hd (by omega) (by omega), fun W => (k1 W).mono fun e W' h => h.tree hd (by omega), fun W => (k2 W).mono fun e W' h => h.tree hd (by omega), ?_⟩
        by_cases hk : 5 ≤ (X[0]'hpos).k ∧ (X[0]'hpos).k ≤ 7
        · refine .inl ⟨hk, ?_⟩
          obtain ⟨q, w, h1, h2, h3, h4, h5⟩ := hrun.parens
          rw [← cat_parens] at h5
          obtain ⟨n, Y, rfl⟩ := tr_ne ⟨d, hd⟩
          have g := hR.map (f := Pk.up 1) (fun _ => rfl) (fun _ => rfl)
          rw [← pks_is, ← pk_up] at g
          obtain ⟨r, hr⟩ := g.shut rfl hk h1 h2 h3 h4
          have e : q.pk :: ((ts.map (Tk.up 1)).map Tk.pk ++ [w.pk]) = pks (q :: (ts.map (Tk.up 1) ++ [w])) := by rw [← pks_is]; simp
          rw [e] at hr
          exact ⟨_, fun W => (Parse_ok _ hP _ h5 hr W).mono fun e W' h => h.none (told_none _)⟩
        · refine .inr ⟨hk, ?_⟩
          obtain ⟨us, h1, h2⟩ := in_paren hrun (is_expr hR hpos hk)
          rw [← cat_parens] at h1
          exact fun W => Parse_put hP h1 h2 hd (by omega) W
set_option maxHeartbeats 6400000 in
set_option maxRecDepth 10000 in
theorem blanks_any (s : ByteArray) (hs : s.size ≤ 4611686018427387903) (W : World) : Calls Try.prog 6 #[.string s] W (TrueEnd W) := by
  have KS := Lib.hid (fun w => shownP_is w)
  by_cases hz : 250 < s.size
  · have e1 : (250 : Int) < (s.size : Int) := by omega
    clear hz
    go_enter Try.func6, Try.ntmps6
    go_wp2_with fail
    refine (KS.out _).mono ?_
    rintro e w1 ⟨rfl, hb1⟩
    go_wp2_with fail
    go_ret
    exact ⟨rfl, hb1⟩
  have e1 : ¬ (250 : Int) < (s.size : Int) := by omega
  have q0 : ¬ (9223372036854775807 < 2 + s.size) := by omega
  have q1 : ¬ (9223372036854775807 < 2 + s.size + 1) := by omega
  have q2 : ¬ (9223372036854775807 ≤ 2 + s.size) := by omega
  have q3 : ¬ (9223372036854775807 < 1 + s.size) := by omega
  have q4 : ¬ (9223372036854775807 < 1 + s.size + 1) := by omega
  have q5 : ¬ (9223372036854775807 ≤ 1 + s.size) := by omega
  have q6 : ¬ (9223372036854775807 ≤ s.size) := by omega
  rcases blanks_cases s (by omega) with ⟨p, q, p', q', hq, hq', K1, K2⟩ | ⟨X, hpos, hX, K1, K2, hc⟩
  · have C1 := Lib.hid (fun W => Can_no s p q (by rcases hq with h | h <;> simp [h]) K1 W)
    have C2 := Lib.hid (fun W => Can_no _ p' q' (by rcases hq' with h | h <;> simp [h]) K2 W)
    replace K1 := Lib.hid K1
    clear K2 hz
    rcases hq with rfl | rfl <;> rcases hq' with rfl | rfl
    all_goals
      go_enter Try.func6, Try.ntmps6
      go_wp2_with fail
      refine (KS.out _).mono ?_
      rintro e w1 ⟨rfl, hb1⟩
      go_wp2_with fail
      refine (C1.out _).mono ?_
      rintro e w2 ⟨rfl, hb2⟩
      replace hb2 := Lib.hid (hb1.trans (hb2.mono hb1.size))
      clear hb1
      go_wp2_with fail
      refine (C2.out _).mono ?_
      rintro e w3 ⟨rfl, hb3⟩
      replace hb3 := Lib.hid (hb2.out.trans (hb3.mono hb2.out.size))
      clear hb2
      go_wp2_with fail
      refine (K1.out _).mono ?_
      rintro e w4 ⟨rfl, hb4⟩
      replace hb4 := Lib.hid (hb3.out.trans (hb4.mono hb3.out.size))
      clear hb3
      go_wp2_with fail
      go_ret
      exact ⟨rfl, hb4.out⟩
  · obtain ⟨hpr, hlen⟩ := hX.pr
    have C1 := Lib.hid (fun W => Can_yes s hX hpr K1 W)
    have C2 := Lib.hid (fun W => Can_yes _ hX hpr K2 W)
    have C3 : ((5 ≤ (X[0]'hpos).k ∧ (X[0]'hpos).k ≤ 7) ∧ ∃ p, ∀ W, Calls Try.prog 13 #[.string ((⟨#[40]⟩ : ByteArray) ++ s ++ ⟨#[41]⟩)] W (CnEnd ⟨#[]⟩ p 2 W)) ∨ (¬ (5 ≤ (X[0]'hpos).k ∧ (X[0]'hpos).k ≤ 7) ∧ ∀ W, Calls Try.prog 13 #[.string ((⟨#[40]⟩ : ByteArray) ++ s ++ ⟨#[41]⟩)] W (CnEnd (tx (prT X)) 0 0 W)) := by
      rcases hc with ⟨h1, p, h2⟩ | ⟨h1, h2⟩
      · exact .inl ⟨h1, p, fun W => Can_no _ p 2 (.inr (.inl rfl)) h2 W⟩
      · exact .inr ⟨h1, fun W => Can_yes _ hX hpr h2 W⟩
    obtain ⟨k0, xm, hk0, hxl, hk1⟩ := head_cell hpos
    rw [← hk0] at C3
    have HK := Lib.hid hk1
    have i1 : (0 : Int) < (xm : Int) + 1 := by omega
    have j1 : ((xm : Int) + 1 == 0) = false := beq_eq_false_iff_ne.2 (by omega)
    replace K1 := Lib.hid K1
    clear K2 hc hpr hlen hX hk1 hxl hk0 hz
    generalize tx (prT X) = st at *
    rcases C3 with ⟨⟨g1, g2⟩, p, C3⟩ | ⟨hk, C3⟩
    · replace C3 := Lib.hid C3
      go_enter Try.func6, Try.ntmps6
      go_wp2_with fail
      refine (KS.out _).mono ?_
      rintro e w1 ⟨rfl, hb1⟩
      go_wp2_with fail
      refine (C1.out _).mono ?_
      rintro e w2 ⟨rfl, hb2⟩
      replace hb2 := Lib.hid (hb1.trans (hb2.mono hb1.size))
      clear hb1
      go_wp2_with fail
      refine (C2.out _).mono ?_
      rintro e w3 ⟨rfl, hb3⟩
      replace hb3 := Lib.hid (hb2.out.trans (hb3.mono hb2.out.size))
      clear hb2
      go_wp2_with fail
      refine (K1.out _).mono ?_
      rintro e w4 ⟨a4, n4, c4, rfl, hN, hb4⟩
      replace hb4 := Lib.hid (hb3.out.trans (hb4.mono hb3.out.size))
      have HN := Lib.hid hN
      obtain ⟨b, off, rfl, hc0, hn4⟩ := HK.out _ _ _ _ hN
      subst hn4
      clear hb3 hN hc0
      go_wp2_with fail
      refine (C3.out _).mono ?_
      rintro e w5 ⟨rfl, hb5⟩
      obtain ⟨b', off', e5, hc5, _⟩ := HK.out _ _ _ _ (HN.out.below hb5)
      injection e5 with e5
      injection e5 with e5 e6
      subst e5 e6
      replace hb5 := Lib.hid (hb4.out.trans (hb5.mono hb4.out.size))
      clear hb4
      go_wp2_with fail
      go_ret
      exact ⟨rfl, hb5.out⟩
    · replace C3 := Lib.hid C3
      have gx : ¬ (5 : Int) ≤ k0 ∨ (5 ≤ k0 ∧ ¬ k0 ≤ 7) := by omega
      clear hk
      rcases gx with g1 | ⟨g1, g2⟩
      all_goals
        go_enter Try.func6, Try.ntmps6
        go_wp2_with fail
        refine (KS.out _).mono ?_
        rintro e w1 ⟨rfl, hb1⟩
        go_wp2_with fail
        refine (C1.out _).mono ?_
        rintro e w2 ⟨rfl, hb2⟩
        replace hb2 := Lib.hid (hb1.trans (hb2.mono hb1.size))
        clear hb1
        go_wp2_with fail
        refine (C2.out _).mono ?_
        rintro e w3 ⟨rfl, hb3⟩
        replace hb3 := Lib.hid (hb2.out.trans (hb3.mono hb2.out.size))
        clear hb2
        go_wp2_with fail
        refine (K1.out _).mono ?_
        rintro e w4 ⟨a4, n4, c4, rfl, hN, hb4⟩
        replace hb4 := Lib.hid (hb3.out.trans (hb4.mono hb3.out.size))
        have HN := Lib.hid hN
        obtain ⟨b, off, rfl, hc0, hn4⟩ := HK.out _ _ _ _ hN
        subst hn4
        clear hb3 hN hc0
        go_wp2_with fail
        refine (C3.out _).mono ?_
        rintro e w5 ⟨rfl, hb5⟩
        obtain ⟨b', off', e5, hc5, _⟩ := HK.out _ _ _ _ (HN.out.below hb5)
        injection e5 with e5
        injection e5 with e5 e6
        subst e5 e6
        replace hb5 := Lib.hid (hb4.out.trans (hb5.mono hb4.out.size))
        clear hb4
        go_wp2_with fail
        go_ret
        exact ⟨rfl, hb5.out⟩
end Go.Proofs.Ytljkmdmbndjngaa

import Derived.Test.YtafdogcanjcbmaaMai
import Derived.BigQuiet
import Derived.Test.YtafdogcanjcbmaaMat
import Derived.Test.YtafdogcanjcbmaaRows
import Derived.ProofKit
import Derived.Carry
import Derived.OpenShut
import Derived.SizedLaws
/-
  Whether two lists have the same nodes, of the reference.
-/
namespace Go.Proofs.Ytafdogcanjcbmaa
set_option linter.unusedVariables false
set_option linter.unusedSimpArgs false
open Go.RowKit
set_option maxRecDepth 10000
set_option maxHeartbeats 80000000 in
theorem rTSame_is (a b : Option Addr) (n m c d : Nat) (f g : Nat → Nd) (W : World) (h1 : Nq W a n f) (h2 : Nq W b m g) (hn : n ≤ 1000000) (hm : m ≤ 1000000) :
    Calls Try.prog 12 #[.slice a n c, .slice b m d] W (ValEnd (.bool (decide (n = m) && sameL f g n)) W) := by
  by_cases hnm : n = m
  · subst hnm
    rw [decide_eq_true rfl, Bool.true_and]
    have H1 := Lib.hid h1
    have H2 := Lib.hid h2
    obtain ⟨r, hr⟩ : ∃ r, r = sameL f g n := ⟨_, rfl⟩
    rw [← hr]
    have HR := Lib.hid hr
    clear h1 h2 hr
    go_enter Try.func12, Try.ntmps12
    go_wp2_with fail
    go_loopw [5] (fun kv wr => ∃ j : Nat, kv = .int .i64 j ∧ j ≤ n ∧ (∀ i, i < j → smN (f i) (g i) = true) ∧ Below W.heap.size W wr) (fun kv _ => n - (intOf kv).toNat)
    case atStart => exact ⟨0, rfl, by omega, fun i hi => by omega, Below.refl _ _⟩
    case round =>
      obtain ⟨j, rfl, hj, hall, hb⟩ := hrel
      have HA := Lib.hid hall
      clear hall
      by_cases hlt : j < n
      · have e3 : (j : Int) < (n : Int) := by omega
        obtain ⟨ga, oa, rfl, hca⟩ := H1.out.ld (by omega)
        obtain ⟨gb, ob, rfl, hcb⟩ := H2.out.ld (by omega)
        have la := (hca j hlt).below hb (hca j hlt).lt
        have lb := (hcb j hlt).below hb (hcb j hlt).lt
        have oA := (H1.out.on j hlt).below hb
        have oB := (H2.out.on j hlt).below hb
        have HNA := Lib.hid (fun (h : smN (f j) (g j) = true) i (hi : i < j + 1) => show smN (f i) (g i) = true by
          by_cases hij : i < j
          · exact HA.out i hij
          · obtain rfl : i = j := by omega
            exact h)
        have HNF := Lib.hid (fun (h : smN (f j) (g j) = false) => show r = false by rw [HR.out]; exact sameL_no hlt h)
        generalize f j = df at *
        generalize g j = dg at *
        obtain ⟨dk, dv, da, dx, dp, dm, dc, dn⟩ := df
        obtain ⟨ek, ev, ea, ex, ep, em', ec, en⟩ := dg
        obtain ⟨c0, c1, c2, c3, c4⟩ := la
        obtain ⟨b0, b1, b2, b3, b4⟩ := lb
        simp only at c0 c1 c2 c3 c4 b0 b1 b2 b3 b4
        have HOA := Lib.hid oA
        have HOB := Lib.hid oB
        have q1 : dm ≤ 9223372036854775807 := maxLen_le (Nat.le_trans oA.mc oA.cm)
        have q2 : dn.length = dm := oA.nl
        have q3 : en.length = em' := oB.nl
        clear hca hcb oA oB
        by_cases hk : dk = ek
        · subst hk
          by_cases hv : dv.toList = ev.toList
          · obtain rfl := tl_eq hv
            clear hv
            by_cases ha : da.toList = ea.toList
            · obtain rfl := tl_eq ha
              clear ha
              by_cases hx : dx.toList = ex.toList
              · obtain rfl := tl_eq hx
                clear hx
                by_cases hm : dm = em'
                · subst hm
                  have HLA := Lib.hid (show Ld wr ga (oa + j * 5) ⟨dk, dv, da, dx, dp, dm, dc, dn⟩ from ⟨c0, c1, c2, c3, c4⟩)
                  have HLB := Lib.hid (show Ld wr gb (ob + j * 5) ⟨dk, dv, da, dx, ep, dm, ec, en⟩ from ⟨b0, b1, b2, b3, b4⟩)
                  have HQ2 := Lib.hid q2
                  have HQ3 := Lib.hid q3
                  have HB0 := Lib.hid hb
                  clear q2 q3 hb
                  go_wp2_with fail
                  simp only [List.append_eq, List.cons_append, List.nil_append]
                  go_quiet (fail)
                  have hbq := below_drewN (Below.refl wr.heap.size wr) nq
                  clear c0 c1 c2 c3 c4 b0 b1 b2 b3 b4
                  generalize wr.drewN nq = wq at *
                  generalize wr = w0 at *
                  go_wp2_with fail
                  go_loopw [6] (fun kv w2 => ∃ q : Nat, kv = .int .i64 q ∧ q ≤ dm ∧ (∀ i, i < q → dn.getD i ByteArray.empty = en.getD i ByteArray.empty) ∧ Below w0.heap.size w0 w2) (fun kv _ => dm - (intOf kv).toNat)
                  case atStart => exact ⟨0, rfl, by omega, fun i hi => by omega, hbq⟩
                  case round =>
                    clear hbq
                    obtain ⟨q, rfl, hq, heq, hb2⟩ := hrel
                    have HE := Lib.hid heq
                    have c4 := (HLA.out.below hb2 HLA.out.lt).c4
                    have b4 := (HLB.out.below hb2 HLB.out.lt).c4
                    simp only at c4 b4
                    have HB2 := Lib.hid hb2
                    clear heq
                    by_cases hqm : q < dm
                    · have f2 : (q : Int) < (dm : Int) := by omega
                      obtain ⟨g1, o1, hg1, hs1⟩ := HOA.out.st.2 (show 0 < dm by omega)
                      obtain ⟨g2, o2, hg2, hs2⟩ := HOB.out.st.2 (show 0 < dm by omega)
                      replace hg1 : dp = some ⟨g1, o1, none⟩ := hg1
                      replace hg2 : ep = some ⟨g2, o2, none⟩ := hg2
                      subst hg1 hg2
                      have s1 := hs1 q hqm
                      have s2 := hs2 q hqm
                      replace s1 := (hb2.cell (p := ⟨g1, o1 + q, none⟩) (World.block_lt_of_cell? w0 _ s1)).trans s1
                      replace s2 := (hb2.cell (p := ⟨g2, o2 + q, none⟩) (World.block_lt_of_cell? w0 _ s2)).trans s2
                      simp only at s1 s2
                      have HG := Lib.hid (show dn.getD q ByteArray.empty = en.getD q ByteArray.empty → ∀ i, i < q + 1 → dn.getD i ByteArray.empty = en.getD i ByteArray.empty from fun h i hi => by
                        by_cases hiq : i < q
                        · exact HE.out i hiq
                        · obtain rfl : i = q := by omega
                          exact h)
                      have HF := Lib.hid (show dn.getD q ByteArray.empty ≠ en.getD q ByteArray.empty → r = false from fun h => HNF.out (smN_no fun h2 => h (by rw [show dn = en from h2.2.2.2.2])))
                      generalize dn.getD q ByteArray.empty = s at *
                      generalize en.getD q ByteArray.empty = t at *
                      clear hs1 hs2 hb2
                      by_cases hst : s.toList = t.toList
                      · obtain rfl := tl_eq hst
                        clear hst
                        go_wp2_with fail
                        go_quiet (fail)
                        have hbx := below_drewN HB2.out nq
                        clear s1 s2 c4 b4
                        go_wp2_with fail
                        refine ⟨⟨q + 1, by go_num, by omega, HG.out (by first | rfl | trivial), hbx⟩, by simp [intOf]; omega⟩
                      · obtain rfl : r = false := HF.out (fun h => hst (by rw [h]))
                        have e4 : (!s.toList == t.toList) = true := by simp [hst]
                        clear HG HF HNA HNF
                        go_wp2_with fail
                        go_quiet (fail)
                        go_wp2_with fail
                        go_ret
                        exact ⟨rfl, below_drewN (HB0.out.trans (HB2.out.mono HB0.out.size)) _⟩
                    · have f2 : ¬ (q : Int) < (dm : Int) := by omega
                      obtain rfl : q = dm := by omega
                      have hde : dn = en := by
                        refine List.ext_getElem (by rw [HQ2.out, HQ3.out]) fun i h1 h2 => ?_
                        have := HE.out i (by rw [← HQ2.out]; exact h1)
                        simpa [List.getD_eq_getElem?_getD, List.getElem?_eq_getElem h1, List.getElem?_eq_getElem h2] using this
                      have HX := Lib.hid (HNA.out (smN_yes.2 ⟨rfl, rfl, rfl, rfl, hde⟩))
                      have hbz := HB0.out.trans (HB2.out.mono HB0.out.size)
                      clear hde hb2 HE
                      go_wp2_with fail
                      refine ⟨⟨j + 1, by go_num, by omega, HX.out, hbz⟩, by simp [intOf]; omega⟩
                · obtain rfl : r = false := HNF.out (smN_no fun h => hm (by rw [← q2, ← q3]; exact congrArg List.length h.2.2.2.2))
                  have e4 : ¬ (dm : Int) = (em' : Int) := by omega
                  have e5 : ((dm : Int) != (em' : Int)) = true := by simp; omega
                  clear HNA HNF q2 q3 HOA HOB HA HR H1 H2
                  go_wp2_with fail
                  simp only [List.append_eq, List.cons_append, List.nil_append]
                  go_quiet (fail)
                  go_wp2_with fail
                  go_ret
                  exact ⟨rfl, below_drewN hb _⟩
              · obtain rfl : r = false := HNF.out (smN_no fun h => hx (congrArg ByteArray.toList h.2.2.2.1))
                have e4 : (!dx.toList == ex.toList) = true := by simp [hx]
                clear HNA HNF q2 q3 HOA HOB HA HR H1 H2
                go_wp2_with fail
                simp only [List.append_eq, List.cons_append, List.nil_append]
                go_quiet (fail)
                go_wp2_with fail
                go_ret
                exact ⟨rfl, below_drewN hb _⟩
            · obtain rfl : r = false := HNF.out (smN_no fun h => ha (congrArg ByteArray.toList h.2.2.1))
              have e4 : (!da.toList == ea.toList) = true := by simp [ha]
              clear HNA HNF q2 q3 HOA HOB HA HR H1 H2
              go_wp2_with fail
              simp only [List.append_eq, List.cons_append, List.nil_append]
              go_quiet (fail)
              go_wp2_with fail
              go_ret
              exact ⟨rfl, below_drewN hb _⟩
          · obtain rfl : r = false := HNF.out (smN_no fun h => hv (congrArg ByteArray.toList h.2.1))
            have e4 : (!dv.toList == ev.toList) = true := by simp [hv]
            clear HNA HNF q2 q3 HOA HOB HA HR H1 H2
            go_wp2_with fail
            simp only [List.append_eq, List.cons_append, List.nil_append]
            go_quiet (fail)
            go_wp2_with fail
            go_ret
            exact ⟨rfl, below_drewN hb _⟩
        · obtain rfl : r = false := HNF.out (smN_no fun h => hk h.1)
          have e4 : (dk != ek) = true := by simp [hk]
          clear HNA HNF q2 q3 HOA HOB HA HR H1 H2
          go_wp2_with fail
          simp only [List.append_eq, List.cons_append, List.nil_append]
          go_quiet (fail)
          go_wp2_with fail
          go_ret
          exact ⟨rfl, below_drewN hb _⟩
      · have e3 : ¬ (j : Int) < (n : Int) := by omega
        obtain rfl : r = true := by rw [HR.out]; exact sameL_yes.2 fun i hi => HA.out i (by omega)
        go_wp2_with fail
        go_ret
        exact ⟨rfl, hb⟩
  · rw [decide_eq_false hnm, Bool.false_and]
    have e1 : ¬ (n : Int) = (m : Int) := by omega
    clear h1 h2
    go_enter Try.func12, Try.ntmps12
    go_wp2_with fail
    go_ret
    exact ⟨rfl, Below.refl _ _⟩
end Go.Proofs.Ytafdogcanjcbmaa
/-
  The document's example; ParseTells, and ParseMay, at every text.
-/
namespace Go.Proofs.Ytafdogcanjcbmaa
set_option linter.unusedVariables false
set_option linter.unusedSimpArgs false
open Go.RowKit

def TrueEnd (W : World) (e : Ending) (W' : World) : Prop := e = .returned (.bool true) ∧ Below W.heap.size W W'
theorem run_one : Run numB [49, 32, 50, 43, 120] 0 [⟨1, [49], 0⟩, ⟨1, [50], 2⟩, ⟨4, [43], 3⟩, ⟨2, [120], 4⟩] none :=
  .byte (k := 1) (by decide) (by decide) (by decide) (.cons (by decide)) (fun _ => by decide) (.blank (by decide)
    (.byte (k := 1) (by decide) (by decide) (by decide) (.cons (by decide)) (fun _ => by decide)
      (.own (k := 4) (by decide) (by decide) (by decide) (.byte (k := 2) (by decide) (by decide) (by decide) (.nil _) (fun h => by cases h) (.nil _)))))
theorem ln_one : ∃ ns, Ln numT (pks [⟨1, [49], 0⟩, ⟨1, [50], 2⟩, ⟨4, [43], 3⟩, ⟨2, [120], 4⟩]) (some [⟨4, [43], [], [], []⟩, ⟨1, [], [], [], ns⟩, ⟨2, [], [], [120], []⟩]) [] := by
  have hnm : nmL (pks [⟨1, [49], 0⟩, ⟨1, [50], 2⟩, ⟨4, [43], 3⟩, ⟨2, [120], 4⟩]) = [[49], [50]] := by decide
  refine ⟨[[49], [50]].map numT, .plain ?_ ?_ (.e_term ?_ (.t_is (L := [⟨1, [], [], [], [[49], [50]].map numT⟩]) (r := pks [⟨4, [43], 3⟩, ⟨2, [120], 4⟩]) ?_ (.b_end ?_)) (.a_op (.inr (.inl rfl)) ?_))⟩
  · rintro ⟨h, _⟩
    exact absurd (show (1 : Int) = 2 from h) (by decide)
  · rintro ⟨h, _⟩
    exact absurd (show (1 : Int) = 3 from h) (by decide)
  · rintro (h | h | h)
    · exact absurd (show (1 : Int) = 3 from h) (by decide)
    · exact absurd (show (1 : Int) = 4 from h) (by decide)
    · exact absurd (show (1 : Int) = 6 from h.1) (by decide)
  · have h := Rd'.m_nums (M := numT) (ts := pks [⟨1, [49], 0⟩, ⟨1, [50], 2⟩, ⟨4, [43], 3⟩, ⟨2, [120], 4⟩]) (by rw [hnm]; decide) (by rw [hnm]; decide)
    rw [hnm] at h
    exact h
  · rintro ⟨h, _⟩
    exact absurd (show (4 : Int) = 6 from h) (by decide)
  · refine .o_is (V := [⟨4, [43], [], [], []⟩]) (x := some [⟨2, [], [], [120], []⟩]) (.v_one (.inr rfl) (.d_none ?_)) (.e_term ?_ (.t_is (.m_word rfl) (.b_end id)) (.a_end id))
    · intro h
      exact absurd (show (2 : Int) = 5 from h) (by decide)
    · rintro (h | h | h)
      · exact absurd (show (2 : Int) = 3 from h) (by decide)
      · exact absurd (show (2 : Int) = 4 from h) (by decide)
      · exact absurd (show (2 : Int) = 6 from h.1) (by decide)
theorem run_two : Run numB [40] 0 [⟨6, [40], 0⟩] none := .own (k := 6) (by decide) (by decide) (by decide) (.nil _)
theorem ln_two : Ln numT (pks [⟨6, [40], 0⟩]) none [] := by
  refine .plain ?_ ?_ (.e_bad ?_ (.t_bad (.m_par rfl rfl (.c_bad (.e_bad id (.t_bad (.m_bad id id id)))))))
  · rintro ⟨h, _⟩
    exact absurd (show (6 : Int) = 2 from h) (by decide)
  · rintro ⟨h, _⟩
    exact absurd (show (6 : Int) = 3 from h) (by decide)
  · rintro (h | h | h)
    · exact absurd (show (6 : Int) = 3 from h) (by decide)
    · exact absurd (show (6 : Int) = 4 from h) (by decide)
    · exact absurd (show ([40] : List UInt8) = [123] from h.2) (by decide)
/-- What is told, if it is known that there is a tree, and not too deep. -/
def PkEnd (X : List Tn) (W : World) (e : Ending) (W' : World) : Prop := ∃ a n c, e = .returned (.tuple #[.slice a n c, .int .i64 0, .int .i64 0]) ∧ Nx W' a n c X ∧ Below W.heap.size W W'
theorem PpEnd.tree {X : List Tn} {z : Int} {W : World} {e : Ending} {W' : World} (h : PpEnd (some X) [] z W e W') {d : Nat} (hd : Dp X 1 d) (h40 : d ≤ 40) : PkEnd X W e W' := by
  obtain ⟨hb, ⟨h1, _⟩ | ⟨Y, d2, h1, h2, ⟨h3, _⟩ | ⟨_, a, n, c, he, hN⟩⟩⟩ := h
  · cases h1
  · injection h1 with h1
    subst h1
    have := (hd.det h2).2
    omega
  · injection h1 with h1
    subst h1
    exact ⟨a, n, c, he, hN, hb⟩
theorem PpEnd.none {r : List Pk} {x : Option (List Tn)} {z : Int} {W : World} {e : Ending} {W' : World} (h : PpEnd x r z W e W') (ht : told x r = none) : e = .returned (.tuple #[.slice none 0 0, .int .i64 (plc r z), .int .i64 2]) ∧ Below W.heap.size W W' := by
  obtain ⟨hb, ⟨_, h1⟩ | ⟨Y, d2, h1, _⟩⟩ := h
  · exact ⟨h1, hb⟩
  · rw [ht] at h1; cases h1
/-- A head's kind, in memory. -/
theorem Nx.kinds {W : World} {a : Option Addr} {n c : Nat} {X : List Tn} (h : Nx W a n c X) (hX : 0 < X.length) : n = X.length ∧ ∃ b off, a = some ⟨b, off, none⟩ ∧ ∀ j (hj : j < X.length), W.cell? ⟨b, off + j * 5, none⟩ = some (.int .i64 X[j].k) := by
  obtain ⟨f, hq, _, _, rfl⟩ := h
  rw [tnF_len] at hX
  obtain ⟨b, off, e, hc⟩ := hq.ld hX
  refine ⟨by rw [tnF_len], b, off, e, fun j hj => ?_⟩
  rw [tnF_len] at hj
  rw [(hc j hj).c0]
  simp [tnF, tnOf]
set_option maxHeartbeats 1600000 in
theorem shown_is (W : World) : Calls Try.prog 9 #[] W (TrueEnd W) := by
  obtain ⟨ns, hln⟩ := ln_one
  obtain ⟨X, hX⟩ : ∃ X : List Tn, X = [⟨4, [43], [], [], []⟩, ⟨1, [], [], [], ns⟩, ⟨2, [], [], [120], []⟩] := ⟨_, rfl⟩
  have hDp : Dp X 1 2 := by
    rw [hX]
    have h1 : Dp [(⟨1, [], [], [], ns⟩ : Tn)] 1 1 := .cons (k := 0) rfl .nil
    have h2 : Dp [(⟨2, [], [], [120], []⟩ : Tn)] 1 1 := .cons (k := 0) rfl .nil
    exact .cons (k := 2) rfl (h1.app h2)
  have K1 := Lib.hid ((Parse_ok ⟨#[49, 32, 50, 43, 120]⟩ (by decide) _ run_one hln W).mono fun e W' h => (hX ▸ h : PpEnd (some X) [] _ W e W').tree hDp (by decide))
  have K2 := Lib.hid (fun W => (Parse_ok ⟨#[40]⟩ (by decide) _ run_two ln_two W).mono fun e W' h => (h.none rfl : e = .returned (.tuple #[.slice none 0 0, .int .i64 1, .int .i64 2]) ∧ Below W.heap.size W W'))
  have HX := Lib.hid hX
  clear hln hX hDp
  go_enter Try.func9, Try.ntmps9
  go_wp2_with fail
  refine K1.out.mono ?_
  rintro e w1 ⟨a, n, c, rfl, hN, hb⟩
  have HN := Lib.hid hN
  have HB := Lib.hid hb
  clear hN hb K1
  go_wp2_with fail
  refine (K2.out w1).mono ?_
  rintro e w2 ⟨rfl, hb2⟩
  obtain ⟨hn, b, off, rfl, hc⟩ := (HN.out.below hb2).kinds (by rw [HX.out]; simp)
  have hn3 : n = 3 := by rw [hn, HX.out]; rfl
  subst hn3
  have a0 : w2.cell? ⟨b, off, none⟩ = some (.int .i64 4) := by
    have := hc 0 (by omega)
    rw [Nat.zero_mul, Nat.add_zero] at this
    rw [this]
    have e := HX.out
    subst e; rfl
  have a1 : w2.cell? ⟨b, off + 5, none⟩ = some (.int .i64 1) := by
    have := hc 1 (by omega)
    rw [Nat.one_mul] at this
    rw [this]
    have e := HX.out
    subst e; rfl
  have a2 : w2.cell? ⟨b, off + 10, none⟩ = some (.int .i64 2) := by
    have := hc 2 (by omega)
    rw [show 2 * 5 = 10 from rfl] at this
    rw [this]
    have e := HX.out
    subst e; rfl
  have HB2 := Lib.hid (HB.out.trans (hb2.mono HB.out.size))
  clear hb2 hn hc K2 HN HB
  go_wp2_with fail
  go_ret
  exact ⟨rfl, HB2.out⟩
theorem tn_same {f g : Nat → Nd} {n m : Nat} (h : tnF f n = tnF g m) : (decide (n = m) && sameL f g n) = true := same_tn.2 h
theorem Ln.few {M : List UInt8 → List UInt8} {ts r : List Pk} {x : Option (List Tn)} (h : Ln M ts x r) : ∀ X, x = some X → X.length ≤ ts.length := by
  cases h with
  | @assign q w r r' x h h2 ht h1 =>
    intro X hX
    cases x with
    | none => cases hX
    | some Y =>
      cases hX
      have := h1.few Y rfl
      simp only [Rl.many, List.length_cons] at *
      omega
  | defbad h h2 ht h1 => exact fun X hX => by cases hX
  | @define q w b r r' x h h2 ht h3 hb h1 =>
    intro X hX
    cases x with
    | none => cases hX
    | some Y =>
      cases hX
      have := h1.few Y rfl
      simp only [Rl.many, List.length_cons] at *
      omega
  | idxbad h h2 ht h1 => exact fun X hX => by cases hX
  | @amend q w d r r1 r' I x h h2 ht h1 h3 hd h4 =>
    intro X hX
    cases x with
    | none => cases hX
    | some Y =>
      cases hX
      have := h1.few I rfl
      have := h4.few Y rfl
      simp only [Rl.many, List.length_cons, List.length_append] at *
      omega
  | ixbad h h2 ht h1 h3 h4 => exact fun X hX => by cases hX
  | @index q w r r1 r2 r' I L x h h2 ht h1 h3 h4 h5 =>
    intro X hX
    have a1 := h1.few I rfl
    have a2 := h4.few L rfl
    have a3 := h5.few X hX
    simp only [Rl.many, List.length_cons, List.length_append, List.length_nil] at *
    omega
  | plain h1 h2 h =>
    intro X hX
    have := h.few X hX
    simp only [Rl.many] at this
    omega
theorem told_some {x : Option (List Tn)} {r : List Pk} {X : List Tn} (ht : told x r = some X) : x = some X ∧ r = [] := by
  rcases told_cases x r with ⟨h1, _⟩ | ⟨Y, h1, h2, h3⟩
  · rw [ht] at h1; cases h1
  · rw [ht] at h3; injection h3 with h3; rw [h3]; exact ⟨h1, h2⟩
theorem told_few {s : ByteArray} {ts : List Tk} (hs : s.size ≤ 256) (h : Run numB s.data.toList 0 ts none) {x : Option (List Tn)} {r : List Pk} (hR : Ln numT (pks ts) x r) {X : List Tn} (ht : told x r = some X) : X.length ≤ 256 := by
  have h1 := hR.few X (told_some ht).1
  rw [pks_len] at h1
  have := (run_few hs h).2.2
  omega
theorem Run.at_le {N : List UInt8 → Bool} {a : List UInt8} {p : Nat} {ts : List Tk} {e : Option Nat} (h : Run N a p ts e) : ∀ t ∈ ts, p ≤ t.at_ ∧ t.at_ < p + a.length := by
  induction h with
  | nil p => exact fun t ht => by cases ht
  | blank h hr ih => exact fun t ht => by have := ih t ht; simp only [List.length_cons]; omega
  | part h h1 h6 ht hs hn hr ih =>
    intro t hh
    rcases List.mem_cons.1 hh with rfl | hh
    · simp
    · have := ih t hh
      simp only [List.length_append, List.length_cons]
      omega
  | bad h => exact fun t ht => by cases ht
  | figs h ht hs hn => exact fun t ht => by cases ht
set_option maxHeartbeats 3200000 in
theorem tells_any (s : ByteArray) (hz : s.size ≤ 9223372036854775807) (W : World) : Calls Try.prog 3 #[.string s] W (TrueEnd W) := by
  have KS := Lib.hid (fun W => shown_is W)
  have same : ∀ (a b : Option Addr) (n m c d : Nat) (X : List Tn) (w : World), X.length ≤ 256 → Nx w a n c X → Nx w b m d X → Calls Try.prog 12 #[.slice a n c, .slice b m d] w (ValEnd (.bool true) w) := by
    intro a b n m c d X w hX ⟨f, h1, _, _, h2⟩ ⟨g, h3, _, _, h4⟩
    have e1 : X.length = n := by rw [← h2, tnF_len]
    have e2 : X.length = m := by rw [← h4, tnF_len]
    have := rTSame_is a b n m c d f g w h1 h3 (by omega) (by omega)
    rwa [tn_same (h2.trans h4.symm)] at this
  have KM := Lib.hid same
  clear same
  by_cases h6 : 600 < s.size
  · have e1 : (600 : Int) < (s.size : Int) := by omega
    clear h6 hz
    go_enter Try.func3, Try.ntmps3
    go_wp2_with fail
    refine (KS.out _).mono ?_
    rintro e w1 ⟨rfl, hb1⟩
    go_wp2_with fail
    go_ret
    exact ⟨rfl, hb1⟩
  have e1 : ¬ (600 : Int) < (s.size : Int) := by omega
  have KN : ∀ w, Calls Try.prog 12 #[.slice none 0 0, .slice none 0 0] w (ValEnd (.bool true) w) := fun w => KM.out none none 0 0 0 0 [] w (by decide) ⟨fun _ => ⟨0, ⟨#[]⟩, ⟨#[]⟩, ⟨#[]⟩, none, 0, 0, []⟩, Nq.nil _ _ _, Nat.le_refl _, Nat.zero_le _, rfl⟩ ⟨fun _ => ⟨0, ⟨#[]⟩, ⟨#[]⟩, ⟨#[]⟩, none, 0, 0, []⟩, Nq.nil _ _ _, Nat.le_refl _, Nat.zero_le _, rfl⟩
  have HKN := Lib.hid KN
  clear KN
  have flat : ∀ (p q : Int), (∀ W, Calls Try.prog 10 #[.string s] W fun e W' => e = .returned (.tuple #[.slice none 0 0, .int .i64 p, .int .i64 q]) ∧ Below W.heap.size W W') → (∀ W, Calls Try.prog 11 #[.string s] W fun e W' => e = .returned (.tuple #[.slice none 0 0, .int .i64 p, .int .i64 q]) ∧ Below W.heap.size W W') → Calls Try.prog 3 #[.string s] W (TrueEnd W) := by
    intro p q k1 k2
    have K1 := Lib.hid k1
    have K2 := Lib.hid k2
    clear k1 k2 h6 hz
    go_enter Try.func3, Try.ntmps3
    go_wp2_with fail
    refine (KS.out _).mono ?_
    rintro e w1 ⟨rfl, hb1⟩
    go_wp2_with fail
    refine (K1.out _).mono ?_
    rintro e w2 ⟨rfl, hb2⟩
    replace hb2 := hb1.trans (hb2.mono hb1.size)
    clear hb1
    go_wp2_with fail
    refine (K2.out _).mono ?_
    rintro e w3 ⟨rfl, hb3⟩
    replace hb3 := hb2.trans (hb3.mono hb2.size)
    clear hb2
    go_wp2_with fail
    refine (HKN.out _).mono ?_
    rintro e w4 ⟨rfl, hb4⟩
    replace hb4 := hb3.trans (hb4.mono hb3.size)
    clear hb3
    go_wp2_with fail
    go_ret
    exact ⟨rfl, hb4⟩
  by_cases h2 : 256 < s.size
  · exact flat 0 8 (fun W => Parse_big s h2 hz W) (fun W => rParse_big s h2 hz W)
  obtain ⟨ts, e, hrun⟩ := Run.any numB s.data.toList 0
  cases e with
  | some q => exact flat q 2 (fun W => Parse_bad s (by omega) ts q hrun W) (fun W => rParse_bad s (by omega) ts q hrun W)
  | none =>
    obtain ⟨x, r, hR⟩ := Ln.any numT (pks ts)
    have k1 := fun W => Parse_ok s (by omega) ts hrun hR W
    have k2 := fun W => (rParse_ok s (by omega) ts hrun hR W).mono fun _ _ h => h.pp
    cases ht : told x r with
    | none =>
      refine flat (plc r s.size) 2 (fun W => (k1 W).mono fun e W' h => h.none ht) (fun W => (k2 W).mono fun e W' h => h.none ht)
    | some X =>
      have hX := told_few (by omega) hrun hR ht
      obtain ⟨rfl, rfl⟩ := told_some ht
      obtain ⟨d, hd⟩ := hR.tree (run_few (by omega) hrun).2.1
      by_cases h40 : d ≤ 40
      · have K1 := Lib.hid (fun W => (k1 W).mono fun e W' h => h.tree hd h40)
        have K2 := Lib.hid (fun W => (k2 W).mono fun e W' h => h.tree hd h40)
        have HX := Lib.hid hX
        clear k1 k2 h6 hz flat h2 hrun hR hX hd h40 ht
        go_enter Try.func3, Try.ntmps3
        go_wp2_with fail
        refine (KS.out _).mono ?_
        rintro e w1 ⟨rfl, hb1⟩
        go_wp2_with fail
        refine (K1.out _).mono ?_
        rintro e w2 ⟨a2, n2, c2, rfl, hN2, hb2⟩
        replace hb2 := hb1.trans (hb2.mono hb1.size)
        have HN2 := Lib.hid hN2
        clear hb1 hN2
        go_wp2_with fail
        refine (K2.out _).mono ?_
        rintro e w3 ⟨a3, n3, c3, rfl, hN3, hb3⟩
        have KM3 := Lib.hid (KM.out a2 a3 n2 n3 c2 c3 X w3 HX.out (HN2.out.below hb3) hN3)
        replace hb3 := hb2.trans (hb3.mono hb2.size)
        clear hb2 hN3
        go_wp2_with fail
        refine KM3.out.mono ?_
        rintro e w4 ⟨rfl, hb4⟩
        replace hb4 := hb3.trans (hb4.mono hb3.size)
        clear hb3
        go_wp2_with fail
        go_ret
        exact ⟨rfl, hb4⟩
      · have deep : ∀ {W e W'}, PpEnd (some X) [] s.size W e W' → e = .returned (.tuple #[.slice none 0 0, .int .i64 0, .int .i64 10]) ∧ Below W.heap.size W W' := by
          rintro W e W' ⟨hb, ⟨h1, _⟩ | ⟨Y, d2, h1, h2, ⟨_, h3⟩ | ⟨h3, _⟩⟩⟩
          · cases h1
          · exact ⟨h3, hb⟩
          · injection h1 with h1
            subst h1
            have := (hd.det h2).2
            omega
        exact flat 0 10 (fun W => (k1 W).mono fun e W' h => deep h) (fun W => (k2 W).mono fun e W' h => deep h)
set_option maxHeartbeats 3200000 in
theorem pmay_any (s : ByteArray) (hz : s.size ≤ 9223372036854775807) (W : World) : Calls Try.prog 4 #[.string s] W (TrueEnd W) := by
  have KS := Lib.hid (fun W => shown_is W)
  by_cases h6 : 600 < s.size
  · have e1 : (600 : Int) < (s.size : Int) := by omega
    clear h6 hz
    go_enter Try.func4, Try.ntmps4
    go_wp2_with fail
    refine (KS.out _).mono ?_
    rintro e w1 ⟨rfl, hb1⟩
    go_wp2_with fail
    go_ret
    exact ⟨rfl, hb1⟩
  have e1 : ¬ (600 : Int) < (s.size : Int) := by omega
  have flat : ∀ (p : Nat) (q : Int), p ≤ s.size → (q = 2 ∨ q = 10 ∨ q = 8) → (∀ W, Calls Try.prog 10 #[.string s] W fun e W' => e = .returned (.tuple #[.slice none 0 0, .int .i64 p, .int .i64 q]) ∧ Below W.heap.size W W') → Calls Try.prog 4 #[.string s] W (TrueEnd W) := by
    intro p q hp hq k1
    have K1 := Lib.hid k1
    have e2 : (0 : Int) ≤ (p : Int) := by omega
    have e3 : (p : Int) ≤ (s.size : Int) := by omega
    clear k1 h6 hz
    go_enter Try.func4, Try.ntmps4
    rcases hq with rfl | rfl | rfl
    all_goals
      go_wp2_with fail
      refine (KS.out _).mono ?_
      rintro e w1 ⟨rfl, hb1⟩
      go_wp2_with fail
      refine (K1.out _).mono ?_
      rintro e w2 ⟨rfl, hb2⟩
      replace hb2 := hb1.trans (hb2.mono hb1.size)
      clear hb1
      go_wp2_with fail
      go_ret
      exact ⟨rfl, hb2⟩
  by_cases h2 : 256 < s.size
  · exact flat 0 8 (Nat.zero_le _) (by decide) (fun W => Parse_big s h2 hz W)
  obtain ⟨ts, e, hrun⟩ := Run.any numB s.data.toList 0
  have hsl : s.data.toList.length = s.size := Array.length_toList
  cases e with
  | some q => exact flat q 2 (by have := (hrun.err_at rfl).2.1; omega) (by decide) (fun W => Parse_bad s (by omega) ts q hrun W)
  | none =>
    obtain ⟨x, r, hR⟩ := Ln.any numT (pks ts)
    have k1 := fun W => Parse_ok s (by omega) ts hrun hR W
    cases ht : told x r with
    | none =>
      have hpl : ∃ p : Nat, plc r (s.size : Int) = (p : Int) ∧ p ≤ s.size := by
        cases hr : r with
        | nil => exact ⟨s.size, rfl, Nat.le_refl _⟩
        | cons q r' =>
          have hq : q ∈ pks ts := hR.suffix.subset (by rw [hr]; exact List.mem_cons_self)
          obtain ⟨t, ht, rfl⟩ := List.mem_map.1 hq
          have := (hrun.at_le t ht).2
          exact ⟨t.at_, rfl, by omega⟩
      obtain ⟨p, hp1, hp2⟩ := hpl
      refine flat p 2 hp2 (by decide) (fun W => (k1 W).mono fun e W' h => by rw [← hp1]; exact h.none ht)
    | some X =>
      have hX := told_few (by omega) hrun hR ht
      obtain ⟨rfl, rfl⟩ := told_some ht
      obtain ⟨d, hd⟩ := hR.tree (run_few (by omega) hrun).2.1
      by_cases h40 : d ≤ 40
      · have K1 := Lib.hid (fun W => (k1 W).mono fun e W' h => h.tree hd h40)
        have KM : ∀ (a : Option Addr) (n c : Nat) (w : World), Nx w a n c X → Calls Try.prog 13 #[.slice a n c] w (ValEnd (.bool true) w) := by
          intro a n c w ⟨f, h1, h2', h3, h4⟩
          have e1 : X.length = n := by rw [← h4, tnF_len]
          have := TMay_is a n c f w h1 h2' h3 (by omega)
          rwa [mayB_yes.2 (may_of (P := fun q => Ps q ∧ q.t.length ≤ 256) (fun q h => h) hR (fun q hq => by
            have := hrun.ps q hq
            exact ⟨this.1, by omega⟩) h4 hd h40)] at this
        have HKM := Lib.hid KM
        clear k1 h6 hz flat h2 hrun hR hX hd h40 ht KM hsl
        go_enter Try.func4, Try.ntmps4
        go_wp2_with fail
        refine (KS.out _).mono ?_
        rintro e w1 ⟨rfl, hb1⟩
        go_wp2_with fail
        refine (K1.out _).mono ?_
        rintro e w2 ⟨a2, n2, c2, rfl, hN2, hb2⟩
        have KM3 := Lib.hid (HKM.out a2 n2 c2 w2 hN2)
        replace hb2 := hb1.trans (hb2.mono hb1.size)
        clear hb1 hN2
        go_wp2_with fail
        refine KM3.out.mono ?_
        rintro e w4 ⟨rfl, hb4⟩
        replace hb4 := hb2.trans (hb4.mono hb2.size)
        clear hb2
        go_wp2_with fail
        go_ret
        exact ⟨rfl, hb4⟩
      · refine flat 0 10 (Nat.zero_le _) (by decide) (fun W => (k1 W).mono ?_)
        rintro e W' ⟨hb, ⟨h1, _⟩ | ⟨Y, d2, h1, h2, ⟨_, h3⟩ | ⟨h3, _⟩⟩⟩
        · cases h1
        · exact ⟨h3, hb⟩
        · injection h1 with h1
          subst h1
          have := (hd.det h2).2
          omega
end Go.Proofs.Ytafdogcanjcbmaa
/-
  What the rows of texts want.
-/
namespace Go.Proofs.Ytafdogcanjcbmaa
set_option linter.unusedVariables false
set_option linter.unusedSimpArgs false
open Go.ChangeShapes Go.WideShapes Go.ChangeAt Go.RowKit

theorem own : ownKnob Try.prog.godebug = none := by kernel_rfl
theorem laidOut : laidOutB Try.prog = true := by kernel_rfl
end Go.Proofs.Ytafdogcanjcbmaa

/-
  Whether two lists have the same nodes, of the reference.
-/
import Derived.Test.YtiopemimancliaaYo
import Derived.BigQuiet
namespace Go.Proofs.Ytiopemimancliaa
open Go.RowKit
set_option maxRecDepth 10000
set_option maxHeartbeats 80000000 in
theorem rTSame_is (a b : Option Addr) (n m c d : Nat) (f g : Nat → Nd) (W : World) (h1 : Nq W a n f) (h2 : Nq W b m g) (hn : n ≤ 1000000) (hm : m ≤ 1000000) :
    Calls Try.prog 21 #[.slice a n c, .slice b m d] W (ValEnd (.bool (decide (n = m) && sameL f g n)) W) := by
  by_cases hnm : n = m
  · subst hnm
    rw [decide_eq_true rfl, Bool.true_and]
    have H1 := Lib.hid h1
    have H2 := Lib.hid h2
    obtain ⟨r, hr⟩ : ∃ r, r = sameL f g n := ⟨_, rfl⟩
    rw [← hr]
    have HR := Lib.hid hr
    clear h1 h2 hr
    go_enter Try.func21, Try.ntmps21
    go_wp2_with fail
    go_loopw [5] (fun kv wr => ∃ j : Nat, kv = .int .i64 j ∧ j ≤ n ∧ (∀ i, i < j → smN (f i) (g i) = true) ∧ Below W.heap.size W wr) (fun kv _ => n - (intOf kv).toNat)
    case atStart => exact ⟨0, rfl, by omega, fun i hi => by omega, Below.refl _ _⟩
    case round =>
      obtain ⟨j, rfl, hj, hall, hb⟩ := hrel
      have HA := Lib.hid hall
      clear hall
      by_cases hlt : j < n
      · have e3 : (j : Int) < (n : Int) := by omega
        obtain ⟨ga, oa, rfl, hca⟩ := H1.out.ld (by omega)
        obtain ⟨gb, ob, rfl, hcb⟩ := H2.out.ld (by omega)
        have la := (hca j hlt).below hb (hca j hlt).lt
        have lb := (hcb j hlt).below hb (hcb j hlt).lt
        have oA := (H1.out.on j hlt).below hb
        have oB := (H2.out.on j hlt).below hb
        have HNA := Lib.hid (fun (h : smN (f j) (g j) = true) i (hi : i < j + 1) => show smN (f i) (g i) = true by
          by_cases hij : i < j
          · exact HA.out i hij
          · obtain rfl : i = j := by omega
            exact h)
        have HNF := Lib.hid (fun (h : smN (f j) (g j) = false) => show r = false by rw [HR.out]; exact sameL_no hlt h)
        generalize f j = df at *
        generalize g j = dg at *
        obtain ⟨dk, dv, da, dx, dp, dm, dc, dn⟩ := df
        obtain ⟨ek, ev, ea, ex, ep, em', ec, en⟩ := dg
        obtain ⟨c0, c1, c2, c3, c4⟩ := la
        obtain ⟨b0, b1, b2, b3, b4⟩ := lb
        simp only at c0 c1 c2 c3 c4 b0 b1 b2 b3 b4
        have HOA := Lib.hid oA
        have HOB := Lib.hid oB
        have q1 : dm ≤ 9223372036854775807 := maxLen_le (Nat.le_trans oA.mc oA.cm)
        have q2 : dn.length = dm := oA.nl
        have q3 : en.length = em' := oB.nl
        clear hca hcb oA oB
        by_cases hk : dk = ek
        · subst hk
          by_cases hv : dv.toList = ev.toList
          · obtain rfl := tl_eq hv
            clear hv
            by_cases ha : da.toList = ea.toList
            · obtain rfl := tl_eq ha
              clear ha
              by_cases hx : dx.toList = ex.toList
              · obtain rfl := tl_eq hx
                clear hx
                by_cases hm : dm = em'
                · subst hm
                  have HLA := Lib.hid (show Ld wr ga (oa + j * 5) ⟨dk, dv, da, dx, dp, dm, dc, dn⟩ from ⟨c0, c1, c2, c3, c4⟩)
                  have HLB := Lib.hid (show Ld wr gb (ob + j * 5) ⟨dk, dv, da, dx, ep, dm, ec, en⟩ from ⟨b0, b1, b2, b3, b4⟩)
                  have HQ2 := Lib.hid q2
                  have HQ3 := Lib.hid q3
                  have HB0 := Lib.hid hb
                  clear q2 q3 hb
                  go_wp2_with fail
                  simp only [List.append_eq, List.cons_append, List.nil_append]
                  go_quiet (fail)
                  have hbq := below_drewN (Below.refl wr.heap.size wr) nq
                  clear c0 c1 c2 c3 c4 b0 b1 b2 b3 b4
                  generalize wr.drewN nq = wq at *
                  generalize wr = w0 at *
                  go_wp2_with fail
                  go_loopw [6] (fun kv w2 => ∃ q : Nat, kv = .int .i64 q ∧ q ≤ dm ∧ (∀ i, i < q → dn.getD i ByteArray.empty = en.getD i ByteArray.empty) ∧ Below w0.heap.size w0 w2) (fun kv _ => dm - (intOf kv).toNat)
                  case atStart => exact ⟨0, rfl, by omega, fun i hi => by omega, hbq⟩
                  case round =>
                    clear hbq
                    obtain ⟨q, rfl, hq, heq, hb2⟩ := hrel
                    have HE := Lib.hid heq
                    have c4 := (HLA.out.below hb2 HLA.out.lt).c4
                    have b4 := (HLB.out.below hb2 HLB.out.lt).c4
                    simp only at c4 b4
                    have HB2 := Lib.hid hb2
                    clear heq
                    by_cases hqm : q < dm
                    · have f2 : (q : Int) < (dm : Int) := by omega
                      obtain ⟨g1, o1, hg1, hs1⟩ := HOA.out.st.2 (show 0 < dm by omega)
                      obtain ⟨g2, o2, hg2, hs2⟩ := HOB.out.st.2 (show 0 < dm by omega)
                      replace hg1 : dp = some ⟨g1, o1, none⟩ := hg1
                      replace hg2 : ep = some ⟨g2, o2, none⟩ := hg2
                      subst hg1 hg2
                      have s1 := hs1 q hqm
                      have s2 := hs2 q hqm
                      replace s1 := (hb2.cell (p := ⟨g1, o1 + q, none⟩) (World.block_lt_of_cell? w0 _ s1)).trans s1
                      replace s2 := (hb2.cell (p := ⟨g2, o2 + q, none⟩) (World.block_lt_of_cell? w0 _ s2)).trans s2
                      simp only at s1 s2
                      have HG := Lib.hid (show dn.getD q ByteArray.empty = en.getD q ByteArray.empty → ∀ i, i < q + 1 → dn.getD i ByteArray.empty = en.getD i ByteArray.empty from fun h i hi => by
                        by_cases hiq : i < q
                        · exact HE.out i hiq
                        · obtain rfl : i = q := by omega
                          exact h)
                      have HF := Lib.hid (show dn.getD q ByteArray.empty ≠ en.getD q ByteArray.empty → r = false from fun h => HNF.out (smN_no fun h2 => h (by rw [show dn = en from h2.2.2.2.2])))
                      generalize dn.getD q ByteArray.empty = s at *
                      generalize en.getD q ByteArray.empty = t at *
                      clear hs1 hs2 hb2
                      by_cases hst : s.toList = t.toList
                      · obtain rfl := tl_eq hst
                        clear hst
                        go_wp2_with fail
                        go_quiet (fail)
                        have hbx := below_drewN HB2.out nq
                        clear s1 s2 c4 b4
                        go_wp2_with fail
                        refine ⟨⟨q + 1, by go_num, by omega, HG.out (by first | rfl | trivial), hbx⟩, by simp [intOf]; omega⟩
                      · obtain rfl : r = false := HF.out (fun h => hst (by rw [h]))
                        have e4 : (!s.toList == t.toList) = true := by simp [hst]
                        clear HG HF HNA HNF
                        go_wp2_with fail
                        go_quiet (fail)
                        go_wp2_with fail
                        go_ret
                        exact ⟨rfl, below_drewN (HB0.out.trans (HB2.out.mono HB0.out.size)) _⟩
                    · have f2 : ¬ (q : Int) < (dm : Int) := by omega
                      obtain rfl : q = dm := by omega
                      have hde : dn = en := by
                        refine List.ext_getElem (by rw [HQ2.out, HQ3.out]) fun i h1 h2 => ?_
                        have := HE.out i (by rw [← HQ2.out]; exact h1)
                        simpa [List.getD_eq_getElem?_getD, List.getElem?_eq_getElem h1, List.getElem?_eq_getElem h2] using this
                      have HX := Lib.hid (HNA.out (smN_yes.2 ⟨rfl, rfl, rfl, rfl, hde⟩))
                      have hbz := HB0.out.trans (HB2.out.mono HB0.out.size)
                      clear hde hb2 HE
                      go_wp2_with fail
                      refine ⟨⟨j + 1, by go_num, by omega, HX.out, hbz⟩, by simp [intOf]; omega⟩
                · obtain rfl : r = false := HNF.out (smN_no fun h => hm (by rw [← q2, ← q3]; exact congrArg List.length h.2.2.2.2))
                  have e4 : ¬ (dm : Int) = (em' : Int) := by omega
                  have e5 : ((dm : Int) != (em' : Int)) = true := by simp; omega
                  clear HNA HNF q2 q3 HOA HOB HA HR H1 H2
                  go_wp2_with fail
                  simp only [List.append_eq, List.cons_append, List.nil_append]
                  go_quiet (fail)
                  go_wp2_with fail
                  go_ret
                  exact ⟨rfl, below_drewN hb _⟩
              · obtain rfl : r = false := HNF.out (smN_no fun h => hx (congrArg ByteArray.toList h.2.2.2.1))
                have e4 : (!dx.toList == ex.toList) = true := by simp [hx]
                clear HNA HNF q2 q3 HOA HOB HA HR H1 H2
                go_wp2_with fail
                simp only [List.append_eq, List.cons_append, List.nil_append]
                go_quiet (fail)
                go_wp2_with fail
                go_ret
                exact ⟨rfl, below_drewN hb _⟩
            · obtain rfl : r = false := HNF.out (smN_no fun h => ha (congrArg ByteArray.toList h.2.2.1))
              have e4 : (!da.toList == ea.toList) = true := by simp [ha]
              clear HNA HNF q2 q3 HOA HOB HA HR H1 H2
              go_wp2_with fail
              simp only [List.append_eq, List.cons_append, List.nil_append]
              go_quiet (fail)
              go_wp2_with fail
              go_ret
              exact ⟨rfl, below_drewN hb _⟩
          · obtain rfl : r = false := HNF.out (smN_no fun h => hv (congrArg ByteArray.toList h.2.1))
            have e4 : (!dv.toList == ev.toList) = true := by simp [hv]
            clear HNA HNF q2 q3 HOA HOB HA HR H1 H2
            go_wp2_with fail
            simp only [List.append_eq, List.cons_append, List.nil_append]
            go_quiet (fail)
            go_wp2_with fail
            go_ret
            exact ⟨rfl, below_drewN hb _⟩
        · obtain rfl : r = false := HNF.out (smN_no fun h => hk h.1)
          have e4 : (dk != ek) = true := by simp [hk]
          clear HNA HNF q2 q3 HOA HOB HA HR H1 H2
          go_wp2_with fail
          simp only [List.append_eq, List.cons_append, List.nil_append]
          go_quiet (fail)
          go_wp2_with fail
          go_ret
          exact ⟨rfl, below_drewN hb _⟩
      · have e3 : ¬ (j : Int) < (n : Int) := by omega
        obtain rfl : r = true := by rw [HR.out]; exact sameL_yes.2 fun i hi => HA.out i (by omega)
        go_wp2_with fail
        go_ret
        exact ⟨rfl, hb⟩
  · rw [decide_eq_false hnm, Bool.false_and]
    have e1 : ¬ (n : Int) = (m : Int) := by omega
    clear h1 h2
    go_enter Try.func21, Try.ntmps21
    go_wp2_with fail
    go_ret
    exact ⟨rfl, Below.refl _ _⟩
end Go.Proofs.Ytiopemimancliaa

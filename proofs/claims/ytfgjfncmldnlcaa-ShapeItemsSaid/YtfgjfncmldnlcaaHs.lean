import Derived.Test.YtfgjfncmldnlcaaHo
import Derived.Deep.RegionWith
namespace Go.Proofs.Ytfgjfncmldnlcaa
open Go.RowKit

/-! ### The document's Offset -/
theorem sum_range {l t : List Int} (hm : MayL l) {k : Nat} (hk : k < l.length) (h : inL l t (k + 1) = true) : 0 ≤ t.getD k 0 * pr (l.drop (k + 1)) ∧ t.getD k 0 * pr (l.drop (k + 1)) ≤ 4096 ∧ 0 ≤ sum l t (k + 1) ∧ sum l t (k + 1) ≤ 4096 := by
  have hr := hor_range (l := l) (t := t) (n := k + 1) (by omega) h
  have hr0 := hor_range (l := l) (t := t) (n := k) (by omega) (by simp only [inL, Bool.and_eq_true] at h; exact h.1)
  have hpr := hm.pr
  have ha := inL_at h (Nat.lt_succ_self k)
  by_cases hp : AllPos l
  · have hd := hp.drop (k + 1)
    have h1 : 0 ≤ t.getD k 0 * pr (l.drop (k + 1)) := Int.mul_nonneg ha.1 (by omega)
    have e := sum_hor (l := l) (t := t) (i := k + 1) (by omega)
    have e0 := sum_hor (l := l) (t := t) (i := k) (by omega)
    have h2 : hor l t (k + 1) * pr (l.drop (k + 1)) ≤ pr (l.take (k + 1)) * pr (l.drop (k + 1)) := Int.mul_le_mul_of_nonneg_right (by omega) (by omega)
    rw [← pr_append, List.take_append_drop] at h2
    have h3 : 0 ≤ hor l t k * pr (l.drop k) := Int.mul_nonneg hr0.1 (by have := hp.drop k; omega)
    have e2 : sum l t (k + 1) = sum l t k + t.getD k 0 * pr (l.drop (k + 1)) := rfl
    omega
  · have : ∃ j, j < l.length ∧ l.getD j 0 = 0 := by
      refine Classical.byContradiction fun hn => hp ⟨fun j hj => ?_⟩
      have := hm.nn j hj
      rcases Int.lt_or_le 0 (l.getD j 0) with h1 | h1
      · exact h1
      · exact absurd ⟨j, hj, by omega⟩ hn
    obtain ⟨j, hj, hz⟩ := this
    have hjk : k < j := by
      rcases Nat.lt_or_ge k j with h1 | h1
      · exact h1
      · have := inL_at h (show j < k + 1 by omega); omega
    have hd : pr (l.drop (k + 1)) = 0 := pr_zero_at (j := j - (k + 1)) (by rw [List.length_drop]; omega) (by rw [getD_drop, show k + 1 + (j - (k + 1)) = j by omega]; exact hz)
    rw [sum_hor (by omega), hd]
    simp
set_option maxRecDepth 10000 in
set_option maxHeartbeats 1600000 in
theorem rOffset_is (a1 a2 : Option Addr) (n c m d : Nat) (l t : List Int) (W : World) (h1 : Sl W a1 n l) (h2 : Sl W a2 m t) (hm20 : m ≤ 20) : OffIs 13 a1 a2 n c m d (ofV l t) (ofB l t) W := by
  have hmay := rMay_is a1 n c l W h1 _ rfl
  obtain ⟨v, hv⟩ : ∃ v, v = ofV l t := ⟨_, rfl⟩
  obtain ⟨b, hb⟩ : ∃ b, b = ofB l t := ⟨_, rfl⟩
  rw [← hv, ← hb]
  have HV := Lib.hid hv
  have HB := Lib.hid hb
  have H1 := Lib.hid h1
  have H2 := Lib.hid h2
  clear hv hb h1 h2
  unfold OffIs
  by_cases he : szE l = 0
  · rw [he] at hmay
    have HM := Lib.hid (szE_may.1 he)
    have hn3 : n ≤ 3 := by have := HM.out.len; rw [H1.out.1] at this; exact this
    have K := Lib.hid hmay
    clear hmay he
    by_cases hnm : m = n
    · subst hnm
      have hlt : l.length = t.length := by rw [H1.out.1, H2.out.1]
      have HL := Lib.hid hlt
      clear hlt
      go_enter Try.func13, Try.ntmps13
      go_wp2_with fail
      refine K.out.mono ?_
      rintro x w1 ⟨rfl, rfl⟩
      go_wp2_with fail
      go_loopw [6, 7] (fun o i wr => ∃ (k : Nat) (z : Int), i = .int .i64 k ∧ o = .int .i64 z ∧ k ≤ m ∧ Hid (inL l t k = true) ∧ Hid (z = sum l t k) ∧ Drawn W wr) (fun _ i _ => m - (intOf i).toNat)
      case atStart => exact ⟨0, 0, rfl, rfl, by omega, Lib.hid rfl, Lib.hid rfl, Drawn.refl _⟩
      case round =>
        obtain ⟨k, z, rfl, rfl, hk, HI, HZ, HD⟩ := hrel
        have HW := Lib.hid HD
        clear HD
        by_cases hlt : k < m
        · have e2 : (k : Int) < (m : Int) := by omega
          obtain ⟨b1, o1, rfl, hc1⟩ := H1.out.2 (by omega)
          obtain ⟨b2, o2, rfl, hc2⟩ := H2.out.2 (by omega)
          have hk1 := (HW.out.cell _).trans (hc1 k hlt)
          have hk2 := (HW.out.cell _).trans (hc2 k hlt)
          clear hc1 hc2
          obtain ⟨x, hx⟩ : ∃ x, x = l.getD k 0 := ⟨_, rfl⟩
          obtain ⟨y, hy⟩ : ∃ y, y = t.getD k 0 := ⟨_, rfl⟩
          rw [← hx] at hk1
          rw [← hy] at hk2
          have HX := Lib.hid hx
          have HY := Lib.hid hy
          clear hx hy
          have hkl : k < l.length := by rw [H1.out.1]; exact hlt
          by_cases c1 : y < 0
          · obtain ⟨f1, f2⟩ := ofB_in (t := t) hkl (.inl (by rw [← HY.out]; exact c1))
            obtain rfl : b = false := HB.out.trans f1
            obtain rfl : v = 0 := HV.out.trans f2
            clear f1 f2
            go_wp2_with fail
            go_quiet (fail)
            go_wp2_with fail
            go_ret2
            exact ⟨rfl, HW.out.more _⟩
          have d1 : decide (y < 0) = false := decide_eq_false c1
          by_cases c2 : x ≤ y
          · obtain ⟨f1, f2⟩ := ofB_in (t := t) hkl (.inr (by rw [← HY.out, ← HX.out]; exact c2))
            obtain rfl : b = false := HB.out.trans f1
            obtain rfl : v = 0 := HV.out.trans f2
            clear f1 f2
            go_wp2_with fail
            go_quiet (fail)
            go_wp2_with fail
            go_ret2
            exact ⟨rfl, HW.out.more _⟩
          · have d2 : decide (x ≤ y) = false := decide_eq_false c2
            have hin : inL l t (k + 1) = true := by simp only [inL, HI.out, Bool.true_and, Bool.and_eq_true, decide_eq_true_eq]; exact ⟨by rw [← HY.out]; omega, by rw [← HX.out, ← HY.out]; omega⟩
            have hsr := sum_range HM.out hkl hin
            have e : sum l t (k + 1) = sum l t k + t.getD k 0 * pr (l.drop (k + 1)) := rfl
            have hst : wrap64 (z + wrap64 (y * pr (l.drop (k + 1)))) = sum l t (k + 1) := by
              rw [e, ← HY.out, ← HZ.out] at hsr ⊢
              rw [w64 (x := y * pr (l.drop (k + 1))) (by omega) (by omega)]
              exact w64 (by omega) (by omega)
            have KS := Lib.hid (fun w' (hd : Drawn W w') => step_is (some ⟨b1, o1, none⟩) m c l k w' (hd.sl H1.out) hlt hm20 (fun q hq => part_le HM.out hkl (fun j hj => by have := inL_at hin (show j < k + 1 by omega); omega) (by rw [H1.out.1]; exact hq)))
            generalize pr (l.drop (k + 1)) = D at KS hst
            have HT := Lib.hid hst
            have HN := Lib.hid hin
            clear hst hsr e hin
            go_wp2_with fail
            go_quiet (fail)
            go_wp2_with fail
            have HW2 := Lib.hid (HW.out.more nq)
            have hk3 := (HW2.out.cell _).trans ((HW.out.cell _).symm.trans hk1)
            have hk4 := (HW2.out.cell _).trans ((HW.out.cell _).symm.trans hk2)
            clear hk1 hk2
            generalize wr.drewN nq = wr2 at HW2 hk3 hk4 ⊢
            go_quiet ((go_at_call 24; exact Calls.quiet_of_same (KS.out _ (HW2.out.more _))))
            go_wp2_with fail
            go_roundw
            case rel => exact ⟨k + 1, _, by go_num, rfl, by omega, HN, HT, HW2.out.more _⟩
            case measure => simp [intOf]; omega
        · have e2 : ¬ (k : Int) < (m : Int) := by omega
          obtain rfl : k = m := by omega
          have f1 : ofB l t = true := by unfold ofB; rw [szE_may.2 HM.out, ← HL.out, H1.out.1, HI.out]; simp
          have f2 : ofV l t = z := by unfold ofV; rw [if_pos f1, ← sum_all, H1.out.1, ← HZ.out]
          obtain rfl : b = true := HB.out.trans f1
          obtain rfl : v = z := HV.out.trans f2
          clear f1 f2
          go_wp2_with fail
          go_ret2
          exact ⟨rfl, HW.out⟩
    · obtain ⟨f1, f2⟩ := ofB_bad (l := l) (t := t) (.inr (by rw [H1.out.1, H2.out.1]; omega))
      obtain rfl : b = false := HB.out.trans f1
      obtain rfl : v = 0 := HV.out.trans f2
      clear f1 f2
      have e2 : (n : Int) ≠ (m : Int) := by omega
      go_enter Try.func13, Try.ntmps13
      go_wp2_with fail
      refine K.out.mono ?_
      rintro x w1 ⟨rfl, rfl⟩
      go_wp2_with fail
      go_ret2
      exact ⟨rfl, Drawn.refl _⟩
  · obtain ⟨f1, f2⟩ := ofB_bad (l := l) (t := t) (.inl he)
    obtain rfl : b = false := HB.out.trans f1
    obtain rfl : v = 0 := HV.out.trans f2
    clear f1 f2
    rw [show (szE l == 0) = false from beq_eq_false_iff_ne.2 he] at hmay
    have K := Lib.hid hmay
    clear hmay he
    go_enter Try.func13, Try.ntmps13
    go_wp2_with fail
    refine K.out.mono ?_
    rintro x w1 ⟨rfl, rfl⟩
    go_wp2_with fail
    go_ret2
    exact ⟨rfl, Drawn.refl _⟩
/-! ### The document's Same -/
theorem list_ext {l k : List Int} (hn : l.length = k.length) (h : ∀ j, j < l.length → l.getD j 0 = k.getD j 0) : l = k := by
  refine List.ext_getElem hn fun i h1 h2 => ?_
  have := h i h1
  rwa [List.getD_eq_getElem?_getD, List.getD_eq_getElem?_getD, List.getElem?_eq_getElem h1, List.getElem?_eq_getElem h2] at this
set_option maxRecDepth 10000 in
set_option maxHeartbeats 800000 in
theorem rSame_is (a1 a2 : Option Addr) (n c m d : Nat) (l k : List Int) (W : World) (h1 : Sl W a1 n l) (h2 : Sl W a2 m k) (hn : n ≤ 20) (hm : m ≤ 20) (b : Bool) (hb : b = (l == k)) :
    Calls Try.prog 18 #[.slice a1 n c, .slice a2 m d] W fun x W' => x = .returned (.bool b) ∧ Drawn W W' := by
  have HB := Lib.hid hb
  have H1 := Lib.hid h1
  have H2 := Lib.hid h2
  clear hb h1 h2
  by_cases hnm : n = m
  · subst hnm
    go_enter Try.func18, Try.ntmps18
    go_wp2_with fail
    go_loopw [5] (fun i wr => ∃ q : Nat, i = .int .i64 q ∧ q ≤ n ∧ Hid (∀ j, j < q → l.getD j 0 = k.getD j 0) ∧ Drawn W wr) (fun i _ => n - (intOf i).toNat)
    case atStart => exact ⟨0, rfl, by omega, Lib.hid (fun j hj => by omega), Drawn.refl _⟩
    case round =>
      obtain ⟨q, rfl, hq, HI, HD⟩ := hrel
      have HW := Lib.hid HD
      clear HD
      by_cases hlt : q < n
      · have e2 : (q : Int) < (n : Int) := by omega
        obtain ⟨b1, o1, rfl, hc1⟩ := H1.out.2 (by omega)
        obtain ⟨b2, o2, rfl, hc2⟩ := H2.out.2 (by omega)
        have hk1 := (HW.out.cell _).trans (hc1 q hlt)
        have hk2 := (HW.out.cell _).trans (hc2 q hlt)
        clear hc1 hc2
        obtain ⟨x, hx⟩ : ∃ x, x = l.getD q 0 := ⟨_, rfl⟩
        obtain ⟨y, hy⟩ : ∃ y, y = k.getD q 0 := ⟨_, rfl⟩
        rw [← hx] at hk1
        rw [← hy] at hk2
        have HX := Lib.hid hx
        have HY := Lib.hid hy
        clear hx hy
        by_cases c1 : x = y
        · subst c1
          go_wp2_with fail
          go_quiet (fail)
          go_wp2_with fail
          go_roundw
          case rel =>
            refine ⟨q + 1, by go_num, by omega, Lib.hid fun j hj => ?_, HW.out.more _⟩
            rcases Nat.lt_or_ge j q with h2 | h2
            · exact HI.out j h2
            · rw [show j = q by omega, ← HX.out, ← HY.out]
          case measure => simp [intOf]; omega
        · have hne : (l == k) = false := beq_eq_false_iff_ne.2 (by rintro rfl; exact c1 (HX.out.trans HY.out.symm))
          obtain rfl : b = false := HB.out.trans hne
          clear hne
          have c2 : (x == y) = false := beq_eq_false_iff_ne.2 c1
          go_wp2_with fail
          go_quiet (fail)
          go_wp2_with fail
          go_ret
          exact ⟨rfl, HW.out.more _⟩
      · have e2 : ¬ (q : Int) < (n : Int) := by omega
        have heq : l = k := list_ext (by rw [H1.out.1, H2.out.1]) (fun j hj => HI.out j (by rw [H1.out.1] at hj; omega))
        obtain rfl : b = true := HB.out.trans (by rw [heq]; exact beq_self_eq_true _)
        clear heq
        go_wp2_with fail
        go_ret
        exact ⟨rfl, HW.out⟩
  · have hne : (l == k) = false := beq_eq_false_iff_ne.2 (by rintro rfl; exact hnm (H1.out.1.symm.trans H2.out.1))
    obtain rfl : b = false := HB.out.trans hne
    clear hne
    have e2 : (n : Int) ≠ (m : Int) := by omega
    go_enter Try.func18, Try.ntmps18
    go_wp2_with fail
    go_ret
    exact ⟨rfl, Drawn.refl _⟩
end Go.Proofs.Ytfgjfncmldnlcaa

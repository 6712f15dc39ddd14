import Derived.Test.YtfgjfncmldnlcaaHt
namespace Go.Proofs.Ytfgjfncmldnlcaa
open Go.RowKit

/-- The three laws that ask Size first: what may not be, and what has no element, is let go. -/
theorem may_n3 {l : List Int} {n : Nat} (h : szE l = 0) (hl : l.length = n) : n ≤ 3 := by have := (szE_may.1 h).len; omega
theorem may_pr {l : List Int} (h : szE l = 0) : 0 ≤ pr l ∧ pr l ≤ 4096 := ⟨pr_nonneg (szE_may.1 h).nn, (szE_may.1 h).pr⟩

/-! ### The law: ShapeBack -/
set_option maxRecDepth 10000 in
set_option maxHeartbeats 1600000 in
theorem back_any (a : Option Addr) (n c : Nat) (l : List Int) (off : Int) (W : World) (h : Sl W a n l) (h0 : 0 ≤ off) (h1 : off ≤ 65535) :
    Calls Try.prog 5 #[.slice a n c, .int .u16 off] W (TrueEnd W) := by
  have K1 := Lib.hid (fun w (hb : Below W.heap.size W w) => Size_is a n c l w (h.below hb))
  have HS := Lib.hid h
  clear h
  by_cases he : szE l = 0
  · have hn3 := may_n3 he HS.out.1
    have hp := may_pr he
    have g1 : ¬ (20 : Int) < n := by omega
    by_cases hz : pr l = 0
    · rw [szV_pr he, he, hz] at K1
      clear he hp
      go_enter Try.func5, Try.ntmps5
      go_wp2_with fail
      refine (shown_is _).mono ?_
      rintro x w1 ⟨rfl, hb1⟩
      go_wp2_with fail
      refine (K1.out _ hb1).mono ?_
      rintro x w2 ⟨rfl, rfl⟩
      go_wp2_with fail
      go_ret
      exact ⟨rfl, hb1⟩
    · have hk0 : 0 ≤ off % pr l := Int.emod_nonneg _ hz
      have hk1 : off % pr l < pr l := Int.emod_lt_of_pos _ (by omega)
      obtain ⟨k, hk⟩ : ∃ k, k = off % pr l := ⟨_, rfl⟩
      rw [← hk] at hk0 hk1
      obtain ⟨f1, f2⟩ := plB_yes he hk0 hk1
      obtain ⟨f3, f4⟩ := back_plL (szE_may.1 he) hk0 hk1
      obtain ⟨f5, f6⟩ := plB_no (l := l) (k := pr l) (.inr (.inr (Int.le_refl _)))
      have K2 := fun w (hb : Below W.heap.size W w) => Place_is a n c l k w (HS.out.below hb) (by omega)
      rw [f1, f2] at K2
      have K3 := fun w a' n' c' (hb : Below W.heap.size W w) (hs : Sl w a' n' (plL l k)) (hn : n' ≤ 20) => Offset_is a a' n c n' c' l (plL l k) w (HS.out.below hb) hs hn
      rw [f3, f4] at K3
      have K4 := fun w (hb : Below W.heap.size W w) => Place_is a n c l (pr l) w (HS.out.below hb) (by omega)
      rw [f5, f6] at K4
      have hlen := plL_length l k
      rw [HS.out.1] at hlen
      rw [szV_pr he, he] at K1
      clear f1 f2 f3 f4 f5 f6 he
      generalize plL l k = p at K2 K3 hlen
      have HP := Lib.hid hlen
      generalize pr l = S at *
      have K2 := Lib.hid K2
      have K3 := Lib.hid K3
      have K4 := Lib.hid K4
      have hkm : off % S = k := hk.symm
      have hS0 : (S == 0) = false := beq_eq_false_iff_ne.2 hz
      clear hlen hk
      go_enter Try.func5, Try.ntmps5
      go_wp2_with fail
      refine (shown_is _).mono ?_
      rintro x w1 ⟨rfl, hb1⟩
      go_wp2_with fail
      refine (K1.out _ hb1).mono ?_
      rintro x w2 ⟨rfl, rfl⟩
      go_wp2_with fail
      refine (K2.out _ hb1).mono ?_
      rintro x w2 ⟨a2, n2, c2, rfl, hs2, hn2, hb2'⟩
      have hb2 := hb1.trans (hb2'.mono hb1.size)
      obtain rfl : n2 = n := hs2.1.symm.trans HP.out
      have HS2 := Lib.hid hs2
      clear hb2' hb1 hs2
      go_wp2_with fail
      refine (K3.out _ _ _ _ hb2 HS2.out hn2).mono ?_
      rintro x w3 ⟨rfl, hd3⟩
      have hb3 := hb2.trans (hd3.below.mono hb2.size)
      clear hd3 hb2
      go_wp2_with fail
      refine (K4.out _ hb3).mono ?_
      rintro x w4 ⟨a4, n4, c4, rfl, hs4, hn4, hb4'⟩
      have hb4 := hb3.trans (hb4'.mono hb3.size)
      clear hb4' hb3 hs4
      go_wp2_with fail
      go_ret
      exact ⟨rfl, hb4⟩
  · rw [szV_zero he] at K1
    generalize szE l = E at *
    have hE : (E != 0) = true := by simpa using he
    go_enter Try.func5, Try.ntmps5
    go_wp2_with fail
    refine (shown_is _).mono ?_
    rintro x w1 ⟨rfl, hb1⟩
    go_wp2_with fail
    refine (K1.out _ hb1).mono ?_
    rintro x w2 ⟨rfl, rfl⟩
    go_wp2_with fail
    all_goals
      go_ret
      exact ⟨rfl, hb1⟩

/-! ### The law: ShapeItems -/
theorem items_of {l : List Int} (hm : MayL l) (hne : l.length ≠ 0) : pr l = l.getD 0 0 * pr l.tail ∧ (l.getD 0 0 ≠ 0 → MayL l.tail) := by
  obtain ⟨x, r, rfl⟩ : ∃ x r, l = x :: r := by
    cases l with
    | nil => exact absurd rfl hne
    | cons x r => exact ⟨x, r, rfl⟩
  refine ⟨rfl, fun h0 => ?_⟩
  have hx := hm.nn 0 (by simp)
  have hr : ∀ j, j < r.length → 0 ≤ r.getD j 0 := fun j hj => by have := hm.nn (j + 1) (by simpa using hj); simpa using this
  have hp := pr_nonneg hr
  have hpr := hm.pr
  simp only [List.getD_cons_zero] at hx h0
  simp only [pr] at hpr
  refine ⟨by have := hm.len; simp at this ⊢; omega, hr, fun j hj => by have := hm.le (j + 1) (by simpa using hj); simpa using this, ?_⟩
  have : 1 * pr r ≤ x * pr r := Int.mul_le_mul_of_nonneg_right (by omega) hp
  simp only [List.tail_cons]
  omega
set_option maxRecDepth 10000 in
set_option maxHeartbeats 1600000 in
theorem items_any (a : Option Addr) (n c : Nat) (l : List Int) (W : World) (h : Sl W a n l) (hc1 : n ≤ c) (hc2 : c ≤ maxLen) :
    Calls Try.prog 8 #[.slice a n c] W (TrueEnd W) := by
  have K1 := Lib.hid (fun w (hb : Below W.heap.size W w) => Size_is a n c l w (h.below hb))
  have HS := Lib.hid h
  clear h
  by_cases he : szE l = 0
  · have hn3 := may_n3 he HS.out.1
    have hp := may_pr he
    have g1 : ¬ (20 : Int) < n := by omega
    have K2 := Lib.hid (fun w (hb : Below W.heap.size W w) => Items_is a n c l w (HS.out.below hb) (by omega) hc1 hc2)
    have K3 := Lib.hid (fun w a n c (hs : Sl w a n l.tail) => Size_is a n c l.tail w hs)
    have htl : l.tail.length = n - 1 := by rw [List.length_tail, HS.out.1]
    have HT := Lib.hid htl
    rw [szV_pr he, he] at K1
    clear hc1 hc2 htl
    by_cases hn0 : n = 0
    · subst hn0
      obtain rfl := List.length_eq_zero_iff.1 HS.out.1
      rw [show pr [] = 1 from rfl] at K1
      rw [show itV [] = 1 from rfl] at K2
      simp only [List.tail_nil] at K2 K3 HT
      rw [show szV [] = 1 by decide, show szE [] = 0 by decide] at K3
      clear he hp
      go_enter Try.func8, Try.ntmps8
      go_wp2_with fail
      refine (shown_is _).mono ?_
      rintro x w1 ⟨rfl, hb1⟩
      go_wp2_with fail
      refine (K1.out _ hb1).mono ?_
      rintro x w2 ⟨rfl, rfl⟩
      go_wp2_with fail
      refine (K2.out _ hb1).mono ?_
      rintro x w2 ⟨a2, n2, c2, rfl, hs2, hn2, hb2'⟩
      have hb2 := hb1.trans (hb2'.mono hb1.size)
      obtain rfl : n2 = 0 := hs2.1.symm
      have HS2 := Lib.hid hs2
      clear hb2' hb1 hs2
      go_wp2_with fail
      refine (K3.out _ _ _ _ HS2.out).mono ?_
      rintro x w3 ⟨rfl, rfl⟩
      go_wp2_with fail
      go_ret
      exact ⟨rfl, hb2⟩
    · have hit := items_of (szE_may.1 he) (by rw [HS.out.1]; exact hn0)
      have hv : itV l = l.getD 0 0 := if_neg (by rw [HS.out.1]; exact hn0)
      rw [hv] at K2
      have e3 : max ((n : Int) - 1) 0 = (n : Int) - 1 := by omega
      have e4 : (((n - 1 : Nat)) : Int) = (n : Int) - 1 := by omega
      have hw : wrap64 ((n : Int) - 1) = (n : Int) - 1 := w64 (by omega) (by omega)
      by_cases hx : l.getD 0 0 = 0
      · have hz : pr l = 0 := by rw [hit.1, hx]; simp
        rw [hz] at K1
        rw [hx] at K2
        generalize szV l.tail = v at K3
        generalize szE l.tail = e at K3
        clear hit hv hx hz he hp
        go_enter Try.func8, Try.ntmps8
        go_wp2_with fail
        refine (shown_is _).mono ?_
        rintro x w1 ⟨rfl, hb1⟩
        go_wp2_with fail
        refine (K1.out _ hb1).mono ?_
        rintro x w2 ⟨rfl, rfl⟩
        go_wp2_with fail
        refine (K2.out _ hb1).mono ?_
        rintro x w2 ⟨a2, n2, c2, rfl, hs2, hn2, hb2'⟩
        have hb2 := hb1.trans (hb2'.mono hb1.size)
        obtain rfl : n2 = n - 1 := hs2.1.symm.trans HT.out
        have HS2 := Lib.hid hs2
        clear hb2' hb1 hs2
        go_wp2_with fail
        refine (K3.out _ _ _ _ HS2.out).mono ?_
        rintro x w3 ⟨rfl, rfl⟩
        go_wp2_with fail
        go_ret
        exact ⟨rfl, hb2⟩
      · have hmr := szE_may.2 (hit.2 hx)
        have hpr2 := may_pr hmr
        rw [szV_pr hmr, hmr] at K3
        have hmul : wrap64 (l.getD 0 0 * pr l.tail) = pr l := by rw [← hit.1]; exact w64 (by omega) (by omega)
        rw [← hmul] at K1
        clear hmr hpr2 hmul hit hv he hp
        generalize l.getD 0 0 = x0 at *
        generalize pr l.tail = y0 at *
        go_enter Try.func8, Try.ntmps8
        go_wp2_with fail
        refine (shown_is _).mono ?_
        rintro x w1 ⟨rfl, hb1⟩
        go_wp2_with fail
        refine (K1.out _ hb1).mono ?_
        rintro x w2 ⟨rfl, rfl⟩
        go_wp2_with fail
        refine (K2.out _ hb1).mono ?_
        rintro x w2 ⟨a2, n2, c2, rfl, hs2, hn2, hb2'⟩
        have hb2 := hb1.trans (hb2'.mono hb1.size)
        obtain rfl : n2 = n - 1 := hs2.1.symm.trans HT.out
        have HS2 := Lib.hid hs2
        clear hb2' hb1 hs2
        go_wp2_with fail
        refine (K3.out _ _ _ _ HS2.out).mono ?_
        rintro x w3 ⟨rfl, rfl⟩
        go_wp2_with fail
        go_ret
        exact ⟨rfl, hb2⟩
  · rw [szV_zero he] at K1
    generalize szE l = E at *
    have hE : (E != 0) = true := by simpa using he
    clear hc1 hc2
    go_enter Try.func8, Try.ntmps8
    go_wp2_with fail
    refine (shown_is _).mono ?_
    rintro x w1 ⟨rfl, hb1⟩
    go_wp2_with fail
    refine (K1.out _ hb1).mono ?_
    rintro x w2 ⟨rfl, rfl⟩
    go_wp2_with fail
    all_goals
      go_ret
      exact ⟨rfl, hb1⟩
end Go.Proofs.Ytfgjfncmldnlcaa

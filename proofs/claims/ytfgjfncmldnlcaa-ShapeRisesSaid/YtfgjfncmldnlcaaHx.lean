import Derived.Test.YtfgjfncmldnlcaaHw
namespace Go.Proofs.Ytfgjfncmldnlcaa
open Go.RowKit

/-! ### The law: ShapeRises -/
set_option maxRecDepth 10000 in
set_option maxHeartbeats 3200000 in
theorem rises_any (a : Option Addr) (n c : Nat) (l : List Int) (u v : Int) (W : World) (h : Sl W a n l) (u0 : 0 ≤ u) (u1 : u ≤ 65535) (v0 : 0 ≤ v) (v1 : v ≤ 65535) :
    Calls Try.prog 6 #[.slice a n c, .int .u16 u, .int .u16 v] W (TrueEnd W) := by
  have K1 := Lib.hid (fun w (hb : Below W.heap.size W w) => Size_is a n c l w (h.below hb))
  have HS := Lib.hid h
  clear h
  by_cases he : szE l = 0
  · have hn3 := may_n3 he HS.out.1
    have hp := may_pr he
    have g1 : ¬ (20 : Int) < n := by omega
    by_cases hz : pr l = 0
    · rw [szV_pr he, he, hz] at K1
      clear he hp
      go_enter Try.func6, Try.ntmps6
      go_wp2_with fail
      refine (shown_is _).mono ?_
      rintro x w1 ⟨rfl, hb1⟩
      go_wp2_with fail
      refine (K1.out _ hb1).mono ?_
      rintro x w2 ⟨rfl, rfl⟩
      go_wp2_with fail
      go_ret
      exact ⟨rfl, hb1⟩
    · have hx0 : 0 ≤ u % pr l := Int.emod_nonneg _ hz
      have hx1 : u % pr l < pr l := Int.emod_lt_of_pos _ (by omega)
      have hy0 : 0 ≤ v % pr l := Int.emod_nonneg _ hz
      have hy1 : v % pr l < pr l := Int.emod_lt_of_pos _ (by omega)
      obtain ⟨x, hx⟩ : ∃ x, x = u % pr l := ⟨_, rfl⟩
      obtain ⟨y, hy⟩ : ∃ y, y = v % pr l := ⟨_, rfl⟩
      rw [← hx] at hx0 hx1
      rw [← hy] at hy0 hy1
      obtain ⟨f1, f2⟩ := plB_yes he hx0 hx1
      obtain ⟨f3, f4⟩ := plB_yes he hy0 hy1
      have K2 := fun w (hb : Below W.heap.size W w) => Place_is a n c l x w (HS.out.below hb) (by omega)
      rw [f1, f2] at K2
      have K3 := fun w (hb : Below W.heap.size W w) => Place_is a n c l y w (HS.out.below hb) (by omega)
      rw [f3, f4] at K3
      have hA := (szE_may.1 he).pos (by omega)
      have HR := Lib.hid (fun i (hi : i < l.length) => plc_rises hA hx0 hy0 hx1 hy1 (i := i) hi)
      have HSm := Lib.hid (plc_same hA hx0 hy0 hx1 hy1)
      have hlen := HS.out.1
      have HP := Lib.hid (fun i (hi : i < n) => And.intro (plL_get (l := l) (k := x) (i := i) (by rw [hlen]; exact hi)) (plL_get (l := l) (k := y) (i := i) (by rw [hlen]; exact hi)))
      have HPL := Lib.hid (And.intro ((plL_length l x).trans hlen) ((plL_length l y).trans hlen))
      rw [szV_pr he, he] at K1
      generalize plL l x = p at K2 HP HPL
      generalize plL l y = q at K3 HP HPL
      have HL := Lib.hid hlen
      clear f1 f2 f3 f4 he hA hlen
      generalize pr l = S at *
      have K2 := Lib.hid K2
      have K3 := Lib.hid K3
      have hxm : u % S = x := hx.symm
      have hym : v % S = y := hy.symm
      have hS0 : (S == 0) = false := beq_eq_false_iff_ne.2 hz
      clear hx hy
      go_enter Try.func6, Try.ntmps6
      go_wp2_with fail
      refine (shown_is _).mono ?_
      rintro e w1 ⟨rfl, hb1⟩
      go_wp2_with fail
      refine (K1.out _ hb1).mono ?_
      rintro e w2 ⟨rfl, rfl⟩
      go_wp2_with fail
      refine (K2.out _ hb1).mono ?_
      rintro e w2 ⟨a2, n2, c2, rfl, hs2, hn2, hb2'⟩
      have hb2 := hb1.trans (hb2'.mono hb1.size)
      obtain rfl : n2 = n := hs2.1.symm.trans HPL.out.1
      have HS2 := Lib.hid hs2
      clear hb2' hb1 hs2
      go_wp2_with fail
      refine (K3.out _ hb2).mono ?_
      rintro e w3 ⟨a3, n3, c3, rfl, hs3, hn3', hb3'⟩
      have hb3 := hb2.trans (hb3'.mono hb2.size)
      obtain rfl : n3 = n2 := hs3.1.symm.trans HPL.out.2
      have HS3 := Lib.hid hs3
      have HS2 := Lib.hid (HS2.out.below hb3')
      have HB := Lib.hid hb3
      clear hb3' hb2 hs3 hb3
      go_wp2_with fail
      go_loopw [16] (fun i wr => ∃ r : Nat, i = .int .i64 r ∧ r ≤ n3 ∧ Hid (∀ j, j < r → plc l x j = plc l y j) ∧ Drawn w3 wr) (fun i _ => n3 - (intOf i).toNat)
      case atStart => exact ⟨0, rfl, by omega, Lib.hid (fun j hj => by omega), Drawn.refl _⟩
      case round =>
        obtain ⟨r, rfl, hr, HI, HD⟩ := hrel
        have HW := Lib.hid HD
        clear HD
        by_cases hlt : r < n3
        · have e2 : (r : Int) < (n3 : Int) := by omega
          obtain ⟨b1, o1, rfl, hc1⟩ := HS2.out.2 (by omega)
          obtain ⟨b2, o2, rfl, hc2⟩ := HS3.out.2 (by omega)
          have hk1 := (HW.out.cell _).trans (hc1 r hlt)
          have hk2 := (HW.out.cell _).trans (hc2 r hlt)
          rw [(HP.out r hlt).1] at hk1
          rw [(HP.out r hlt).2] at hk2
          clear hc1 hc2
          have hiff := HR.out r (by rw [HL.out]; exact hlt) HI.out
          obtain ⟨s, hs⟩ : ∃ s, s = plc l x r := ⟨_, rfl⟩
          obtain ⟨t, ht⟩ : ∃ t, t = plc l y r := ⟨_, rfl⟩
          rw [← hs] at hk1 hiff
          rw [← ht] at hk2 hiff
          have HST := Lib.hid (And.intro hs ht)
          clear hs ht
          by_cases c1 : s = t
          · subst c1
            clear hiff
            go_wp2_with fail
            go_quiet (fail)
            go_wp2_with fail
            go_roundw
            case rel =>
              refine ⟨r + 1, by go_num, by omega, Lib.hid fun j hj => ?_, HW.out.more _⟩
              rcases Nat.lt_or_ge j r with h2 | h2
              · exact HI.out j h2
              · rw [show j = r by omega, ← HST.out.1, ← HST.out.2]
            case measure => simp [intOf]; omega
          · have hiff := hiff c1
            have c2 : (s == t) = false := beq_eq_false_iff_ne.2 c1
            by_cases c3 : s < t
            · have c4 : x < y := hiff.1 c3
              clear hiff
              go_wp2_with fail
              go_quiet (fail)
              have hk3 : (wr.drewN nq).cell? ⟨b1, o1 + r, none⟩ = _ := hk1
              have hk4 : (wr.drewN nq).cell? ⟨b2, o2 + r, none⟩ = _ := hk2
              have HW2 := Lib.hid (HW.out.more nq)
              clear hk1 hk2
              generalize wr.drewN nq = wr2 at *
              go_wp2_with fail
              go_quiet (fail)
              go_wp2_with fail
              go_ret
              exact ⟨rfl, HB.out.trans ((HW2.out.more _).below.mono HB.out.size)⟩
            · have c4 : ¬ x < y := fun h => c3 (hiff.2 h)
              have d3 : decide (s < t) = false := decide_eq_false c3
              have d4 : decide (x < y) = false := decide_eq_false c4
              clear hiff
              go_wp2_with fail
              go_quiet (fail)
              have hk3 : (wr.drewN nq).cell? ⟨b1, o1 + r, none⟩ = _ := hk1
              have hk4 : (wr.drewN nq).cell? ⟨b2, o2 + r, none⟩ = _ := hk2
              have HW2 := Lib.hid (HW.out.more nq)
              clear hk1 hk2
              generalize wr.drewN nq = wr2 at *
              go_wp2_with fail
              go_quiet (fail)
              go_wp2_with fail
              go_ret
              exact ⟨rfl, HB.out.trans ((HW2.out.more _).below.mono HB.out.size)⟩
        · have e2 : ¬ (r : Int) < (n3 : Int) := by omega
          obtain rfl : r = n3 := by omega
          obtain rfl := HSm.out (fun j hj => HI.out j (by rw [HL.out] at hj; exact hj))
          go_wp2_with fail
          go_ret
          exact ⟨rfl, HB.out.trans (HW.out.below.mono HB.out.size)⟩
  · rw [szV_zero he] at K1
    generalize szE l = E at *
    have hE : (E != 0) = true := by simpa using he
    go_enter Try.func6, Try.ntmps6
    go_wp2_with fail
    refine (shown_is _).mono ?_
    rintro x w1 ⟨rfl, hb1⟩
    go_wp2_with fail
    refine (K1.out _ hb1).mono ?_
    rintro x w2 ⟨rfl, rfl⟩
    go_wp2_with fail
    all_goals
      go_ret
      exact ⟨rfl, hb1⟩
end Go.Proofs.Ytfgjfncmldnlcaa

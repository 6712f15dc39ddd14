/-
  ValWidth at every array.
-/
import Derived.Test.YtpnedgldnndnjaaDoorVe
namespace Go.Proofs.YtpnedgldnndnjaaDoor
open Go.RowKit

/-- Some of the first k has that width, or it is the narrowest. -/
def anyW (f : Nat → Int) (w : Int) : Nat → Bool
  | 0 => decide (w = 8)
  | k + 1 => anyW f w k || decide (max 8 (f k) = w)
theorem anyW_up (f : Nat → Int) (w : Int) {k : Nat} (h : anyW f w k = true) : ∀ j, anyW f w (k + j) = true
  | 0 => h
  | j + 1 => by
    show (anyW f w (k + j) || _) = true
    rw [anyW_up f w h j]; rfl
theorem anyW_all (f : Nat → Int) (m : Nat) : anyW f (wmax f m) m = true := by
  rcases wmax_is f m with h | ⟨k, hk, h⟩
  · have := anyW_up f (wmax f m) (k := 0) (decide_eq_true h) m
    rwa [Nat.zero_add] at this
  · have h8 := wmax_lo f m
    have : anyW f (wmax f m) (k + 1) = true := by
      show (_ || decide (max 8 (f k) = wmax f m)) = true
      rw [decide_eq_true (show max 8 (f k) = wmax f m by omega), Bool.or_true]
    have := anyW_up f (wmax f m) this (m - (k + 1))
    rwa [show k + 1 + (m - (k + 1)) = m by omega] at this
set_option maxRecDepth 10000 in
set_option maxHeartbeats 1600000 in
theorem width_any {a b : Option Addr} {n c m d : Nat} {l : List Int} {es : List ByteArray} (W : World) (h : Vl W a n b m l es) (hz : ∀ j, j < m → (es.getD j ByteArray.empty).size ≤ maxLen) (ht : WT W) :
    Calls Tryd.prog 6 #[.agg #[.slice a n c, .slice b m d]] W (TrueEnd W) := by
  have r1 := h.mm
  have K1 := Lib.hid (fun w (hb : Below W.heap.size W w) => Few_is (c := c) (d := d) w (h.below hb) hz)
  obtain ⟨o, ho⟩ : ∃ o : Nat → Option Int, ∀ j, j < m → Is (es.getD j ByteArray.empty) (o j) := by
    refine Classical.axiomOfChoice (r := fun j x => j < m → Is (es.getD j ByteArray.empty) x) fun j => ?_
    by_cases hj : j < m
    · obtain ⟨x, hx⟩ := is_ex _ (hz j hj)
      exact ⟨x, fun _ => hx⟩
    · exact ⟨none, fun hh => absurd hh hj⟩
  obtain ⟨f, hf⟩ : ∃ f : Nat → Int, ∀ j, j < m → ∀ w, WT w → Calls Tryd.prog 29 #[.string (es.getD j ByteArray.empty)] w fun e W' => e = .returned (.int .i64 (f j)) ∧ Below w.heap.size w W' :=
    ⟨fun j => leastO (o j), fun j hj w hw => Of_opt (ho j hj) w hw⟩
  have K2 := Lib.hid (fun w (hb : Below W.heap.size W w) => Width_is (c := c) (d := d) w (h.below hb) (ht.below hb) f hf)
  have HT := Lib.hid h.t
  have HW := Lib.hid ht
  have HF := Lib.hid hf
  clear h hz ht ho hf
  have hA := Bx.new W a n c b m d
  have hb0 : Below W.heap.size W (W.alloc (.cells #[.slice a n c, .slice b m d] 25)) := (Below.refl _ _).alloc (Nat.le_refl _) _
  rcases Bool.eq_false_or_eq_true (fewB l es) with hfew | hfew
  · rw [hfew] at K1
    have hw8 := anyW_all f m
    have hle := fun k hk => wmax_ge f m k hk
    have hlo := wmax_lo f m
    have HL := Lib.hid (And.intro hw8 (And.intro hle hlo))
    clear hfew hw8 hle hlo
    obtain ⟨w8, hw8⟩ : ∃ w8, w8 = wmax f m := ⟨_, rfl⟩
    rw [← hw8] at K2 HL
    clear hw8
    obtain ⟨s0, hs0⟩ : ∃ s0, (w8 == 8) = s0 := ⟨_, rfl⟩
    have HS0 := Lib.hid hs0
    go_enter Tryd.func6, Tryd.ntmps6
    go_wp2_with fail
    refine (shown_is _ (HW.out.below hb0)).mono ?_
    rintro x w1 ⟨rfl, hb⟩
    have hA1 := hA.below hb hA.lt
    have hb1 := hb0.trans (hb.mono hb0.size)
    clear hA hb0 hb
    have x0 := hA1.c0
    have x1 := hA1.c1
    go_wp2_with fail
    refine (K1.out _ hb1).mono ?_
    rintro x w2 ⟨rfl, hb⟩
    clear x0 x1
    have hA2 := hA1.below hb hA1.lt
    have hb2 := hb1.trans (hb.mono hb1.size)
    clear hA1 hb1 hb
    have x0 := hA2.c0
    have x1 := hA2.c1
    go_wp2_with fail
    refine (K2.out _ hb2).mono ?_
    rintro x w3 ⟨rfl, hb⟩
    clear x0 x1
    have hA3 := hA2.below hb hA2.lt
    have hb3 := hb2.trans (hb.mono hb2.size)
    clear hA2 hb2 hb
    have x1 := hA3.c1
    go_wp2_with fail
    clear x1
    go_loopw [5, 6] (fun sv i wr => ∃ (k : Nat) (s : Bool), i = .int .i64 k ∧ k ≤ m ∧ sv = .bool s ∧ Hid (s = anyW f w8 k) ∧ Bx wr W.heap.size a n c b m d ∧ Below W.heap.size W wr) (fun _ i _ => m - (intOf i).toNat)
    case atStart => exact ⟨0, s0, rfl, by omega, rfl, Lib.hid (HS0.out.symm), hA3, hb3⟩
    case round =>
      obtain ⟨k, s, rfl, hk, rfl, HI, hA4, hb4⟩ := hrel
      have x1 := hA4.c1
      clear hA3 hb3 hs0
      by_cases hlt : k < m
      · have e2 : (k : Int) < (m : Int) := by omega
        obtain ⟨bb, off, rfl, hc⟩ := HT.out.2 (by omega)
        have hck := (hb4.cell (p := ⟨bb, off + k, none⟩) (World.block_lt_of_cell? W _ (hc k hlt))).trans (hc k hlt)
        have KF := Lib.hid (HF.out k hlt)
        have hle := HL.out.2.1 k hlt
        have hlo := HL.out.2.2
        have hstep : anyW f w8 (k + 1) = (anyW f w8 k || decide (max 8 (f k) = w8)) := rfl
        have HST := Lib.hid hstep
        clear hc hstep
        generalize es.getD k ByteArray.empty = t at hck KF
        generalize hy : f k = y at KF HST hle
        clear hy
        go_wp2_with fail
        refine (Scalar_is t wr).mono ?_
        rintro x w4 ⟨g, rfl, hg, hb⟩
        have hA5 := hA4.below hb hA4.lt
        have hb5 := hb4.trans (hb.mono hb4.size)
        have KW := Lib.hid (Width_is (c := 0) (d := 1) w4 (Vl.one hg) (HW.out.below hb5) (fun _ => y) (fun j hj w hw => by obtain rfl : j = 0 := (by omega); exact KF.out w hw))
        clear hA4 hb4 hb x1 hg hck
        go_wp2_with fail
        refine KW.out.mono ?_
        rintro x w5 ⟨rfl, hb⟩
        have hA6 := hA5.below hb hA5.lt
        have hb6 := hb5.trans (hb.mono hb5.size)
        clear hA5 hb5 hb KW
        rw [show wmax (fun _ => y) 1 = max 8 y from rfl]
        obtain ⟨z, hz⟩ : ∃ z, z = max 8 y := ⟨_, rfl⟩
        have hzw : ¬ w8 < z := by omega
        rw [← hz] at HST ⊢
        clear hz
        by_cases hzz : z = w8
        · subst hzz
          rcases s with _ | _
          all_goals
            go_wp2_with fail
            go_roundw
            case rel => exact ⟨k + 1, true, by go_num, by omega, rfl, Lib.hid (by rw [HST.out]; simp), hA6, hb6⟩
            case measure => simp [intOf]; omega
        · have hzz2 : (z == w8) = false := beq_eq_false_iff_ne.2 hzz
          have HZ := Lib.hid hzz
          clear hzz
          rcases s with _ | _
          · go_wp2_with fail
            go_roundw
            case rel => exact ⟨k + 1, false, by go_num, by omega, rfl, Lib.hid (by rw [HST.out, decide_eq_false HZ.out, ← HI.out]; rfl), hA6, hb6⟩
            case measure => simp [intOf]; omega
          · go_wp2_with fail
            go_roundw
            case rel => exact ⟨k + 1, true, by go_num, by omega, rfl, Lib.hid (by rw [HST.out, ← HI.out]; rfl), hA6, hb6⟩
            case measure => simp [intOf]; omega
      · have e2 : ¬ (k : Int) < (m : Int) := by omega
        obtain rfl : k = m := by omega
        obtain rfl : s = true := HI.out.trans HL.out.1
        go_wp2_with fail
        go_ret
        exact ⟨rfl, hb4⟩
  · rw [hfew] at K1
    clear hfew K2 HT HF r1
    go_enter Tryd.func6, Tryd.ntmps6
    go_wp2_with fail
    refine (shown_is _ (HW.out.below hb0)).mono ?_
    rintro x w1 ⟨rfl, hb⟩
    have hA1 := hA.below hb hA.lt
    have hb1 := hb0.trans (hb.mono hb0.size)
    clear hA hb0 hb
    have x0 := hA1.c0
    have x1 := hA1.c1
    go_wp2_with fail
    refine (K1.out _ hb1).mono ?_
    rintro x w2 ⟨rfl, hb⟩
    go_wp2_with fail
    go_ret
    exact ⟨rfl, hb1.trans (hb.mono hb1.size)⟩
end Go.Proofs.YtpnedgldnndnjaaDoor

/-
  Whether a list is a tree that may be: plainly, of the program, and of the reference.
-/
import Derived.Test.YtiopemimancliaaYm
namespace Go.Proofs.Ytiopemimancliaa
open Go.RowKit

def hdN (k : Int) : Bool := decide (5 ≤ k) && decide (k ≤ 7)
def mayP (f : Nat → Nd) (n : Nat) : Prop := ∃ d, Fd (ksF f n) 0 1 n d ∧ d ≤ 40 ∧ ∀ i, i < n → okN (f i) = true ∧ (0 < i → hdN (f i).k = false)
open Classical in
noncomputable def mayB (f : Nat → Nd) (n : Nat) : Bool := decide (mayP f n)
open Classical in
theorem mayB_yes {f : Nat → Nd} {n : Nat} : mayB f n = true ↔ mayP f n := by
  unfold mayB
  exact decide_eq_true_iff
open Classical in
theorem mayB_no {f : Nat → Nd} {n : Nat} (h : ¬ mayP f n) : mayB f n = false := by
  unfold mayB
  exact decide_eq_false h
theorem head_is (k : Int) (v a x : ByteArray) (g : Option Addr) (m c : Nat) (W : World) : Calls Try.prog 26 #[.agg #[.int .i64 k, .string v, .string a, .string x, .slice g m c]] W (ValEnd (.bool (hdN k)) W) := by
  have hb0 := box_below W (.cells #[.int .i64 k, .string v, .string a, .string x, .slice g m c] 25)
  have hA := Bd.new W k v a x g m c
  have a0 := hA.c0
  have HB := Lib.hid hb0
  clear hb0 hA
  unfold hdN
  by_cases h : 5 ≤ k ∧ k ≤ 7
  · rw [decide_eq_true h.1, decide_eq_true h.2]
    have hk : k = 5 ∨ k = 6 ∨ k = 7 := by omega
    clear h
    rcases hk with rfl | rfl | rfl
    all_goals
      go_enter Try.func26, Try.ntmps26
      go_wp2_with fail
      go_ret
      exact ⟨rfl, HB.out⟩
  · rw [show (decide (5 ≤ k) && decide (k ≤ 7)) = false by
      by_cases h5 : 5 ≤ k
      · rw [decide_eq_false (show ¬ k ≤ 7 by omega), Bool.and_false]
      · rw [decide_eq_false h5, Bool.false_and]]
    have e5 : (k == 5) = false := beq_eq_false_iff_ne.2 (by omega)
    have e6 : (k == 6) = false := beq_eq_false_iff_ne.2 (by omega)
    have e7 : (k == 7) = false := beq_eq_false_iff_ne.2 (by omega)
    clear h
    go_enter Try.func26, Try.ntmps26
    go_wp2_with fail
    go_ret
    exact ⟨rfl, HB.out⟩
theorem may_none {f : Nat → Nd} {n : Nat} (h : eN (ksF f n) 1 0 = none) : mayB f n = false := mayB_no fun ⟨d, hd, _⟩ => by rw [hd.ends] at h; cases h
theorem may_short {f : Nat → Nd} {n e : Nat} (h : eN (ksF f n) 1 0 = some e) (he : e ≠ n) : mayB f n = false := mayB_no fun ⟨d, hd, _⟩ => by
  rw [hd.ends] at h
  injection h with h
  exact he h.symm
theorem may_deep {f : Nat → Nd} {n d : Nat} (h : Fd (ksF f n) 0 1 n d) (hd : 40 < d) : mayB f n = false := mayB_no fun ⟨d', hd', h2, _⟩ => by
  have := (h.det hd').2
  omega
set_option maxHeartbeats 3200000 in
theorem TMay_is (a : Option Addr) (n c : Nat) (f : Nat → Nd) (W : World) (h : Nq W a n f) (hnc : n ≤ c) (hc : c ≤ maxLen) (hn : n ≤ 1000000) :
    Calls Try.prog 18 #[.slice a n c] W (ValEnd (.bool (mayB f n)) W) := by
  have KE := End_in a n c f 0 W h hn (by omega)
  cases he : eN (ksF f n) 1 0 with
  | none =>
    rw [he] at KE
    replace KE := Lib.hid KE
    rw [may_none he]
    clear he
    go_enter Try.func18, Try.ntmps18
    go_wp2_with fail
    refine KE.out.mono ?_
    rintro e w1 ⟨rfl, hb⟩
    unfold endV
    go_wp2_with fail
    go_ret
    exact ⟨rfl, hb⟩
  | some e =>
    rw [he] at KE
    replace KE := Lib.hid KE
    obtain ⟨d, hF⟩ := Fd.ex he
    have hle := hF.le.2 (by omega)
    rw [ks_len] at hle
    have hD := hF.deep
    by_cases hen : e = n
    · subst hen
      have KD := Lib.hid (fun w hw => Depth_some a e c f e d w hw hnc hc hn hF)
      have H := Lib.hid h
      by_cases hd : 40 < d
      · rw [may_deep hF hd]
        have e2 : (40 : Int) < (d : Int) := by omega
        clear he hF h
        go_enter Try.func18, Try.ntmps18
        go_wp2_with fail
        refine KE.out.mono ?_
        rintro e' w1 ⟨rfl, hb⟩
        unfold endV
        go_wp2_with fail
        refine (KD.out _ (H.out.below hb)).mono ?_
        rintro e' w2 ⟨rfl, hb1⟩
        replace hb := hb.trans (hb1.mono hb.size)
        go_wp2_with fail
        go_ret
        exact ⟨rfl, hb⟩
      · have e2 : ¬ (40 : Int) < (d : Int) := by omega
        have HF := Lib.hid hF
        have hpos : 0 < e := by have := hF.le.1; omega
        obtain ⟨gb, off, rfl, hcs⟩ := h.ld hpos
        have HC := Lib.hid hcs
        have hd40 : d ≤ 40 := by omega
        obtain ⟨r, hr⟩ : ∃ r, r = mayB f e := ⟨_, rfl⟩
        rw [← hr]
        have HR := Lib.hid hr
        clear he hF h hcs hr
        go_enter Try.func18, Try.ntmps18
        go_wp2_with fail
        refine KE.out.mono ?_
        rintro e' w1 ⟨rfl, hb⟩
        unfold endV
        go_wp2_with fail
        refine (KD.out _ (H.out.below hb)).mono ?_
        rintro e' w2 ⟨rfl, hb1⟩
        replace hb := hb.trans (hb1.mono hb.size)
        clear KE KD hb1
        go_wp2_with fail
        go_loopw [27] (fun kv wr => ∃ j : Nat, kv = .int .i64 j ∧ j ≤ e ∧ (∀ i, i < j → okN (f i) = true ∧ (0 < i → hdN (f i).k = false)) ∧ Below W.heap.size W wr) (fun kv _ => e - (intOf kv).toNat)
        case atStart => exact ⟨0, rfl, by omega, fun i hi => by omega, hb⟩
        case round =>
          clear hb
          obtain ⟨j, rfl, hj, hall, hb⟩ := hrel
          have HA := Lib.hid hall
          clear hall
          by_cases hlt : j < e
          · have e3 : (j : Int) < (e : Int) := by omega
            obtain ⟨c0, c1, c2, c3, c4⟩ := (HC.out j hlt).below hb (HC.out j hlt).lt
            have hsz := hb.size
            have hB := Bd.new wr (f j).k (f j).v (f j).a (f j).x (f j).g (f j).m (f j).c
            have b0 := hB.c0
            have b1 := hB.c1
            have b2 := hB.c2
            have b3 := hB.c3
            have b4 := hB.c4
            have hb2 := hb.alloc hsz (.cells #[.int .i64 (f j).k, .string (f j).v, .string (f j).a, .string (f j).x, .slice (f j).g (f j).m (f j).c] 25)
            have KM : ∀ w, Below W.heap.size W w → Calls Try.prog 25 #[.agg #[.int .i64 (f j).k, .string (f j).v, .string (f j).a, .string (f j).x, .slice (f j).g (f j).m (f j).c]] w (ValEnd (.bool (okN (f j))) w) := fun w hw => mayBe_is (f j) w ((H.out.on j hlt).below hw)
            have KH := fun w => head_is (f j).k (f j).v (f j).a (f j).x (f j).g (f j).m (f j).c w
            have HB2 := Lib.hid hb2
            have HB := Lib.hid hB
            cases hok : okN (f j) with
            | false =>
              rw [hok] at KM
              replace KM := Lib.hid (KM _ HB2.out)
              obtain rfl : r = false := by rw [HR.out]; exact mayB_no fun ⟨_, _, _, h4⟩ => by rw [(h4 j hlt).1] at hok; cases hok
              clear hok hb hb2 hB KH hsz
              go_wp2_with fail
              refine KM.out.mono ?_
              rintro e' w5 ⟨rfl, hb5⟩
              clear c0 c1 c2 c3 c4 b0 b1 b2 b3 b4
              go_wp2_with fail
              go_ret
              exact ⟨rfl, HB2.out.trans (hb5.mono HB2.out.size)⟩
            | true =>
              rw [hok] at KM
              replace KM := Lib.hid (KM _ HB2.out)
              have HOK := Lib.hid hok
              by_cases hj0 : j = 0
              · subst hj0
                have e4 : ¬ (0 : Int) < ((0 : Nat) : Int) := by omega
                simp only [Nat.zero_mul, Nat.add_zero] at c0 c1 c2 c3 c4
                clear hok hb hb2 hB KH hsz
                go_wp2_with fail
                refine KM.out.mono ?_
                rintro e' w5 ⟨rfl, hb5⟩
                have hb6 := HB2.out.trans (hb5.mono HB2.out.size)
                clear c0 c1 c2 c3 c4 b0 b1 b2 b3 b4 hb5
                go_wp2_with fail
                refine ⟨⟨1, by go_num, by omega, fun i hi => ?_, hb6⟩, by simp [intOf]; omega⟩
                obtain rfl : i = 0 := by omega
                exact ⟨HOK.out, fun h => absurd h (by omega)⟩
              · have e4 : (0 : Int) < (j : Int) := by omega
                cases hh : hdN (f j).k with
                | true =>
                  rw [hh] at KH
                  replace KH := Lib.hid KH
                  obtain rfl : r = false := by rw [HR.out]; exact mayB_no fun ⟨_, _, _, h4⟩ => by rw [(h4 j hlt).2 (by omega)] at hh; cases hh
                  clear hok hb hb2 hB hsz hh hj0
                  go_wp2_with fail
                  refine KM.out.mono ?_
                  rintro e' w5 ⟨rfl, hb5⟩
                  have hB5 := HB.out.on hb5
                  have hb6 := HB2.out.trans (hb5.mono HB2.out.size)
                  clear c0 c1 c2 c3 c4 b0 b1 b2 b3 b4 hb5
                  have b0 := hB5.c0
                  have b1 := hB5.c1
                  have b2 := hB5.c2
                  have b3 := hB5.c3
                  have b4 := hB5.c4
                  go_wp2_with fail
                  refine (KH.out _).mono ?_
                  rintro e' w7 ⟨rfl, hb7⟩
                  replace hb6 := hb6.trans (hb7.mono hb6.size)
                  clear b0 b1 b2 b3 b4 hb7
                  go_wp2_with fail
                  go_ret
                  exact ⟨rfl, hb6⟩
                | false =>
                  rw [hh] at KH
                  replace KH := Lib.hid KH
                  have HH := Lib.hid hh
                  clear hok hb hb2 hB hsz hh hj0
                  go_wp2_with fail
                  refine KM.out.mono ?_
                  rintro e' w5 ⟨rfl, hb5⟩
                  have hB5 := HB.out.on hb5
                  have hb6 := HB2.out.trans (hb5.mono HB2.out.size)
                  clear c0 c1 c2 c3 c4 b0 b1 b2 b3 b4 hb5
                  have b0 := hB5.c0
                  have b1 := hB5.c1
                  have b2 := hB5.c2
                  have b3 := hB5.c3
                  have b4 := hB5.c4
                  go_wp2_with fail
                  refine (KH.out _).mono ?_
                  rintro e' w7 ⟨rfl, hb7⟩
                  replace hb6 := hb6.trans (hb7.mono hb6.size)
                  clear b0 b1 b2 b3 b4 hb7
                  go_wp2_with fail
                  refine ⟨⟨j + 1, by go_num, by omega, fun i hi => ?_, hb6⟩, by simp [intOf]; omega⟩
                  by_cases hij : i < j
                  · exact HA.out i hij
                  · obtain rfl : i = j := by omega
                    exact ⟨HOK.out, fun _ => HH.out⟩
          · have e3 : ¬ (j : Int) < (e : Int) := by omega
            obtain rfl : r = true := by rw [HR.out]; exact mayB_yes.2 ⟨d, HF.out, hd40, fun i hi => HA.out i (by omega)⟩
            go_wp2_with fail
            go_ret
            exact ⟨rfl, hb⟩
    · have e2 : (e : Int) < (n : Int) := by omega
      rw [may_short he hen]
      clear he hF
      go_enter Try.func18, Try.ntmps18
      go_wp2_with fail
      refine KE.out.mono ?_
      rintro e' w1 ⟨rfl, hb⟩
      unfold endV
      go_wp2_with fail
      go_ret
      exact ⟨rfl, hb⟩
set_option maxHeartbeats 3200000 in
theorem rTMay_is (a : Option Addr) (n c : Nat) (f : Nat → Nd) (W : World) (h : Nq W a n f) (hn : n ≤ 1000000) :
    Calls Try.prog 19 #[.slice a n c] W (ValEnd (.bool (mayB f n)) W) := by
  have KE := rEnd_all a n c f hn _ 0 (Nat.le_refl _) W h
  cases he : eN (ksF f n) 1 0 with
  | none =>
    rw [he] at KE
    replace KE := Lib.hid KE
    rw [may_none he]
    clear he
    go_enter Try.func19, Try.ntmps19
    go_wp2_with fail
    refine KE.out.mono ?_
    rintro e w1 ⟨rfl, hb⟩
    unfold endV
    go_wp2_with fail
    go_ret
    exact ⟨rfl, hb⟩
  | some e =>
    rw [he] at KE
    replace KE := Lib.hid KE
    obtain ⟨d, hF⟩ := Fd.ex he
    have hle := hF.le.2 (by omega)
    rw [ks_len] at hle
    have hD := hF.deep
    by_cases hen : e = n
    · subst hen
      have KD := Lib.hid (fun w hw => rdeep_all a e c f hn _ 0 (Nat.le_refl _) e d w hw hF)
      have H := Lib.hid h
      by_cases hd : 40 < d
      · rw [may_deep hF hd]
        have e2 : (40 : Int) < (d : Int) := by omega
        clear he hF h
        go_enter Try.func19, Try.ntmps19
        go_wp2_with fail
        refine KE.out.mono ?_
        rintro e' w1 ⟨rfl, hb⟩
        unfold endV
        go_wp2_with fail
        refine (KD.out _ (H.out.below hb)).mono ?_
        rintro e' w2 ⟨rfl, hb1⟩
        replace hb := hb.trans (hb1.mono hb.size)
        go_wp2_with fail
        go_ret
        exact ⟨rfl, hb⟩
      · have e2 : ¬ (40 : Int) < (d : Int) := by omega
        have HF := Lib.hid hF
        have hpos : 0 < e := by have := hF.le.1; omega
        obtain ⟨gb, off, rfl, hcs⟩ := h.ld hpos
        have HC := Lib.hid hcs
        have hd40 : d ≤ 40 := by omega
        obtain ⟨r, hr⟩ : ∃ r, r = mayB f e := ⟨_, rfl⟩
        rw [← hr]
        have HR := Lib.hid hr
        clear he hF h hcs hr
        go_enter Try.func19, Try.ntmps19
        go_wp2_with fail
        refine KE.out.mono ?_
        rintro e' w1 ⟨rfl, hb⟩
        unfold endV
        go_wp2_with fail
        refine (KD.out _ (H.out.below hb)).mono ?_
        rintro e' w2 ⟨rfl, hb1⟩
        replace hb := hb.trans (hb1.mono hb.size)
        clear KE KD hb1
        go_wp2_with fail
        go_loopw [5] (fun kv wr => ∃ j : Nat, kv = .int .i64 j ∧ j ≤ e ∧ (∀ i, i < j → okN (f i) = true ∧ (0 < i → hdN (f i).k = false)) ∧ Below W.heap.size W wr) (fun kv _ => e - (intOf kv).toNat)
        case atStart => exact ⟨0, rfl, by omega, fun i hi => by omega, hb⟩
        case round =>
          clear hb
          obtain ⟨j, rfl, hj, hall, hb⟩ := hrel
          have HA := Lib.hid hall
          clear hall
          by_cases hlt : j < e
          · have e3 : (j : Int) < (e : Int) := by omega
            obtain ⟨c0, c1, c2, c3, c4⟩ := (HC.out j hlt).below hb (HC.out j hlt).lt
            have HB2 := Lib.hid hb
            have KM : ∀ w, Below W.heap.size W w → Calls Try.prog 27 #[.agg #[.int .i64 (f j).k, .string (f j).v, .string (f j).a, .string (f j).x, .slice (f j).g (f j).m (f j).c]] w (ValEnd (.bool (okN (f j))) w) := fun w hw => rOne_is (f j) w ((H.out.on j hlt).below hw)
            have HB := Lib.hid (HC.out j hlt)
            cases hok : okN (f j) with
            | false =>
              rw [hok] at KM
              replace KM := Lib.hid (KM _ HB2.out)
              obtain rfl : r = false := by rw [HR.out]; exact mayB_no fun ⟨_, _, _, h4⟩ => by rw [(h4 j hlt).1] at hok; cases hok
              clear hok hb
              go_wp2_with fail
              refine KM.out.mono ?_
              rintro e' w5 ⟨rfl, hb5⟩
              clear c0 c1 c2 c3 c4
              go_wp2_with fail
              go_ret
              exact ⟨rfl, HB2.out.trans (hb5.mono HB2.out.size)⟩
            | true =>
              rw [hok] at KM
              replace KM := Lib.hid (KM _ HB2.out)
              have HOK := Lib.hid hok
              by_cases hj0 : j = 0
              · subst hj0
                have e4 : ¬ (0 : Int) < ((0 : Nat) : Int) := by omega
                simp only [Nat.zero_mul, Nat.add_zero] at c0 c1 c2 c3 c4
                clear hok hb
                go_wp2_with fail
                refine KM.out.mono ?_
                rintro e' w5 ⟨rfl, hb5⟩
                have hb6 := HB2.out.trans (hb5.mono HB2.out.size)
                clear c0 c1 c2 c3 c4 hb5
                go_wp2_with fail
                refine ⟨⟨1, by go_num, by omega, fun i hi => ?_, hb6⟩, by simp [intOf]; omega⟩
                obtain rfl : i = 0 := by omega
                exact ⟨HOK.out, fun h => absurd h (by omega)⟩
              · have e4 : (0 : Int) < (j : Int) := by omega
                cases hh : hdN (f j).k with
                | true =>
                  have HH := Lib.hid hh
                  have hk := Lib.hid (show 5 ≤ (f j).k ∧ (f j).k ≤ 7 by unfold hdN at hh; simpa using hh)
                  obtain rfl : r = false := by rw [HR.out]; exact mayB_no fun ⟨_, _, _, h4⟩ => by rw [(h4 j hlt).2 (by omega)] at hh; cases hh
                  clear hok hb hh hj0
                  go_wp2_with fail
                  refine KM.out.mono ?_
                  rintro e' w5 ⟨rfl, hb5⟩
                  have hb6 := HB2.out.trans (hb5.mono HB2.out.size)
                  clear c0 c1 c2 c3 c4 hb5
                  have c0 := (HB.out.below hb6 HB.out.lt).c0
                  obtain ⟨z, hz⟩ : ∃ z, z = (f j).k := ⟨_, rfl⟩
                  have hk2 := hk.out
                  rw [← hz] at c0 hk2
                  clear hz hk
                  obtain ⟨hk5, hk7⟩ := hk2
                  go_wp2_with fail
                  go_ret
                  exact ⟨rfl, hb6⟩
                | false =>
                  have HH := Lib.hid hh
                  have hk := Lib.hid (show (f j).k < 5 ∨ 7 < (f j).k by unfold hdN at hh; simp at hh; omega)
                  clear hok hb hh hj0
                  go_wp2_with fail
                  refine KM.out.mono ?_
                  rintro e' w5 ⟨rfl, hb5⟩
                  have hb6 := HB2.out.trans (hb5.mono HB2.out.size)
                  clear c0 c1 c2 c3 c4 hb5
                  have c0 := (HB.out.below hb6 HB.out.lt).c0
                  obtain ⟨z, hz⟩ : ∃ z, z = (f j).k := ⟨_, rfl⟩
                  have hk2 := hk.out
                  rw [← hz] at c0 hk2
                  clear hz hk
                  by_cases hk5 : 5 ≤ z
                  · have hk7 : ¬ z ≤ 7 := by omega
                    clear hk2
                    go_wp2_with fail
                    refine ⟨⟨j + 1, by go_num, by omega, fun i hi => ?_, hb6⟩, by simp [intOf]; omega⟩
                    by_cases hij : i < j
                    · exact HA.out i hij
                    · obtain rfl : i = j := by omega
                      exact ⟨HOK.out, fun _ => HH.out⟩
                  · clear hk2
                    go_wp2_with fail
                    refine ⟨⟨j + 1, by go_num, by omega, fun i hi => ?_, hb6⟩, by simp [intOf]; omega⟩
                    by_cases hij : i < j
                    · exact HA.out i hij
                    · obtain rfl : i = j := by omega
                      exact ⟨HOK.out, fun _ => HH.out⟩
          · have e3 : ¬ (j : Int) < (e : Int) := by omega
            obtain rfl : r = true := by rw [HR.out]; exact mayB_yes.2 ⟨d, HF.out, hd40, fun i hi => HA.out i (by omega)⟩
            go_wp2_with fail
            go_ret
            exact ⟨rfl, hb⟩
    · have e2 : ¬ (e : Int) = (n : Int) := by omega
      rw [may_short he hen]
      clear he hF
      go_enter Try.func19, Try.ntmps19
      go_wp2_with fail
      refine KE.out.mono ?_
      rintro e' w1 ⟨rfl, hb⟩
      unfold endV
      go_wp2_with fail
      go_ret
      exact ⟨rfl, hb⟩
end Go.Proofs.Ytiopemimancliaa

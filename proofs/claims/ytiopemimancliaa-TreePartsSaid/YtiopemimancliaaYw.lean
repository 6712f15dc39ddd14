/-
  TreeParts at every list.
-/
import Derived.Test.YtiopemimancliaaYs
namespace Go.Proofs.Ytiopemimancliaa
open Go.RowKit

theorem drop_two {α : Type} {l r : List α} {k : Nat} {x : α} (h : x :: r = l.drop k) : l[k]? = some x ∧ r = l.drop (k + 1) := drop_one h
/-- A part of a tree, as a list of its own. -/
theorem ks_sub {f : Nat → Nd} {n q e d : Nat} (h : Fd (ksF f n) q 1 e d) (hn : e ≤ n) : Fd (ksF (fun j => f (q + j)) (e - q)) 0 1 (e - q) d := by
  have := h.move (K' := ksF (fun j => f (q + j)) (e - q)) (s := q) (Nat.le_refl _) (fun i h1 h2 => by
    rw [ks_at (show i < n by omega), ks_at (show i - q < e - q by omega), show q + (i - q) = i by omega])
  simpa using this
set_option maxHeartbeats 6400000 in
set_option maxRecDepth 10000 in
theorem parts_is (a : Option Addr) (n c : Nat) (f : Nat → Nd) (W : World) (h : Nq W a n f) (hnc : n ≤ c) (hc : c ≤ maxLen) :
    Calls Try.prog 5 #[.slice a n c] W (ValEnd (.bool true) W) := by
  have hn63 : n ≤ 9223372036854775807 := maxLen_le (Nat.le_trans hnc hc)
  have hc63 : c ≤ 9223372036854775807 := maxLen_le hc
  have KF := Lib.hid (fun w (hw : Below W.heap.size W w) => Few_is a n c f w (h.below hw) hn63)
  have KS := Lib.hid (fun w => shown_is w)
  have H := Lib.hid h
  clear h
  go_enter Try.func5, Try.ntmps5
  go_wp2_with fail
  refine (KS.out _).mono ?_
  rintro e w1 ⟨rfl, hb1⟩
  clear KS
  go_wp2_with fail
  refine (KF.out _ hb1).mono ?_
  rintro e w2 ⟨r, rfl, hr, hb⟩
  have hb2 := hb1.trans (hb.mono hb1.size)
  clear hb1 hb KF
  cases r with
  | false =>
    clear hr
    go_wp2_with fail
    go_ret
    exact ⟨rfl, hb2⟩
  | true =>
    obtain ⟨hn80, hm120⟩ := hr rfl
    have hn : n ≤ 1000000 := by omega
    clear hr
    have KM := fun w (hw : Below W.heap.size W w) => TMay_is a n c f w (H.out.below hw) hnc hc hn
    cases hmay : mayB f n with
    | false =>
      rw [hmay] at KM
      replace KM := Lib.hid KM
      clear hmay
      go_wp2_with fail
      refine (KM.out _ hb2).mono ?_
      rintro e w3 ⟨rfl, hb⟩
      replace hb2 := hb2.trans (hb.mono hb2.size)
      go_wp2_with fail
      go_ret
      exact ⟨rfl, hb2⟩
    | true =>
      rw [hmay] at KM
      replace KM := Lib.hid KM
      obtain ⟨D, hF, hD40, hall⟩ := mayB_yes.1 hmay
      have hn1 : 1 ≤ n := by have := hF.le.1; omega
      have e0 : ¬ (n : Int) = 0 := by omega
      have e0' : ((n : Int) == 0) = false := beq_eq_false_iff_ne.2 e0
      obtain ⟨gb, off, rfl, hld⟩ := H.out.ld (by omega)
      obtain ⟨y, hk0, he2, _, _, hu⟩ := tree_at hF.ends
      obtain ⟨kk, q0, d1, d2, hk1, _, g1, _, g2, hDD⟩ := hF.inv
      obtain ⟨rfl, rfl⟩ := g2.inv0
      rw [hk0] at hk1
      injection hk1 with hk1
      subst hk1
      rw [Int.toNat_natCast] at g1
      rw [ks_at (by omega)] at hk0
      injection hk0 with hk0
      replace hu : unI (ksF f n) 0 = un (ksF f n) y 1 := hu
      replace g1 : Fd (ksF f n) 1 y n d1 := g1
      have hy := g1.le.1
      have KU := fun w (hw : Below W.heap.size W w) => Under_is (some ⟨gb, off, none⟩) n c f 0 w (H.out.below hw) hn (by omega)
      rw [hu] at KU
      have hul := g1.un_len
      obtain ⟨u, hu2⟩ : ∃ u, u = un (ksF f n) y 1 := ⟨_, rfl⟩
      rw [← hu2] at KU hul
      have KK := fun w => Kids_is (f 0).k (f 0).v (f 0).a (f 0).x (f 0).g (f 0).m (f 0).c w
      rw [hk0] at KK
      have KN := fun w (hw : Below W.heap.size W w) => Node_is (f 0) none 0 0 (fun _ => ⟨none, 0, 0, f⟩) w ((H.out.below hw).on 0 (by omega)) (fun i hi => by omega) (fun h => by omega) (by omega) (show 1 ≤ 1000000 by omega) (fun j hj => show (f 0).m * 16 ≤ 140737488355328 by have := hm120 0 (by omega); omega)
      have KD := fun w (hw : Below W.heap.size W w) => Depth_some (some ⟨gb, off, none⟩) n c f n D w (H.out.below hw) hnc hc hn hF
      have HL0 := Lib.hid (hld 0 (by omega))
      have HU := Lib.hid hu2
      have HG := Lib.hid g1
      have HALL := Lib.hid hall
      have hDd : D = 1 + d1 := by omega
      replace KU := Lib.hid KU
      replace KK := Lib.hid KK
      replace KN := Lib.hid KN
      replace KD := Lib.hid KD
      have HM := Lib.hid hm120
      clear hmay hF hld he2 hu g1 g2 hu2 hk0 hall hm120 hDD
      go_wp2_with fail
      refine (KM.out _ hb2).mono ?_
      rintro e w3 ⟨rfl, hb⟩
      have hb3 := hb2.trans (hb.mono hb2.size)
      clear hb2 hb KM
      go_wp2_with fail
      refine (KU.out _ hb3).mono ?_
      rintro e w4 ⟨au, cu, rfl, _, _, hpu, hb⟩
      have hb4 := hb3.trans (hb.mono hb3.size)
      have HP := Lib.hid hpu
      rw [hul]
      obtain ⟨c0, c1, c2, c3, c4⟩ := HL0.out.below hb4 HL0.out.lt
      simp only [Nat.zero_mul, Nat.add_zero] at c0 c1 c2 c3 c4
      clear hb3 hb hpu KU
      go_wp2_with fail
      refine (KN.out _ hb4).mono ?_
      rintro e w5 ⟨v5, G5, rfl, ho5, hon5, hsm5, hb, hsb5⟩
      have hb5 := hb4.trans (hb.mono hb4.size)
      have HO5 := Lib.hid (show w5.ownsRow w4.heap.size 25 5 v5 1 (nvs G5 1) from ho5)
      have HSB5 := Lib.hid (hsb5 0 (show 0 < 1 by omega))
      have hs4 := hb4.size
      have HON5 := Lib.hid (show ∀ j, j < 1 → (G5 j).on w5 from hon5)
      have HSM5 := Lib.hid (show ∀ j, j < 1 → smN (G5 j) (f j) = true from fun j hj => by
        obtain rfl : j = 0 := by omega
        exact hsm5 0 (show 0 < 1 by omega))
      have hb45 := Lib.hid hb
      clear c0 c1 c2 c3 c4 ho5 hon5 hsm5 hsb5 hb4 hb KN
      go_wp2_with fail
      go_loopw [5, 6] (fun kv iv wr => ∃ (i q dl : Nat) (G : Nat → Nd), iv = .int .i64 i ∧ i ≤ y ∧ 1 ≤ q ∧ Fd (ksF f n) q (y - i) n dl ∧ dl ≤ d1 ∧ un (ksF f n) (y - i) q = u.drop i ∧ wr.ownsRow w4.heap.size 25 5 kv q (nvs G q) ∧ (∀ j, j < q → (G j).on wr) ∧ (∀ j, j < q → smN (G j) (f j) = true) ∧ (∀ j, 1 ≤ j → j < q → G j = f j) ∧ Sb wr (G 0) ∧ Below W.heap.size W wr ∧ Below w4.heap.size w4 wr) (fun _ iv _ => y - (intOf iv).toNat)
      case atStart => exact ⟨0, 1, d1, G5, rfl, by omega, by omega, HG.out, Nat.le_refl _, by rw [HU.out]; rfl, HO5.out, HON5.out, HSM5.out, fun j h1 h2 => by omega, HSB5.out, hb5, hb45.out⟩
      case round =>
        clear hb5 hb45 HO5 HON5 HSM5 HSB5
        obtain ⟨i, q, dl, G, rfl, hi, hq1, hF, hdl, hun, ho, hon, hsm, heq, hsb, hb, hb4⟩ := hrel
        have HEQ := Lib.hid heq
        have HSB := Lib.hid hsb
        clear heq hsb
        by_cases hiy : i < y
        · have e3 : (i : Int) < (y : Int) := by omega
          rw [show y - i = (y - (i + 1)) + 1 by omega] at hF hun
          obtain ⟨k9, q2, d3, d4, _, _, g1, g2, g3, hd⟩ := hF.inv
          rw [un_cons g2.ends] at hun
          obtain ⟨hun1, hun2⟩ := drop_one hun
          obtain ⟨bu, ou, rfl, hcu⟩ := HP.out (by rw [hul]; omega)
          have cj := hcu i q hun1
          have cell := (hb4.cell (World.block_lt_of_cell? w4 _ cj)).trans cj
          have hl2 := g2.le.1
          have hl3 := g3.le.1
          have hsub := ks_sub g2 (show q2 ≤ n by omega)
          have hmsub : mayB (fun j => f (q + j)) (q2 - q) = true := mayB_yes.2 ⟨1 + d3, hsub, by omega, fun j hj => ⟨(HALL.out (q + j) (by omega)).1, fun _ => (HALL.out (q + j) (by omega)).2 (by omega)⟩⟩
          have KE := fun w (hw : Below W.heap.size W w) => End_in (some ⟨gb, off, none⟩) n c f q w (H.out.below hw) hn (by omega)
          rw [g2.ends] at KE
          have KM2 := fun w (hw : Below W.heap.size W w) => TMay_is (some ⟨gb, off + q * 5, none⟩) (q2 - q) (c - q) (fun j => f (q + j)) w ((H.out.below hw).part (by omega) (by omega)) (by omega) (show c - q ≤ maxLen by omega) (by omega)
          rw [hmsub] at KM2
          have KD2 := fun w (hw : Below W.heap.size W w) => Depth_some (some ⟨gb, off + q * 5, none⟩) (q2 - q) (c - q) (fun j => f (q + j)) (q2 - q) (1 + d3) w ((H.out.below hw).part (by omega) (by omega)) (by omega) (show c - q ≤ maxLen by omega) (by omega) hsub
          have t1 : ¬ (q : Int) < 1 := by omega
          have t2 : ¬ (n : Int) ≤ (q : Int) := by omega
          have t3 : ¬ (q2 : Int) ≤ (q : Int) := by omega
          have t4 : ¬ (n : Int) < (q2 : Int) := by omega
          have t5 : ¬ (D : Int) ≤ ((1 + d3 : Nat) : Int) := by omega
          have t6 : (q : Int) ≤ (q2 : Int) := by omega
          have t7 : (q2 : Int) ≤ (c : Int) := by omega
          have t8 : ¬ (q : Int) = (c : Int) := by omega
          have t9 : ¬ q = c := by omega
          have t10 : ((q2 : Int) - (q : Int)).toNat = q2 - q := by omega
          have hq2 : 1 ≤ q2 := by omega
          have hd4 : d4 ≤ d1 := by omega
          replace KE := Lib.hid KE
          replace KM2 := Lib.hid KM2
          replace KD2 := Lib.hid KD2
          have HG3 := Lib.hid g3
          have HUN := Lib.hid hun2
          have HO := Lib.hid ho
          have HON := Lib.hid hon
          have HSM := Lib.hid hsm
          clear hcu cj hF hun hun1 hun2 g1 g2 g3 hsub hmsub ho hon hsm hd HU HG
          go_wp2_with fail
          refine (KE.out _ hb).mono ?_
          rintro e w6 ⟨rfl, hx⟩
          have hb6 := hb.trans (hx.mono hb.size)
          have hb46 := hb4.trans (hx.mono hb4.size)
          have cell6 := (hx.cell (World.block_lt_of_cell? wr _ cell)).trans cell
          have HX6 := Lib.hid hx
          clear cell hx hb hb4
          unfold endV
          go_wp2_with fail
          refine (KM2.out _ hb6).mono ?_
          rintro e w7 ⟨rfl, hx⟩
          have hb7 := hb6.trans (hx.mono hb6.size)
          have hb47 := hb46.trans (hx.mono hb46.size)
          have cell7 := (hx.cell (World.block_lt_of_cell? w6 _ cell6)).trans cell6
          have HX7 := Lib.hid (HX6.out.trans (hx.mono HX6.out.size))
          clear cell6 hx hb6 hb46 HX6
          go_wp2_with fail
          refine (KD2.out _ hb7).mono ?_
          rintro e w8 ⟨rfl, hx⟩
          have hb8 := hb7.trans (hx.mono hb7.size)
          have hb48 := hb47.trans (hx.mono hb47.size)
          have cell8 := (hx.cell (World.block_lt_of_cell? w7 _ cell7)).trans cell7
          have HX8 := Lib.hid (HX7.out.trans (hx.mono HX7.out.size))
          clear cell7 hx hb7 hb47 HX7
          go_wp2_with fail
          refine (KD.out _ hb8).mono ?_
          rintro e w9 ⟨rfl, hx⟩
          have hb9 := hb8.trans (hx.mono hb8.size)
          have hb49 := hb48.trans (hx.mono hb48.size)
          have cell9 := (hx.cell (World.block_lt_of_cell? w8 _ cell8)).trans cell8
          have HX9 := Lib.hid (HX8.out.trans (hx.mono HX8.out.size))
          clear cell8 hx hb8 hb48 HX8
          have ho9 := own_below5 HO.out HX9.out
          have hq9 := (H.out.below hb9).part (p := q) (q := q2) (by omega) (by omega)
          obtain ⟨i0, hi0, hz0, hz1, hz2⟩ := info_parts infoN
          go_wp2_with (at_builtin; refine wpList_append_all rfl (.tmp 99) (.tmp 106) 22 rfl w4.heap.size 25 i0 (.agg #[.int .i64 0, .string ⟨#[]⟩, .string ⟨#[]⟩, .string ⟨#[]⟩, .slice none 0 0]) 5 80 Try.underlying22 hi0 hz0 hz1 hz2 rfl (by decide) _ q _ rfl ho9 (some ⟨gb, off + q * 5, none⟩) (q2 - q) (c - q) (nvs (fun j => f (q + j)) (q2 - q)) rfl (nvs_len _ _) (fun h => by cases h) hq9.cells (nvs_one _ _) ?c1 ?c2 hb49.size ?_)
          case c1 => unfold maxLen; omega
          case c2 => omega
          intro v' wx hown' hgrow
          have hbx : Below W.heap.size W wx := hb9.grown hgrow hb9.size (fun k hk => Nat.le_trans hs4 (ho9.lt k hk).1)
          have hb4x : Below w4.heap.size w4 wx := hb49.grown hgrow hb49.size (fun k hk => (ho9.lt k hk).1)
          have h0 := (HSB.out.below HX9.out).grown ((HON.out 0 (by omega)).below HX9.out) ho9 hgrow
          rw [← nvs_ap, show q + (q2 - q) = q2 by omega] at hown'
          have hlow : ∀ j, j < q → ap G q (fun j => f (q + j)) j = G j := fun j hj => by unfold ap; rw [if_pos hj]
          have hhigh : ∀ j, ¬ j < q → ap G q (fun j => f (q + j)) j = f j := fun j hj => by unfold ap; rw [if_neg hj]; show f (q + (j - q)) = f j; rw [show q + (j - q) = j by omega]
          have HFIN := Lib.hid (show (∀ j, j < q2 → (ap G q (fun j => f (q + j)) j).on wx) ∧ (∀ j, j < q2 → smN (ap G q (fun j => f (q + j)) j) (f j) = true) ∧ (∀ j, 1 ≤ j → j < q2 → ap G q (fun j => f (q + j)) j = f j) ∧ Sb wx (ap G q (fun j => f (q + j)) 0) by
            refine ⟨fun j hj => ?_, fun j hj => ?_, fun j h1 hj => ?_, ?_⟩
            · by_cases hjq : j < q
              · rw [hlow j hjq]
                by_cases hj0 : j = 0
                · subst hj0; exact h0.2
                · rw [HEQ.out j (by omega) hjq]
                  exact (H.out.below hbx).on j (by omega)
              · rw [hhigh j hjq]
                exact (H.out.below hbx).on j (by omega)
            · by_cases hjq : j < q
              · rw [hlow j hjq]; exact HSM.out j hjq
              · rw [hhigh j hjq]; exact smN_self _
            · by_cases hjq : j < q
              · rw [hlow j hjq]; exact HEQ.out j h1 hjq
              · exact hhigh j hjq
            · rw [hlow 0 (by omega)]; exact h0.1)
          have HOW := Lib.hid hown'
          have HBX := Lib.hid hbx
          have HB4X := Lib.hid hb4x
          clear h0 hlow hhigh hown' hgrow ho9 hq9 hb9 hb49 cell9 hbx hb4x
          go_wp2_with fail
          refine ⟨⟨i + 1, q2, d4, _, by go_num, hiy, hq2, HG3.out, hd4, HUN.out, HOW.out, HFIN.out.1, HFIN.out.2.1, HFIN.out.2.2.1, HFIN.out.2.2.2, HBX.out, HB4X.out⟩, by simp [intOf]; omega⟩
        · have e3 : ¬ (i : Int) < (y : Int) := by omega
          obtain rfl : i = y := by omega
          rw [Nat.sub_self] at hF
          obtain ⟨rfl, -⟩ := hF.inv0
          obtain ⟨g9, o9, c9, rfl, -, -, hq9, -⟩ := own_to_nq ho hon (by omega)
          have KSM := Same_is (some ⟨g9, o9, none⟩) (some ⟨gb, off, none⟩) n n c9 c G f wr hq9 (H.out.below hb) hn hn
          rw [decide_eq_true rfl, sameL_yes.2 hsm, Bool.true_and] at KSM
          replace KSM := Lib.hid KSM
          clear hF hun ho hon hsm hq9 HU HG hul hy hi hiy hq1 HEQ HSB HM HALL HP KD hdl hDd hb4
          go_wp2_with fail
          refine KSM.out.mono ?_
          rintro e w6 ⟨rfl, hx⟩
          have hb6 := hb.trans (hx.mono hb.size)
          obtain ⟨c0, c1, c2, c3, c4⟩ := HL0.out.below hb6 HL0.out.lt
          simp only [Nat.zero_mul, Nat.add_zero] at c0 c1 c2 c3 c4
          clear hx hb KSM
          go_wp2_with fail
          refine (KK.out _).mono ?_
          rintro e w7 ⟨rfl, hx⟩
          have hb7 := hb6.trans (hx.mono hb6.size)
          clear c0 c1 c2 c3 c4 hx hb6
          go_wp2_with fail
          go_ret
          exact ⟨by simp, hb7⟩
end Go.Proofs.Ytiopemimancliaa

import Derived.Test.YtinhbmjfeabecaaDoorWx
namespace Go.Proofs.YtinhbmjfeabecaaDoor
open Go.RowKit

theorem tmod_four {k : Int} (h0 : 0 ≤ k) : ∃ r : Nat, r < 4 ∧ k.tmod 4 = (r : Int) := by
  refine ⟨(k.tmod 4).toNat, ?_, ?_⟩ <;> rw [Int.tmod_eq_emod_of_nonneg h0] <;> omega
def OfWIs (s : ByteArray) (v : Int) : Prop := ∀ W, WT W → Calls Tryd.prog 10 #[.string s] W fun e W' => e = .returned (.int .i64 v) ∧ Below W.heap.size W W'
def SumIs (a b : Int) (s : ByteArray) : Prop := ∀ W, Tab W → Calls Tryd.prog 25 #[.int .i64 a, .int .i64 b] W fun e W' => e = .returned (.string s) ∧ Below W.heap.size W W'
set_option maxRecDepth 10000 in
theorem sum_main (a b : Int) (sa sb ss : ByteArray) (HA : OfIs a sa) (HB : OfIs b sb) (HS : NumIs 24 sa sb ss) : SumIs a b ss := by
  intro W ht
  have KT := Lib.hid ht
  have KA := Lib.hid HA
  have KB := Lib.hid HB
  have KS := Lib.hid HS
  clear ht HA HB HS
  go_enter Tryd.func25, Tryd.ntmps25
  go_wp2_with fail
  refine (KA.out _ KT.out).mono ?_
  rintro e w1 ⟨rfl, hb1⟩
  go_wp2_with fail
  refine (KB.out _ (KT.out.below hb1)).mono ?_
  rintro e w2 ⟨rfl, hq⟩
  have hb2 := hb1.trans (hq.mono hb1.size)
  go_wp2_with fail
  refine (KS.out _ (KT.out.below hb2)).mono ?_
  rintro e w3 ⟨rfl, hq3⟩
  go_wp2_with fail
  go_ret
  exact ⟨rfl, hb2.trans (hq3.mono hb2.size)⟩
set_option maxRecDepth 10000 in
set_option maxHeartbeats 6400000 in
theorem back_main (a b k w wide x y z o : Int) (is was over fa fb : Bool) (r : Nat) (ss : ByteArray) (W : World) (ht : WT W) (hr : r < 4) (hk : k.tmod 4 = (r : Int))
    (hw : ([.int .i64 8, .int .i64 16, .int .i64 32, .int .i64 64] : List Value)[r]? = some (.int .i64 w))
    (H1 : Does 18 a b w x is) (H2 : Does 20 x b wide y was) (H3 : Does 20 a b w z over)
    (HN : NextIs w wide) (HS : SumIs a b ss) (HO : OfWIs ss o) (HFA : FitsIs a w fa) (HFB : FitsIs b w fb)
    (HX : is = true → was = true ∧ y = a) (HX0 : is = false → x = 0) (HZ : over = false → z = 0) (Ho : is = false → fa = true → fb = true → w < o) :
    Calls Tryd.prog 7 #[.int .i64 a, .int .i64 b, .int .u8 k] W (TrueEnd W) := by
  have KT := Lib.hid ht
  have K1 := Lib.hid H1
  have K2 := Lib.hid H2
  have K3 := Lib.hid H3
  have KN := Lib.hid HN
  have KS := Lib.hid HS
  have KO := Lib.hid HO
  have KA := Lib.hid HFA
  have KB := Lib.hid HFB
  have KX := Lib.hid HX
  have KX0 := Lib.hid HX0
  have KZ := Lib.hid HZ
  have Ko := Lib.hid Ho
  have KW := Lib.hid hw
  clear H1 H2 H3 HN HS HO HFA HFB HX HX0 HZ Ho ht hw
  have hr4 : (r : Int) < 4 := by omega
  go_enter Tryd.func7, Tryd.ntmps7
  go_wp2_with fail
  refine (shown_w _ KT.out).mono ?_
  rintro e w1 ⟨rfl, hb1⟩
  have hl : ([.int .i64 8, .int .i64 16, .int .i64 32, .int .i64 64] : List Value)[r]'hr = .int .i64 w := by
    have h := KW.out
    rw [List.getElem?_eq_getElem hr] at h
    exact Option.some.inj h
  have hb2 := hb1.alloc hb1.size (.cells #[.int .i64 8, .int .i64 16, .int .i64 32, .int .i64 64] 3)
  have htw := Lib.hid (KT.out.below hb2)
  go_wp2_with fail
  refine (K1.out _ htw.out.wid).mono ?_
  rintro e w9 ⟨rfl, rfl⟩
  go_wp2_with fail
  refine (KN.out _ htw.out.wid).mono ?_
  rintro e w9 ⟨rfl, rfl⟩
  go_wp2_with fail
  refine (K2.out _ htw.out.wid).mono ?_
  rintro e w9 ⟨rfl, rfl⟩
  go_wp2_with fail
  refine (K3.out _ htw.out.wid).mono ?_
  rintro e w9 ⟨rfl, rfl⟩
  cases is
  · obtain rfl := KX0.out rfl
    cases over
    · obtain rfl := KZ.out rfl
      cases fa
      · go_wp2_with fail
        refine (KA.out _ htw.out.wid).mono ?_
        rintro e w9 ⟨rfl, rfl⟩
        go_wp2_with fail
        go_ret
        exact ⟨rfl, hb2⟩
      · cases fb
        · go_wp2_with fail
          refine (KA.out _ htw.out.wid).mono ?_
          rintro e w9 ⟨rfl, rfl⟩
          go_wp2_with fail
          refine (KB.out _ htw.out.wid).mono ?_
          rintro e w9 ⟨rfl, rfl⟩
          go_wp2_with fail
          go_ret
          exact ⟨rfl, hb2⟩
        · have ho := Ko.out rfl rfl rfl
          go_wp2_with fail
          refine (KA.out _ htw.out.wid).mono ?_
          rintro e w9 ⟨rfl, rfl⟩
          go_wp2_with fail
          refine (KB.out _ htw.out.wid).mono ?_
          rintro e w9 ⟨rfl, rfl⟩
          go_wp2_with fail
          refine (KS.out _ htw.out.tab).mono ?_
          rintro e w10 ⟨rfl, hq⟩
          replace hb2 := hb2.trans (hq.mono hb2.size)
          clear hq
          go_wp2_with fail
          refine (KO.out _ (KT.out.below hb2)).mono ?_
          rintro e w11 ⟨rfl, hq⟩
          replace hb2 := hb2.trans (hq.mono hb2.size)
          clear hq
          go_wp2_with fail
          go_ret
          exact ⟨rfl, hb2⟩
    · cases fa
      · go_wp2_with fail
        refine (KA.out _ htw.out.wid).mono ?_
        rintro e w9 ⟨rfl, rfl⟩
        go_wp2_with fail
        go_ret
        exact ⟨rfl, hb2⟩
      · cases fb
        · go_wp2_with fail
          refine (KA.out _ htw.out.wid).mono ?_
          rintro e w9 ⟨rfl, rfl⟩
          go_wp2_with fail
          refine (KB.out _ htw.out.wid).mono ?_
          rintro e w9 ⟨rfl, rfl⟩
          go_wp2_with fail
          go_ret
          exact ⟨rfl, hb2⟩
        · have ho := Ko.out rfl rfl rfl
          go_wp2_with fail
          refine (KA.out _ htw.out.wid).mono ?_
          rintro e w9 ⟨rfl, rfl⟩
          go_wp2_with fail
          refine (KB.out _ htw.out.wid).mono ?_
          rintro e w9 ⟨rfl, rfl⟩
          go_wp2_with fail
          refine (KS.out _ htw.out.tab).mono ?_
          rintro e w10 ⟨rfl, hq⟩
          replace hb2 := hb2.trans (hq.mono hb2.size)
          clear hq
          go_wp2_with fail
          refine (KO.out _ (KT.out.below hb2)).mono ?_
          rintro e w11 ⟨rfl, hq⟩
          replace hb2 := hb2.trans (hq.mono hb2.size)
          clear hq
          go_wp2_with fail
          go_ret
          exact ⟨rfl, hb2⟩
  · obtain ⟨rfl, rfl⟩ := KX.out rfl
    cases over
    · obtain rfl := KZ.out rfl
      go_wp2_with fail
      go_ret
      exact ⟨rfl, hb2⟩
    · go_wp2_with fail
      go_ret
      exact ⟨rfl, hb2⟩
theorem leastO_some (x : Int) : leastO (some x) = if I64 x then leastW x else 128 := by
  unfold leastO intO
  by_cases h : I64 x
  · simp [h]
  · simp [h]
theorem least_over {x w : Int} (hx : I64 x) (hw : w = 8 ∨ w = 16 ∨ w = 32 ∨ w = 64) (h : ¬ Fit x w) : w < leastW x := by
  rcases least_cases hx with ⟨e, h0, h1, h2, h3⟩ | ⟨e, h0, h1, h2, h3⟩ | ⟨e, h0, h1, h2, h3⟩ | ⟨e, h0, h1, h2, h3⟩
  all_goals
    rw [e]
    rcases hw with rfl | rfl | rfl | rfl
    all_goals first | exact absurd (by assumption) h | omega
theorem back_any (a b k : Int) (ha : I64 a) (hb : I64 b) (hk : 0 ≤ k) (W : World) (ht : WT W) : Calls Tryd.prog 7 #[.int .i64 a, .int .i64 b, .int .u8 k] W (TrueEnd W) := by
  obtain ⟨r, hr, hkr⟩ := tmod_four hk
  obtain ⟨w, hw, hw4⟩ : ∃ w : Int, ([.int .i64 8, .int .i64 16, .int .i64 32, .int .i64 64] : List Value)[r]? = some (.int .i64 w) ∧ (w = 8 ∨ w = 16 ∨ w = 32 ∨ w = 64) := by
    obtain rfl | rfl | rfl | rfl : r = 0 ∨ r = 1 ∨ r = 2 ∨ r = 3 := by omega
    all_goals exact ⟨_, rfl, by omega⟩
  have hv : I64 (valW a b (a + b) w) := by
    unfold valW
    split
    · rename_i h; exact h.1
    · decide
  refine back_main a b k w (nextW w) (valW a b (a + b) w) _ _ (leastO (some (a + b))) _ _ _ (decide (Fit a w)) (decide (Fit b w)) r (S (a + b)) W ht hr hkr hw
    (does_of (Add_w a b w ha hb)) (does_of (Sub_w (valW a b (a + b) w) b (nextW w) hv hb)) (does_of (Sub_w a b w ha hb)) (next_is w)
    (sum_main a b _ _ _ (of_is ha) (of_is hb) (num_add ha hb)) (fun W ht => Of_opt (show Is (S (a + b)) (some (a + b)) from ⟨rfl, add_lim_w ha hb⟩) W ht) (fits_any a w ha.1 ha.2) (fits_any b w hb.1 hb.2) ?_ ?_ ?_ ?_
  · intro h
    have h := of_decide_eq_true h
    have e1 : valW a b (a + b) w = a + b := by unfold valW; rw [if_pos h]
    have h2 : OkW (a + b) b (a + b - b) (nextW w) := by
      rw [show a + b - b = a by omega]
      exact ⟨ha, fit_next h.2.2.2, fit_next h.2.2.1, fit_next h.2.1⟩
    rw [e1]
    refine ⟨decide_eq_true h2, ?_⟩
    unfold valW
    rw [if_pos h2]
    omega
  · intro h
    have h := of_decide_eq_false h
    unfold valW
    rw [if_neg h]
  · intro h
    have h := of_decide_eq_false h
    unfold valW
    rw [if_neg h]
  · intro h hfa hfb
    have h := of_decide_eq_false h
    have hfa := of_decide_eq_true hfa
    have hfb := of_decide_eq_true hfb
    rw [leastO_some]
    by_cases hi : I64 (a + b)
    · rw [if_pos hi]
      exact least_over hi hw4 fun hf => h ⟨hi, hfa, hfb, hf⟩
    · rw [if_neg hi]
      omega
end Go.Proofs.YtinhbmjfeabecaaDoor

import Derived.Test.YtinhbmjfeabecaaDoorWl
namespace Go.Proofs.YtinhbmjfeabecaaDoor
open Go.RowKit

def Does (f : Nat) (a b w x : Int) (v : Bool) : Prop := ∀ W, WTab W → Calls Tryd.prog f #[.int .i64 a, .int .i64 b, .int .i64 w] W fun e W' => e = .returned (.tuple #[.int .i64 x, .bool v]) ∧ W = W'
def NextIs (w v : Int) : Prop := ∀ W, WTab W → Calls Tryd.prog 16 #[.int .i64 w] W fun e W' => e = .returned (.int .i64 v) ∧ W = W'
def NumIs (f : Nat) (s t r : ByteArray) : Prop := ∀ W, Tab W → Calls Tryd.prog f #[.string s, .string t] W fun e W' => e = .returned (.tuple #[.string r, .int .i64 0]) ∧ Below W.heap.size W W'
theorem tmod_five {k : Int} (h0 : 0 ≤ k) : ∃ r : Nat, r < 5 ∧ k.tmod 5 = (r : Int) := by
  refine ⟨(k.tmod 5).toNat, ?_, ?_⟩ <;> rw [Int.tmod_eq_emod_of_nonneg h0] <;> omega
set_option maxRecDepth 10000 in
set_option maxHeartbeats 6400000 in
theorem exact_main (a b k w wide x y m n : Int) (is was more also : Bool) (r : Nat) (sa sb sp ss : ByteArray) (W : World) (ht : WT W) (hr : r < 5) (hk : k.tmod 5 = (r : Int)) (hw : wrow[r]? = some (.int .i64 w))
    (H1 : Does 21 a b w x is) (H2 : Does 18 a b w y was) (H3 : Does 21 a b wide m more) (H4 : Does 18 a b wide n also)
    (HN : NextIs w wide) (HA : OfIs a sa) (HB : OfIs b sb) (HP : NumIs 22 sa sb sp) (HS : NumIs 24 sa sb ss)
    (HX : is = true → OfIs x sp ∧ FitsIs x w true ∧ more = true ∧ m = x) (HY : was = true → OfIs y ss ∧ FitsIs y w true ∧ also = true ∧ n = y) :
    Calls Tryd.prog 5 #[.int .i64 a, .int .i64 b, .int .u8 k] W (TrueEnd W) := by
  have KT := Lib.hid ht
  have K1 := Lib.hid H1
  have K2 := Lib.hid H2
  have K3 := Lib.hid H3
  have K4 := Lib.hid H4
  have KN := Lib.hid HN
  have KA := Lib.hid HA
  have KB := Lib.hid HB
  have KP := Lib.hid HP
  have KS := Lib.hid HS
  have KX := Lib.hid HX
  have KY := Lib.hid HY
  have KW := Lib.hid hw
  clear H1 H2 H3 H4 HN HA HB HP HS HX HY ht hw
  have hr5 : (r : Int) < 5 := by omega
  go_enter Tryd.func5, Tryd.ntmps5
  go_wp2_with fail
  refine (shown_w _ KT.out).mono ?_
  rintro e w1 ⟨rfl, hb1⟩
  have hl : ([.int .i64 8, .int .i64 16, .int .i64 32, .int .i64 64, .int .i64 128] : List Value)[r]'hr = .int .i64 w := by
    have h := KW.out
    rw [Array.getElem?_eq_getElem hr] at h
    exact Option.some.inj h
  have hb2 := hb1.alloc hb1.size (.cells wrow 3)
  have htw := Lib.hid (KT.out.below hb2)
  go_wp2_with fail
  refine (KN.out _ htw.out.wid).mono ?_
  rintro e w9 ⟨rfl, rfl⟩
  go_wp2_with fail
  refine (K1.out _ htw.out.wid).mono ?_
  rintro e w9 ⟨rfl, rfl⟩
  go_wp2_with fail
  refine (K2.out _ htw.out.wid).mono ?_
  rintro e w9 ⟨rfl, rfl⟩
  go_wp2_with fail
  clear htw hl KW hk hr5
  refine (KA.out _ ((KT.out.below hb2).tab)).mono ?_
  rintro e w2 ⟨rfl, hq⟩
  replace hb2 := hb2.trans (hq.mono hb2.size)
  clear hq
  go_wp2_with fail
  refine (KB.out _ ((KT.out.below hb2).tab)).mono ?_
  rintro e w3 ⟨rfl, hq⟩
  replace hb2 := hb2.trans (hq.mono hb2.size)
  clear hq
  go_wp2_with fail
  refine (KP.out _ ((KT.out.below hb2).tab)).mono ?_
  rintro e w4 ⟨rfl, hq⟩
  replace hb2 := hb2.trans (hq.mono hb2.size)
  clear hq
  go_wp2_with fail
  refine (KA.out _ ((KT.out.below hb2).tab)).mono ?_
  rintro e w5 ⟨rfl, hq⟩
  replace hb2 := hb2.trans (hq.mono hb2.size)
  clear hq
  go_wp2_with fail
  refine (KB.out _ ((KT.out.below hb2).tab)).mono ?_
  rintro e w6 ⟨rfl, hq⟩
  replace hb2 := hb2.trans (hq.mono hb2.size)
  clear hq
  go_wp2_with fail
  refine (KS.out _ ((KT.out.below hb2).tab)).mono ?_
  rintro e w7 ⟨rfl, hq⟩
  replace hb2 := hb2.trans (hq.mono hb2.size)
  clear hq
  cases is
  · cases was
    · clear KX KY
      go_wp2_with fail
      refine (K3.out _ ((KT.out.below hb2).wid)).mono ?_
      rintro e w9 ⟨rfl, rfl⟩
      go_wp2_with fail
      refine (K4.out _ ((KT.out.below hb2).wid)).mono ?_
      rintro e w9 ⟨rfl, rfl⟩
      go_wp2_with fail
      go_ret
      exact ⟨rfl, hb2⟩
    · obtain ⟨Y1, Y2, rfl, rfl⟩ := KY.out rfl
      have KY1 := Lib.hid Y1
      have KY2 := Lib.hid Y2
      clear Y1 Y2
      clear KX KY
      go_wp2_with fail
      refine (KY1.out _ ((KT.out.below hb2).tab)).mono ?_
      rintro e w21 ⟨rfl, hq⟩
      replace hb2 := hb2.trans (hq.mono hb2.size)
      clear hq
      go_wp2_with fail
      refine (KY2.out _ ((KT.out.below hb2).wid)).mono ?_
      rintro e w9 ⟨rfl, rfl⟩
      go_wp2_with fail
      refine (K3.out _ ((KT.out.below hb2).wid)).mono ?_
      rintro e w9 ⟨rfl, rfl⟩
      go_wp2_with fail
      refine (K4.out _ ((KT.out.below hb2).wid)).mono ?_
      rintro e w9 ⟨rfl, rfl⟩
      go_wp2_with fail
      go_ret
      exact ⟨rfl, hb2⟩
  · cases was
    · obtain ⟨X1, X2, rfl, rfl⟩ := KX.out rfl
      have KX1 := Lib.hid X1
      have KX2 := Lib.hid X2
      clear X1 X2
      clear KX KY
      go_wp2_with fail
      refine (KX1.out _ ((KT.out.below hb2).tab)).mono ?_
      rintro e w21 ⟨rfl, hq⟩
      replace hb2 := hb2.trans (hq.mono hb2.size)
      clear hq
      go_wp2_with fail
      refine (KX2.out _ ((KT.out.below hb2).wid)).mono ?_
      rintro e w9 ⟨rfl, rfl⟩
      go_wp2_with fail
      refine (K3.out _ ((KT.out.below hb2).wid)).mono ?_
      rintro e w9 ⟨rfl, rfl⟩
      go_wp2_with fail
      refine (K4.out _ ((KT.out.below hb2).wid)).mono ?_
      rintro e w9 ⟨rfl, rfl⟩
      go_wp2_with fail
      go_ret
      exact ⟨rfl, hb2⟩
    · obtain ⟨X1, X2, rfl, rfl⟩ := KX.out rfl
      obtain ⟨Y1, Y2, rfl, rfl⟩ := KY.out rfl
      have KX1 := Lib.hid X1
      have KX2 := Lib.hid X2
      clear X1 X2
      have KY1 := Lib.hid Y1
      have KY2 := Lib.hid Y2
      clear Y1 Y2
      clear KX KY
      go_wp2_with fail
      refine (KX1.out _ ((KT.out.below hb2).tab)).mono ?_
      rintro e w21 ⟨rfl, hq⟩
      replace hb2 := hb2.trans (hq.mono hb2.size)
      clear hq
      go_wp2_with fail
      refine (KX2.out _ ((KT.out.below hb2).wid)).mono ?_
      rintro e w9 ⟨rfl, rfl⟩
      go_wp2_with fail
      refine (KY1.out _ ((KT.out.below hb2).tab)).mono ?_
      rintro e w22 ⟨rfl, hq⟩
      replace hb2 := hb2.trans (hq.mono hb2.size)
      clear hq
      go_wp2_with fail
      refine (KY2.out _ ((KT.out.below hb2).wid)).mono ?_
      rintro e w9 ⟨rfl, rfl⟩
      go_wp2_with fail
      refine (K3.out _ ((KT.out.below hb2).wid)).mono ?_
      rintro e w9 ⟨rfl, rfl⟩
      go_wp2_with fail
      refine (K4.out _ ((KT.out.below hb2).wid)).mono ?_
      rintro e w9 ⟨rfl, rfl⟩
      go_wp2_with fail
      go_ret
      exact ⟨rfl, hb2⟩
theorem does_of {f : Nat} {a b r w : Int} (h : ∀ W, WTab W → Calls Tryd.prog f #[.int .i64 a, .int .i64 b, .int .i64 w] W (WPost a b r w W)) : Does f a b w (valW a b r w) (decide (OkW a b r w)) := h
theorem next_is (w : Int) : NextIs w (nextW w) := fun W ht => Next_w w W ht
theorem fit_next {x w : Int} (h : Fit x w) : Fit x (nextW w) := by
  unfold Fit at h
  rcases h with ⟨rfl, h⟩ | ⟨rfl, h⟩ | ⟨rfl, h⟩ | ⟨rfl, h⟩ | rfl
  all_goals
    unfold nextW Fit
    simp
    try omega
theorem okw_next {a b r w : Int} (h : OkW a b r w) : OkW a b r (nextW w) := ⟨h.1, fit_next h.2.1, fit_next h.2.2.1, fit_next h.2.2.2⟩
theorem mul_lim_w {a b : Int} (ha : I64 a) (hb : I64 b) : (a * b).natAbs < lim := by
  have h1 : a.natAbs ≤ 9223372036854775808 := by unfold I64 at ha; omega
  have h2 : b.natAbs ≤ 9223372036854775808 := by unfold I64 at hb; omega
  have h3 := Nat.mul_le_mul h1 h2
  rw [Int.natAbs_mul]
  exact Nat.lt_of_le_of_lt h3 (by unfold lim; decide +kernel)
theorem add_lim_w {a b : Int} (ha : I64 a) (hb : I64 b) : (a + b).natAbs < lim := by
  have hL := lim_big
  unfold I64 at ha hb
  omega
theorem i64_lim {a : Int} (ha : I64 a) : a.natAbs < lim := lim_i64 ha.1 ha.2
theorem num_mul {a b : Int} (ha : I64 a) (hb : I64 b) : NumIs 22 (S a) (S b) (S (a * b)) := fun W ht => by
  refine (Mul_yes a b W (i64_lim ha) (i64_lim hb) ht).mono fun e W' h => ?_
  unfold OpPost at h
  rwa [toldR_yes (mul_lim_w ha hb), toldE_yes (mul_lim_w ha hb)] at h
theorem num_add {a b : Int} (ha : I64 a) (hb : I64 b) : NumIs 24 (S a) (S b) (S (a + b)) := fun W ht => by
  refine (Add_yes a b W (i64_lim ha) (i64_lim hb) ht).mono fun e W' h => ?_
  unfold OpPost at h
  rwa [toldR_yes (add_lim_w ha hb), toldE_yes (add_lim_w ha hb)] at h
theorem of_is {a : Int} (ha : I64 a) : OfIs a (S a) := fun W ht => Of_any a ha.1 ha.2 W ht
theorem exact_any (a b k : Int) (ha : I64 a) (hb : I64 b) (hk : 0 ≤ k) (W : World) (ht : WT W) : Calls Tryd.prog 5 #[.int .i64 a, .int .i64 b, .int .u8 k] W (TrueEnd W) := by
  obtain ⟨r, hr, hkr⟩ := tmod_five hk
  obtain ⟨w, hw⟩ : ∃ w : Int, wrow[r]? = some (.int .i64 w) := by
    obtain rfl | rfl | rfl | rfl | rfl : r = 0 ∨ r = 1 ∨ r = 2 ∨ r = 3 ∨ r = 4 := by omega
    all_goals exact ⟨_, rfl⟩
  refine exact_main a b k w (nextW w) _ _ _ _ _ _ _ _ r (S a) (S b) (S (a * b)) (S (a + b)) W ht hr hkr hw
    (does_of (Mul_w a b w ha hb)) (does_of (Add_w a b w ha hb)) (does_of (Mul_w a b (nextW w) ha hb)) (does_of (Add_w a b (nextW w) ha hb))
    (next_is w) (of_is ha) (of_is hb) (num_mul ha hb) (num_add ha hb) ?_ ?_
  · intro h
    have h := of_decide_eq_true h
    have h2 := okw_next h
    unfold valW
    rw [if_pos h, if_pos h2, decide_eq_true h2]
    refine ⟨of_is h.1, ?_, rfl, rfl⟩
    have := fits_any (a * b) w h.1.1 h.1.2
    rwa [decide_eq_true h.2.2.2] at this
  · intro h
    have h := of_decide_eq_true h
    have h2 := okw_next h
    unfold valW
    rw [if_pos h, if_pos h2, decide_eq_true h2]
    refine ⟨of_is h.1, ?_, rfl, rfl⟩
    have := fits_any (a + b) w h.1.1 h.1.2
    rwa [decide_eq_true h.2.2.2] at this
end Go.Proofs.YtinhbmjfeabecaaDoor

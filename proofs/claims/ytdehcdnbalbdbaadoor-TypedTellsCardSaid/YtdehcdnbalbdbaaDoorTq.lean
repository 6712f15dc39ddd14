/-
  The reference's May, Many, At of typed arrays, by their contracts.
-/
import Derived.Test.YtdehcdnbalbdbaaDoorTp
namespace Go.Proofs.YtdehcdnbalbdbaaDoor
open Go.RowKit

set_option maxRecDepth 10000 in
set_option maxHeartbeats 1600000 in
theorem rTMay_is {w : Int} {a : Option Addr} {n c : Nat} {l : List Int} {s : ByteArray} (W : World) (hl : Sl W a n l) (hs : s.size ≤ 1000000) :
    Calls Tryd.prog 23 #[.agg #[.int .i64 w, .slice a n c, .string s]] W (BoolEnd (mayT w l s) W) := by
  have hb0 := box_below W (.cells #[.int .i64 w, .slice a n c, .string s] 33)
  have KS := Lib.hid (fun w' (hb : Below W.heap.size W w') => rSize_is a n c l w' (hl.below hb))
  have KW := Lib.hid (known_is w)
  clear hl
  by_cases hw : isW w = true
  · obtain ⟨b, hb⟩ := isW_yes.1 hw
    have hwb := hb.le
    rw [hw] at KW
    by_cases he : szE l = 0
    · have hp := may_pr he
      have hv : mayT w l s = decide ((s.size : Int) = szV l * b) := by unfold mayT; rw [hw, he, hwb.2.2.2]; rfl
      rw [hv]
      rw [he] at KS
      have hzp := szV_pr he
      obtain ⟨m, hm⟩ : ∃ m : Nat, (m : Int) = szV l := ⟨(szV l).toNat, by omega⟩
      rw [← hm] at KS ⊢
      have hmb : m * b ≤ 4096 * 8 := Nat.mul_le_mul (by omega) hwb.2.1
      have hmc : (m : Int) * (b : Int) = ((m * b : Nat) : Int) := (Int.natCast_mul m b).symm
      have hwr : IntKind.i64.wrap ((m : Int) * w) = 8 * ((m * b : Nat) : Int) := by
        rw [hwb.2.2.1, ← Int.mul_assoc, Int.mul_comm (m : Int) 8, Int.mul_assoc, hmc]
        exact IntWalk.i64_in _ (by omega)
      rw [hmc]
      generalize m * b = q at *
      have HV : Hid (decide ((s.size : Int) = (q : Int)) = ((8 * (s.size : Int)) == (8 * (q : Int)))) := Lib.hid (by
        rw [Bool.eq_iff_iff, decide_eq_true_eq, beq_iff_eq]; omega)
      generalize decide ((s.size : Int) = (q : Int)) = v at HV ⊢
      clear hv hwb hb hw he hp hzp hm hmc
      go_enter Tryd.func23, Tryd.ntmps23
      go_wp2_with fail
      refine (KS.out _ hb0).mono ?_
      rintro e w1 ⟨rfl, rfl⟩
      go_wp2_with fail
      refine (KW.out _).mono ?_
      rintro e w1 ⟨rfl, rfl⟩
      go_wp2_with fail
      go_ret
      exact ⟨by rw [HV.out]; rfl, hb0⟩
    · have hv : mayT w l s = false := by unfold mayT; rw [decide_eq_false he]; simp
      rw [hv]
      generalize szV l = V at *
      generalize szE l = E at *
      have hE : (E == 0) = false := beq_eq_false_iff_ne.2 he
      clear hv hw he hwb hb
      go_enter Tryd.func23, Tryd.ntmps23
      go_wp2_with fail
      refine (KS.out _ hb0).mono ?_
      rintro e w1 ⟨rfl, rfl⟩
      go_wp2_with fail
      refine (KW.out _).mono ?_
      rintro e w1 ⟨rfl, rfl⟩
      go_wp2_with fail
      go_ret
      exact ⟨rfl, hb0⟩
  · have hwf : isW w = false := by simpa using hw
    have hv : mayT w l s = false := by unfold mayT; rw [hwf]; rfl
    rw [hv]
    rw [hwf] at KW
    clear hv hw hwf
    generalize szV l = V at *
    generalize szE l = E at *
    go_enter Tryd.func23, Tryd.ntmps23
    go_wp2_with fail
    refine (KS.out _ hb0).mono ?_
    rintro e w1 ⟨rfl, rfl⟩
    go_wp2_with fail
    refine (KW.out _).mono ?_
    rintro e w1 ⟨rfl, rfl⟩
    go_wp2_with fail
    go_ret
    exact ⟨rfl, hb0⟩
set_option maxRecDepth 10000 in
set_option maxHeartbeats 800000 in
theorem rTMany_is {w : Int} {a : Option Addr} {n c : Nat} {l : List Int} {s : ByteArray} (W : World) (hl : Sl W a n l) (hs : s.size ≤ 1000000) :
    Calls Tryd.prog 25 #[.agg #[.int .i64 w, .slice a n c, .string s]] W (IntEnd (tm w l s) W) := by
  have hA := Tx.new 33 W w a n c s
  have hb0 := box_below W (.cells #[.int .i64 w, .slice a n c, .string s] 33)
  have KS := Lib.hid (fun w' (hb : Below W.heap.size W w') => rSize_is a n c l w' (hl.below hb))
  have KM := Lib.hid (fun w' (hb : Below W.heap.size W w') => rTMay_is (w := w) (c := c) (s := s) w' (hl.below hb) hs)
  have HT := Lib.hid (show tm w l s = if mayT w l s then szV l else 0 from rfl)
  clear hl
  generalize tm w l s = t at HT ⊢
  generalize mayT w l s = p at *
  generalize szV l = V at *
  generalize szE l = E at *
  have x0 := hA.c0
  have x1 := hA.c1
  have x2 := hA.c2
  rcases p with _ | _
  · obtain rfl : t = 0 := HT.out
    go_enter Tryd.func25, Tryd.ntmps25
    go_wp2_with fail
    refine (KS.out _ hb0).mono ?_
    rintro e w1 ⟨rfl, rfl⟩
    go_wp2_with fail
    refine (KM.out _ hb0).mono ?_
    rintro e w1 ⟨rfl, hb⟩
    go_wp2_with fail
    go_ret
    exact ⟨rfl, hb0.trans (hb.mono hb0.size)⟩
  · obtain rfl : t = V := HT.out
    go_enter Tryd.func25, Tryd.ntmps25
    go_wp2_with fail
    refine (KS.out _ hb0).mono ?_
    rintro e w1 ⟨rfl, rfl⟩
    go_wp2_with fail
    refine (KM.out _ hb0).mono ?_
    rintro e w1 ⟨rfl, hb⟩
    go_wp2_with fail
    go_ret
    exact ⟨rfl, hb0.trans (hb.mono hb0.size)⟩

/-! ### At -/
set_option maxRecDepth 10000 in
set_option maxHeartbeats 800000 in
theorem rTAt_no {w i : Int} {a : Option Addr} {n c : Nat} {l : List Int} {s : ByteArray} (W : World) (hl : Sl W a n l) (hs : s.size ≤ 1000000) (hi : mayT w l s = false ∨ i < 0 ∨ tm w l s ≤ i) :
    Calls Tryd.prog 17 #[.agg #[.int .i64 w, .slice a n c, .string s], .int .i64 i] W (AtEnd 0 false W) := by
  have hA := Tx.new 33 W w a n c s
  have hb0 := box_below W (.cells #[.int .i64 w, .slice a n c, .string s] 33)
  have KY := Lib.hid (fun w' (hb : Below W.heap.size W w') => rTMay_is (w := w) (c := c) (s := s) w' (hl.below hb) hs)
  have KM := Lib.hid (fun w' (hb : Below W.heap.size W w') => rTMany_is (w := w) (c := c) (s := s) w' (hl.below hb) hs)
  clear hl
  generalize tm w l s = m at *
  generalize mayT w l s = p at *
  rcases p with _ | _
  · clear hi
    go_enter Tryd.func17, Tryd.ntmps17
    go_wp2_with fail
    refine (KY.out _ hb0).mono ?_
    rintro e w1 ⟨rfl, hb⟩
    go_wp2_with fail
    go_ret2
    exact ⟨rfl, hb0.trans (hb.mono hb0.size)⟩
  · by_cases e1 : i < 0
    · clear hi
      go_enter Tryd.func17, Tryd.ntmps17
      go_wp2_with fail
      refine (KY.out _ hb0).mono ?_
      rintro e w1 ⟨rfl, hb⟩
      go_wp2_with fail
      go_ret2
      exact ⟨rfl, hb0.trans (hb.mono hb0.size)⟩
    · have e2 : m ≤ i := by rcases hi with h | h | h; cases h; omega; exact h
      clear hi
      go_enter Tryd.func17, Tryd.ntmps17
      go_wp2_with fail
      refine (KY.out _ hb0).mono ?_
      rintro e w1 ⟨rfl, hb⟩
      have hA1 := hA.on hb
      have hb1 := hb0.trans (hb.mono hb0.size)
      have x0 := hA1.c0
      have x1 := hA1.c1
      have x2 := hA1.c2
      clear hA hb0 hb
      go_wp2_with fail
      refine (KM.out _ hb1).mono ?_
      rintro e w2 ⟨rfl, hb⟩
      go_wp2_with fail
      go_ret2
      exact ⟨rfl, hb1.trans (hb.mono hb1.size)⟩
def AtInv (c : List UInt8) (k : Nat) (n : Int) : Prop := n = decS (sg c) (c.take k) + if sgB c then 1 else 0
theorem AtInv.start (c : List UInt8) : AtInv c 0 0 := by
  unfold AtInv sg
  cases sgB c <;> simp [decS]
theorem AtInv.low {c : List UInt8} {k : Nat} {n : Int} (h : AtInv c k n) (hc : sgB c = true) (hk : k < c.length) : AtInv c (k + 1) (256 * n - (255 - (c[k].toNat : Int))) := by
  unfold AtInv at h ⊢
  rw [hc, if_pos rfl] at h ⊢
  rw [List.take_add_one, List.getElem?_eq_getElem hk]
  show _ = decS (sg c) (c.take k ++ [c[k]]) + 1
  rw [decS_snoc]; omega
theorem AtInv.high {c : List UInt8} {k : Nat} {n : Int} (h : AtInv c k n) (hc : sgB c = false) (hk : k < c.length) : AtInv c (k + 1) (256 * n + (c[k].toNat : Int)) := by
  unfold AtInv at h ⊢
  rw [hc, if_neg (by decide)] at h ⊢
  rw [List.take_add_one, List.getElem?_eq_getElem hk]
  show _ = decS (sg c) (c.take k ++ [c[k]]) + 0
  rw [decS_snoc]; omega
theorem AtInv.lowB {c : List UInt8} {k : Nat} {n : Int} (h : AtInv c k n) (hc : sgB c = true) (hk : k ≤ 7) (hl : k ≤ c.length) : -36028797018963967 ≤ n ∧ n ≤ 0 := by
  unfold AtInv at h
  rw [hc, if_pos rfl] at h
  have hs : sg c = -1 := by unfold sg; rw [hc]; rfl
  rcases Nat.eq_zero_or_pos k with h0 | h0
  · subst h0
    rw [List.take_zero, hs] at h
    have : decS (-1) [] = -1 := rfl
    omega
  · have h1 := dec_some h0 hk hl
    obtain ⟨v, e, h2, h3⟩ := decS_ex (sg c) (c.take k)
    rw [hs] at e
    rw [hs] at h h1
    omega
theorem AtInv.highB {c : List UInt8} {k : Nat} {n : Int} (h : AtInv c k n) (hc : sgB c = false) (hk : k ≤ 7) (hl : k ≤ c.length) : 0 ≤ n ∧ n ≤ 36028797018963967 := by
  unfold AtInv at h
  rw [hc, if_neg (by decide)] at h
  have hs : sg c = 0 := by unfold sg; rw [hc]; rfl
  rcases Nat.eq_zero_or_pos k with h0 | h0
  · subst h0
    rw [List.take_zero, hs] at h
    have : decS 0 [] = 0 := rfl
    omega
  · have h1 := dec_some h0 hk hl
    obtain ⟨v, e, h2, h3⟩ := decS_ex (sg c) (c.take k)
    rw [hs] at e
    rw [hs] at h h1
    omega
set_option maxRecDepth 10000 in
set_option maxHeartbeats 3200000 in
theorem rTAt_low {w : Int} {a : Option Addr} {n c b m i : Nat} {l : List Int} {s : ByteArray} (W : World) (hl : Sl W a n l) (hs : s.size ≤ 1000000) (hM : MayT w l s b m) (hi : i < m) (hsg : sgB (cut s b i) = true) :
    Calls Tryd.prog 17 #[.agg #[.int .i64 w, .slice a n c, .string s], .int .i64 i] W (AtEnd (el s b i) true W) := by
  have hA := Tx.new 33 W w a n c s
  have hb0 := box_below W (.cells #[.int .i64 w, .slice a n c, .string s] 33)
  have KY := fun w' (hb : Below W.heap.size W w') => rTMay_is (w := w) (c := c) (s := s) w' (hl.below hb) hs
  rw [hM.yes] at KY
  have KM := fun w' (hb : Below W.heap.size W w') => rTMany_is (w := w) (c := c) (s := s) w' (hl.below hb) hs
  rw [hM.tm] at KM
  replace KY := Lib.hid KY
  replace KM := Lib.hid KM
  have hsz := hM.sz
  have hm := hM.le
  obtain ⟨h1, h8, hw8, hwd⟩ := hM.bw.le
  have hw0 : 0 ≤ w := by omega
  have hwt : w.tdiv 8 = b := by rw [Int.tdiv_eq_ediv_of_nonneg hw0]; exact hwd
  have hc := cut_extract s b i
  have hcl := cut_len (s := s) (b := b) hsz hi
  have hse : (s.extract (i * b) ((i + 1) * b)).size = b := (size_list _).trans (by rw [hc]; exact hcl)
  have hI64 : I64 (el s b i) := (el_fit hM.bw hsz hi).i64 hM.bw
  have hle : (i + 1) * b ≤ m * b := Nat.mul_le_mul_right _ hi
  have hmb : m * b ≤ 4096 * 8 := Nat.mul_le_mul hm h8
  have hib : (i + 1) * b = i * b + b := by rw [Nat.add_mul, Nat.one_mul]
  have hwr1 := mul_wrap (m := i) (b := b) (by omega) h8
  have hwr2 := mul_wrap (m := i + 1) (b := b) (by omega) h8
  rw [Int.natCast_add, show ((1 : Nat) : Int) = 1 from rfl] at hwr2
  rw [hsz.symm] at hle hmb
  have HV := Lib.hid (show el s b i = decS (sg (cut s b i)) (cut s b i) from rfl)
  have HI := Lib.hid hI64
  generalize el s b i = v at HV HI ⊢
  have e1 : ¬ (i : Int) < 0 := by omega
  have e2 : ¬ (m : Int) ≤ (i : Int) := by omega
  clear hl hM hw8 hI64 hs
  generalize cut s b i = ct at hc hcl HV hsg
  generalize i * b = p at *
  generalize (i + 1) * b = q at *
  subst hib
  rw [Int.natCast_add] at hwr2
  obtain ⟨s', hs'⟩ : ∃ s', s.extract p (p + b) = s' := ⟨_, rfl⟩
  rw [hs'] at hc hse
  subst hc
  have KL := low_is s'
  rw [hsg] at KL
  replace KL := Lib.hid KL
  have HSG := Lib.hid hsg
  have HEX := Lib.hid hs'
  have HCL := Lib.hid hcl
  clear hsg hcl hsz hs'
  go_enter Tryd.func17, Tryd.ntmps17
  go_wp2_with fail
  refine (KY.out _ hb0).mono ?_
  rintro e w1 ⟨rfl, hb⟩
  have hA1 := hA.on hb
  have hb1 := hb0.trans (hb.mono hb0.size)
  have x0 := hA1.c0
  have x1 := hA1.c1
  have x2 := hA1.c2
  clear hA hb0 hb
  go_wp2_with fail
  refine (KM.out _ hb1).mono ?_
  rintro e w2 ⟨rfl, hb⟩
  have hA2 := hA1.on hb
  have hb2 := hb1.trans (hb.mono hb1.size)
  clear hA1 hb1 hb x0 x1 x2
  have x0 := hA2.c0
  have x2 := hA2.c2
  go_wp2_with fail
  rename_i hgd _ _
  clear hgd hwr1 hwr2 x0 x2 hA2 hi e1 e2
  rw [HEX.out]
  go_loopw [8, 9] (fun nv kv wr => ∃ (k : Nat) (z : Int), kv = .int .i64 k ∧ k ≤ b ∧ nv = .int .i64 z ∧ Hid (AtInv s'.data.toList k z) ∧ Below W.heap.size W wr) (fun _ kv _ => b - (intOf kv).toNat)
  case atStart => exact ⟨0, 0, rfl, by omega, rfl, Lib.hid (AtInv.start _), hb2⟩
  case round =>
    obtain ⟨k, z, rfl, hk, rfl, HZ, hbz⟩ := hrel
    clear hb2
    by_cases hlt : k < b
    · have e3 : (k : Int) < (b : Int) := by omega
      have hks : k < s'.size := by omega
      obtain ⟨hz0, hz1⟩ := HZ.out.lowB HSG.out (by omega) (by rw [HCL.out]; omega)
      have HN := Lib.hid (HZ.out.low HSG.out (by rw [HCL.out]; exact hlt))
      have hcb := u8_lt s'[k]
      have hcb0 : (0 : Int) ≤ (s'[k].toNat : Int) := by omega
      go_wp2_with fail
      refine (KL.out _).mono ?_
      rintro e w3 ⟨rfl, rfl⟩
      go_wp2_with fail
      go_roundw
      case rel => exact ⟨k + 1, _, by go_num, by omega, rfl, HN, hbz⟩
      case measure => simp [intOf]; omega
    · have e3 : ¬ (k : Int) < (b : Int) := by omega
      obtain rfl : k = b := by omega
      have hz : z = v + 1 := by
        have h := HZ.out
        unfold AtInv at h
        rw [HSG.out, List.take_of_length_le (by rw [HCL.out]; exact Nat.le_refl _), ← HV.out] at h
        exact h
      have hv0 := HI.out.1
      have hv1 := HI.out.2
      subst hz
      go_wp2_with fail
      refine (KL.out _).mono ?_
      rintro e w3 ⟨rfl, rfl⟩
      go_wp2_with fail
      go_ret2
      exact ⟨by simp, hbz⟩
set_option maxRecDepth 10000 in
set_option maxHeartbeats 3200000 in
theorem rTAt_high {w : Int} {a : Option Addr} {n c b m i : Nat} {l : List Int} {s : ByteArray} (W : World) (hl : Sl W a n l) (hs : s.size ≤ 1000000) (hM : MayT w l s b m) (hi : i < m) (hsg : sgB (cut s b i) = false) :
    Calls Tryd.prog 17 #[.agg #[.int .i64 w, .slice a n c, .string s], .int .i64 i] W (AtEnd (el s b i) true W) := by
  have hA := Tx.new 33 W w a n c s
  have hb0 := box_below W (.cells #[.int .i64 w, .slice a n c, .string s] 33)
  have KY := fun w' (hb : Below W.heap.size W w') => rTMay_is (w := w) (c := c) (s := s) w' (hl.below hb) hs
  rw [hM.yes] at KY
  have KM := fun w' (hb : Below W.heap.size W w') => rTMany_is (w := w) (c := c) (s := s) w' (hl.below hb) hs
  rw [hM.tm] at KM
  replace KY := Lib.hid KY
  replace KM := Lib.hid KM
  have hsz := hM.sz
  have hm := hM.le
  obtain ⟨h1, h8, hw8, hwd⟩ := hM.bw.le
  have hw0 : 0 ≤ w := by omega
  have hwt : w.tdiv 8 = b := by rw [Int.tdiv_eq_ediv_of_nonneg hw0]; exact hwd
  have hc := cut_extract s b i
  have hcl := cut_len (s := s) (b := b) hsz hi
  have hse : (s.extract (i * b) ((i + 1) * b)).size = b := (size_list _).trans (by rw [hc]; exact hcl)
  have hI64 : I64 (el s b i) := (el_fit hM.bw hsz hi).i64 hM.bw
  have hle : (i + 1) * b ≤ m * b := Nat.mul_le_mul_right _ hi
  have hmb : m * b ≤ 4096 * 8 := Nat.mul_le_mul hm h8
  have hib : (i + 1) * b = i * b + b := by rw [Nat.add_mul, Nat.one_mul]
  have hwr1 := mul_wrap (m := i) (b := b) (by omega) h8
  have hwr2 := mul_wrap (m := i + 1) (b := b) (by omega) h8
  rw [Int.natCast_add, show ((1 : Nat) : Int) = 1 from rfl] at hwr2
  rw [hsz.symm] at hle hmb
  have HV := Lib.hid (show el s b i = decS (sg (cut s b i)) (cut s b i) from rfl)
  have HI := Lib.hid hI64
  generalize el s b i = v at HV HI ⊢
  have e1 : ¬ (i : Int) < 0 := by omega
  have e2 : ¬ (m : Int) ≤ (i : Int) := by omega
  clear hl hM hw8 hI64 hs
  generalize cut s b i = ct at hc hcl HV hsg
  generalize i * b = p at *
  generalize (i + 1) * b = q at *
  subst hib
  rw [Int.natCast_add] at hwr2
  obtain ⟨s', hs'⟩ : ∃ s', s.extract p (p + b) = s' := ⟨_, rfl⟩
  rw [hs'] at hc hse
  subst hc
  have KL := low_is s'
  rw [hsg] at KL
  replace KL := Lib.hid KL
  have HSG := Lib.hid hsg
  have HEX := Lib.hid hs'
  have HCL := Lib.hid hcl
  clear hsg hcl hsz hs'
  go_enter Tryd.func17, Tryd.ntmps17
  go_wp2_with fail
  refine (KY.out _ hb0).mono ?_
  rintro e w1 ⟨rfl, hb⟩
  have hA1 := hA.on hb
  have hb1 := hb0.trans (hb.mono hb0.size)
  have x0 := hA1.c0
  have x1 := hA1.c1
  have x2 := hA1.c2
  clear hA hb0 hb
  go_wp2_with fail
  refine (KM.out _ hb1).mono ?_
  rintro e w2 ⟨rfl, hb⟩
  have hA2 := hA1.on hb
  have hb2 := hb1.trans (hb.mono hb1.size)
  clear hA1 hb1 hb x0 x1 x2
  have x0 := hA2.c0
  have x2 := hA2.c2
  go_wp2_with fail
  rename_i hgd _ _
  clear hgd hwr1 hwr2 x0 x2 hA2 hi e1 e2
  rw [HEX.out]
  go_loopw [8, 9] (fun nv kv wr => ∃ (k : Nat) (z : Int), kv = .int .i64 k ∧ k ≤ b ∧ nv = .int .i64 z ∧ Hid (AtInv s'.data.toList k z) ∧ Below W.heap.size W wr) (fun _ kv _ => b - (intOf kv).toNat)
  case atStart => exact ⟨0, 0, rfl, by omega, rfl, Lib.hid (AtInv.start _), hb2⟩
  case round =>
    obtain ⟨k, z, rfl, hk, rfl, HZ, hbz⟩ := hrel
    clear hb2
    by_cases hlt : k < b
    · have e3 : (k : Int) < (b : Int) := by omega
      have hks : k < s'.size := by omega
      obtain ⟨hz0, hz1⟩ := HZ.out.highB HSG.out (by omega) (by rw [HCL.out]; omega)
      have HN := Lib.hid (HZ.out.high HSG.out (by rw [HCL.out]; exact hlt))
      have hcb := u8_lt s'[k]
      have hcb0 : (0 : Int) ≤ (s'[k].toNat : Int) := by omega
      go_wp2_with fail
      refine (KL.out _).mono ?_
      rintro e w3 ⟨rfl, rfl⟩
      go_wp2_with fail
      go_roundw
      case rel => exact ⟨k + 1, _, by go_num, by omega, rfl, HN, hbz⟩
      case measure => simp [intOf]; omega
    · have e3 : ¬ (k : Int) < (b : Int) := by omega
      obtain rfl : k = b := by omega
      have hz : z = v + 0 := by
        have h := HZ.out
        unfold AtInv at h
        rw [HSG.out, List.take_of_length_le (by rw [HCL.out]; exact Nat.le_refl _), ← HV.out] at h
        exact h
      have hv0 := HI.out.1
      have hv1 := HI.out.2
      subst hz
      go_wp2_with fail
      refine (KL.out _).mono ?_
      rintro e w3 ⟨rfl, rfl⟩
      go_wp2_with fail
      go_ret2
      exact ⟨by simp, hbz⟩
theorem rTAt_yes {w : Int} {a : Option Addr} {n c b m i : Nat} {l : List Int} {s : ByteArray} (W : World) (hl : Sl W a n l) (hs : s.size ≤ 1000000) (hM : MayT w l s b m) (hi : i < m) :
    Calls Tryd.prog 17 #[.agg #[.int .i64 w, .slice a n c, .string s], .int .i64 i] W (AtEnd (el s b i) true W) := by
  rcases Bool.eq_false_or_eq_true (sgB (cut s b i)) with h | h
  · exact rTAt_low W hl hs hM hi h
  · exact rTAt_high W hl hs hM hi h
end Go.Proofs.YtdehcdnbalbdbaaDoor

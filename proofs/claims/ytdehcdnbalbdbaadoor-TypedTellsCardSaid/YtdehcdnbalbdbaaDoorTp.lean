/-
  The reference's typed arrays: known, low, floor, put, May, Many, At, by their contracts.
-/
import Derived.Test.YtdehcdnbalbdbaaDoorTj
namespace Go.Proofs.YtdehcdnbalbdbaaDoor
open Go.RowKit

set_option maxRecDepth 10000 in
theorem known_is (w : Int) (W : World) : Calls Tryd.prog 44 #[.int .i64 w] W fun e W' => e = .returned (.bool (isW w)) ∧ W = W' := by
  have HI := Lib.hid (show isW w = decide (w = 8 ∨ w = 16 ∨ w = 32 ∨ w = 64) from rfl)
  generalize isW w = v at HI ⊢
  by_cases h1 : w = 8
  · obtain rfl : v = true := HI.out.trans (decide_eq_true (by omega))
    subst h1
    go_enter Tryd.func44, Tryd.ntmps44
    go_wp2_with fail
    go_ret
    exact ⟨rfl, rfl⟩
  by_cases h2 : w = 16
  · obtain rfl : v = true := HI.out.trans (decide_eq_true (by omega))
    subst h2
    go_enter Tryd.func44, Tryd.ntmps44
    go_wp2_with fail
    go_ret
    exact ⟨rfl, rfl⟩
  by_cases h3 : w = 32
  · obtain rfl : v = true := HI.out.trans (decide_eq_true (by omega))
    subst h3
    go_enter Tryd.func44, Tryd.ntmps44
    go_wp2_with fail
    go_ret
    exact ⟨rfl, rfl⟩
  by_cases h4 : w = 64
  · obtain rfl : v = true := HI.out.trans (decide_eq_true (by omega))
    subst h4
    go_enter Tryd.func44, Tryd.ntmps44
    go_wp2_with fail
    go_ret
    exact ⟨rfl, rfl⟩
  · obtain rfl : v = false := HI.out.trans (decide_eq_false (by omega))
    clear HI
    have e1 : (w == 8) = false := beq_eq_false_iff_ne.2 h1
    have e2 : (w == 16) = false := beq_eq_false_iff_ne.2 h2
    have e3 : (w == 32) = false := beq_eq_false_iff_ne.2 h3
    have e4 : (w == 64) = false := beq_eq_false_iff_ne.2 h4
    go_enter Tryd.func44, Tryd.ntmps44
    go_wp2_with fail
    go_ret
    exact ⟨rfl, rfl⟩
theorem sgB_head {s : ByteArray} (h : 0 < s.size) : sgB s.data.toList = decide (128 ≤ s[0].toNat) := by
  unfold sgB
  have hl : 0 < s.data.toList.length := by simpa using h
  cases hd : s.data.toList with
  | nil => rw [hd] at hl; simp at hl
  | cons a r =>
    have : s.data.toList[0]'hl = s[0] := rfl
    simp only [hd, List.getElem_cons_zero] at this
    rw [← this]; rfl
set_option maxRecDepth 10000 in
theorem low_is (s : ByteArray) (W : World) : Calls Tryd.prog 39 #[.string s] W fun e W' => e = .returned (.bool (sgB s.data.toList)) ∧ W = W' := by
  by_cases h : 0 < s.size
  · have hne : s.toList.isEmpty = false := by
      rw [str_tl]
      have hl : 0 < s.data.toList.length := by simpa using h
      cases hd : s.data.toList with
      | nil => rw [hd] at hl; simp at hl
      | cons a r => rfl
    rw [sgB_head h]
    have hc := u8_lt s[0]
    go_enter Tryd.func39, Tryd.ntmps39
    go_wp2_with fail
    go_ret
    refine ⟨?_, rfl⟩
    show Ending.returned (.bool (decide ((128 : Int) ≤ (s[0].toNat : Int)))) = _
    rw [show decide ((128 : Int) ≤ (s[0].toNat : Int)) = decide (128 ≤ s[0].toNat) from decide_eq_decide.2 (by omega)]
  · have hz : s = ⟨#[]⟩ := by
      apply ByteArray.ext
      have : s.data.size = 0 := by have : s.size = s.data.size := rfl; omega
      exact Array.eq_empty_of_size_eq_zero this
    subst hz
    go_enter Tryd.func39, Tryd.ntmps39
    go_wp2_with fail
    go_ret
    exact ⟨rfl, rfl⟩
theorem tdiv_below {x : Int} (h : x < 0) : x.tdiv 256 = -(-x / 256) ∧ x.tmod 256 = -(-x % 256) := by
  have e1 := Int.neg_tdiv (a := -x) (b := 256)
  have e2 := Int.neg_tmod (-x) 256
  rw [Int.neg_neg, Int.tdiv_eq_ediv_of_nonneg (a := -x) (by omega)] at e1
  rw [Int.neg_neg, Int.tmod_eq_emod_of_nonneg (a := -x) (by omega)] at e2
  exact ⟨e1, e2⟩
set_option maxRecDepth 10000 in
theorem floor_is (x : Int) (hx : I64 x) (W : World) : Calls Tryd.prog 73 #[.int .i64 x] W fun e W' => e = .returned (.int .i64 (x / 256)) ∧ W = W' := by
  obtain ⟨h0, h1⟩ := hx
  by_cases hn : x < 0
  · obtain ⟨d, hd⟩ : ∃ d, x.tdiv 256 = d := ⟨_, rfl⟩
    obtain ⟨r, hr⟩ : ∃ r, x.tmod 256 = r := ⟨_, rfl⟩
    obtain ⟨h2, h3⟩ := tdiv_below hn
    rw [hd] at h2
    rw [hr] at h3
    have hd1 : -9223372036854775000 ≤ d := by omega
    have hd2 : d ≤ 0 := by omega
    have ht : r = 0 ∧ d = x / 256 ∨ r ≠ 0 ∧ d - 1 = x / 256 := by omega
    clear h2 h3
    rcases ht with ⟨e1, e2⟩ | ⟨e1, e2⟩
    · have e3 : (r != 0) = false := by rw [e1]; rfl
      have HE := Lib.hid e2
      clear e2
      generalize x / 256 = q at HE ⊢
      go_enter Tryd.func73, Tryd.ntmps73
      go_wp2_with fail
      go_ret
      exact ⟨by rw [← HE.out]; rfl, rfl⟩
    · have e3 : (r != 0) = true := bne_iff_ne.2 e1
      have HE := Lib.hid e2
      clear e2
      generalize x / 256 = q at HE ⊢
      go_enter Tryd.func73, Tryd.ntmps73
      go_wp2_with fail
      go_ret
      exact ⟨by rw [← HE.out]; rfl, rfl⟩
  · have hp : 0 ≤ x := by omega
    go_enter Tryd.func73, Tryd.ntmps73
    go_wp2_with fail
    go_ret
    exact ⟨rfl, rfl⟩
theorem enc_cons : ∀ (i : Nat) (x : Int), enc (i + 1) x = dg (x / 256 ^ i) :: enc i x
  | 0, x => by simp [enc]
  | i + 1, x => by
    rw [enc, enc_cons i, enc, List.cons_append, Int.ediv_ediv_of_nonneg (by decide), show (256 : Int) * 256 ^ i = 256 ^ (i + 1) by rw [Int.pow_succ]; exact Int.mul_comm _ _]
theorem pow_step (x : Int) (i : Nat) : x / 256 ^ i / 256 = x / 256 ^ (i + 1) := by
  rw [Int.ediv_ediv_of_nonneg (Int.pow_nonneg (by decide)), Int.pow_succ]
theorem div_i64 {x y : Int} (hx : I64 x) (h : y = x / 256) : I64 y := by unfold I64 at hx ⊢; omega
set_option maxRecDepth 10000 in
set_option maxHeartbeats 1600000 in
theorem put_is (x : Int) (b : Nat) (hx : I64 x) (hb : b ≤ 8) (W : World) : Calls Tryd.prog 59 #[.int .i64 x, .int .i64 b] W (StrEnd (B (enc b x)) W) := by
  have HX := Lib.hid hx
  clear hx
  go_enter Tryd.func59, Tryd.ntmps59
  go_wp2_with fail
  go_loopw [0, 5, 6] (fun xv sv iv wr => ∃ (k : Nat) (y : Int), iv = .int .i64 k ∧ k ≤ b ∧ xv = .int .i64 y ∧ Hid (y = x / 256 ^ k ∧ I64 y) ∧ sv = .string (B (enc k x)) ∧ Below W.heap.size W wr) (fun _ _ iv _ => b - (intOf iv).toNat)
  case atStart => exact ⟨0, x, rfl, by omega, rfl, Lib.hid ⟨by simp, HX.out⟩, rfl, Below.refl _ _⟩
  case round =>
    obtain ⟨k, y, rfl, hk, rfl, HY, rfl, hbel⟩ := hrel
    by_cases hlt : k < b
    · have e2 : (k : Int) < (b : Int) := by omega
      obtain ⟨z, hz⟩ : ∃ z, z = y % 256 := ⟨_, rfl⟩
      have hz0 : 0 ≤ z := by omega
      have hz1 : z < 256 := by omega
      have hzd : z = ((dg y).toNat : Int) := by rw [hz, dg_nat]
      have hcv := conv_one wr (dg y) z hzd
      have hd1 : (B [dg y]).size = 1 := B_size _
      have hd2 : (B (enc k x)).size ≤ 8 := by rw [B_size, enc_len]; omega
      have HC := Lib.hid (show B [dg y] ++ B (enc k x) = B (enc (k + 1) x) by rw [B_append, enc_cons, HY.out.1]; rfl)
      have KFl := Lib.hid (fun w => floor_is y HY.out.2 w)
      have HY2 : Hid (y / 256 = x / 256 ^ (k + 1) ∧ I64 (y / 256)) := Lib.hid ⟨by rw [HY.out.1, pow_step], div_i64 HY.out.2 rfl⟩
      obtain ⟨m, hm⟩ : ∃ m, y.tmod 256 = m := ⟨_, rfl⟩
      have hy1 := HY.out.2.1
      have hy2 := HY.out.2.2
      by_cases hn : m < 0
      · have hmz : m + 256 = z := by
          by_cases hy0 : y < 0
          · have e := (tdiv_below hy0).2
            rw [hm] at e
            omega
          · rw [Int.tmod_eq_emod_of_nonneg (by omega)] at hm
            omega
        have hwz : IntKind.u8.wrap z = z := IntWalk.u8_in _ (by omega)
        clear hz hzd
        generalize B [dg y] = d at *
        generalize B (enc k x) = s at *
        go_wp2_with fail
        refine (KFl.out _).mono ?_
        rintro e w2 ⟨rfl, rfl⟩
        go_wp2_with fail
        go_roundw
        case rel => exact ⟨k + 1, _, by go_num, by omega, rfl, HY2, congrArg Value.string HC.out, hbel.alloc hbel.size _⟩
        case measure => simp [intOf]; omega
      · have hmz : m = z := by
          by_cases hy0 : y < 0
          · have e := (tdiv_below hy0).2
            rw [hm] at e
            omega
          · rw [Int.tmod_eq_emod_of_nonneg (by omega)] at hm
            omega
        subst hmz
        have hwz : IntKind.u8.wrap m = m := IntWalk.u8_in _ (by omega)
        clear hz hzd
        generalize B [dg y] = d at *
        generalize B (enc k x) = s at *
        go_wp2_with fail
        refine (KFl.out _).mono ?_
        rintro e w2 ⟨rfl, rfl⟩
        go_wp2_with fail
        go_roundw
        case rel => exact ⟨k + 1, _, by go_num, by omega, rfl, HY2, congrArg Value.string HC.out, hbel.alloc hbel.size _⟩
        case measure => simp [intOf]; omega
    · have e2 : ¬ (k : Int) < (b : Int) := by omega
      obtain rfl : k = b := by omega
      go_wp2_with fail
      go_ret
      exact ⟨rfl, hbel⟩
end Go.Proofs.YtdehcdnbalbdbaaDoor

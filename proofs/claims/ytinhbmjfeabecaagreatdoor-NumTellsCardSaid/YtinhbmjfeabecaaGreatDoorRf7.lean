import Derived.Test.YtinhbmjfeabecaaGreatDoorRf6
import Derived.Test.YtinhbmjfeabecaaGreatDoorWi
namespace Go.Proofs.YtinhbmjfeabecaaGreatDoor
open Go.RowKit

def RIntIs (s : ByteArray) (x : Int) (v : Bool) : Prop := ∀ w, Calls Tryz.prog 7 #[.string s] w fun e w' => e = .returned (.tuple #[.int .i64 x, .bool v]) ∧ Below w.heap.size w w'
theorem S_max : S 9223372036854775807 = ⟨#[57, 50, 50, 51, 51, 55, 50, 48, 51, 54, 56, 53, 52, 55, 55, 53, 56, 48, 55]⟩ :=
  S_lit (l := [57, 50, 50, 51, 51, 55, 50, 48, 51, 54, 56, 53, 52, 55, 55, 53, 56, 48, 55]) (n := 9223372036854775807) rfl (by unfold AllDig; decide) ⟨_, _, rfl, by decide⟩
theorem S_min : S (-9223372036854775808) = ⟨#[45, 57, 50, 50, 51, 51, 55, 50, 48, 51, 54, 56, 53, 52, 55, 55, 53, 56, 48, 56]⟩ :=
  S_nlit (l := [57, 50, 50, 51, 51, 55, 50, 48, 51, 54, 56, 53, 52, 55, 55, 53, 56, 48, 56]) (n := 9223372036854775808) rfl (by decide) (by unfold AllDig; decide) ⟨_, _, rfl, by decide⟩
theorem max_lim : (9223372036854775807 : Int).natAbs < lim := i64_lim0 (by decide)
theorem min_lim : (-9223372036854775808 : Int).natAbs < lim := i64_lim0 (by decide)
set_option maxRecDepth 10000 in
theorem rint_no {s : ByteArray} (h : RMayIs s false) : RIntIs s 0 false := by
  intro w
  have KM := Lib.hid h
  clear h
  go_enter Tryz.func7, Tryz.ntmps7
  go_wp2_with fail
  refine (KM.out _).mono ?_
  rintro e w1 ⟨rfl, rfl⟩
  go_wp2_with fail
  go_ret2
  exact ⟨rfl, Below.refl _ _⟩
set_option maxRecDepth 10000 in
theorem rint_over {x : Int} (h : ¬ I64 x) (hl : x.natAbs < lim) : RIntIs (S x) 0 false := by
  intro w
  have KM := Lib.hid (rMay_S hl)
  have c1 := rcmp_S hl max_lim
  have c2 := rcmp_S hl min_lim
  rw [S_max] at c1
  rw [S_min] at c2
  unfold RCmpIs IntEnd at c1 c2
  by_cases h0 : 9223372036854775807 < x
  · rw [Int.sign_eq_one_of_pos (by omega)] at c1
    have K1 := Lib.hid c1
    clear c1 c2
    generalize S x = s at *
    go_enter Tryz.func7, Tryz.ntmps7
    go_wp2_with fail
    refine (KM.out _).mono ?_
    rintro e w1 ⟨rfl, rfl⟩
    go_wp2_with fail
    refine (K1.out _).mono ?_
    rintro e w1 ⟨rfl, hb⟩
    go_wp2_with fail
    go_ret2
    exact ⟨rfl, hb⟩
  · have hs : (x - 9223372036854775807).sign = -1 ∨ (x - 9223372036854775807).sign = 0 := by
      rcases Int.lt_or_eq_of_le (show x ≤ 9223372036854775807 by omega) with h1 | h1
      · exact .inl (Int.sign_eq_neg_one_of_neg (by omega))
      · exact .inr (by rw [h1]; rfl)
    rw [Int.sign_eq_neg_one_of_neg (a := x - -9223372036854775808) (by unfold I64 at h; omega)] at c2
    have K2 := Lib.hid c2
    rcases hs with hs | hs
    all_goals
      rw [hs] at c1
      have K1 := Lib.hid c1
      clear c1 c2
      generalize S x = s at *
      go_enter Tryz.func7, Tryz.ntmps7
      go_wp2_with fail
      refine (KM.out _).mono ?_
      rintro e w1 ⟨rfl, rfl⟩
      go_wp2_with fail
      refine (K1.out _).mono ?_
      rintro e w1 ⟨rfl, hb⟩
      go_wp2_with fail
      refine (K2.out _).mono ?_
      rintro e w2 ⟨rfl, hb2⟩
      go_wp2_with fail
      go_ret2
      exact ⟨rfl, hb.trans (hb2.mono hb.size)⟩
def RSizeIs (s f : ByteArray) : Prop := ∀ w, Calls Tryz.prog 22 #[.string s] w fun e w' => e = .returned (.string f) ∧ w = w'
def RLowIs (s : ByteArray) (b : Bool) : Prop := ∀ w, Calls Tryz.prog 23 #[.string s] w fun e w' => e = .returned (.bool b) ∧ w = w'
theorem dig_val {l : List UInt8} (hd : AllDig l) {k : Nat} (hk : k < l.length) : ∃ D : Nat, D < 10 ∧ (l[k]).toNat = 48 + D ∧ dval (l.take (k + 1)) = dval (l.take k) * 10 + D := by
  have h1 := hd _ (List.getElem_mem hk)
  refine ⟨(l[k]).toNat - 48, by omega, by omega, ?_⟩
  rw [dval_take_succ hk]
set_option maxRecDepth 10000 in
set_option maxHeartbeats 1600000 in
theorem rint_loop (s f : ByteArray) (b : Bool) (z1 z2 : Int) (hd : AllDig f.data.toList) (hf : f.size ≤ 1000) (hv : dval f.data.toList ≤ 9223372036854775807 ∨ b = true ∧ dval f.data.toList ≤ 9223372036854775808) (hz1 : z1 ≤ 0) (hz2 : 0 ≤ z2)
    (HM : RMayIs s true) (HS : RSizeIs s f) (HL : RLowIs s b) (C1 : RCmpIs s ⟨#[57, 50, 50, 51, 51, 55, 50, 48, 51, 54, 56, 53, 52, 55, 55, 53, 56, 48, 55]⟩ z1) (C2 : RCmpIs s ⟨#[45, 57, 50, 50, 51, 51, 55, 50, 48, 51, 54, 56, 53, 52, 55, 55, 53, 56, 48, 56]⟩ z2) :
    RIntIs s (sgn b (dval f.data.toList)) true := by
  intro w
  unfold RCmpIs IntEnd at C1 C2
  have KM := Lib.hid HM
  have KS := Lib.hid HS
  have KL := Lib.hid HL
  have K1 := Lib.hid C1
  have K2 := Lib.hid C2
  have KD := Lib.hid hd
  have KV := Lib.hid hv
  have z1' : ¬ 0 < z1 := by omega
  have z2' : ¬ z2 < 0 := by omega
  clear HM HS HL C1 C2 hd hv hz1 hz2
  have hfl : f.data.toList.length = f.size := by simp
  go_enter Tryz.func7, Tryz.ntmps7
  go_wp2_with fail
  refine (KM.out _).mono ?_
  rintro e w1 ⟨rfl, rfl⟩
  go_wp2_with fail
  refine (K1.out _).mono ?_
  rintro e w1 ⟨rfl, hb1⟩
  go_wp2_with fail
  refine (K2.out _).mono ?_
  rintro e w2 ⟨rfl, hb2⟩
  have hb := hb1.trans (hb2.mono hb1.size)
  clear hb1 hb2
  go_wp2_with fail
  go_loop [4, 5] (fun nv iv => ∃ i : Nat, i ≤ f.size ∧ iv = .int .i64 i ∧ nv = .int .i64 (sgn b (dval (f.data.toList.take i)))) (fun _ iv => f.size - (intOf iv).toNat)
  case atStart => exact ⟨0, Nat.zero_le _, rfl, by cases b <;> rfl⟩
  case round =>
    obtain ⟨i, hi, rfl, rfl⟩ := hrel
    by_cases hlt : i < f.size
    · obtain ⟨D, hD, hfk, hst⟩ := dig_val KD.out (k := i) (by omega)
      have hle := dval_take_le f.data.toList (i + 1)
      have hv := KV.out
      have hfk2 : (f[i]'hlt).toNat = 48 + D := hfk
      obtain ⟨N, hN⟩ : ∃ N, dval (f.data.toList.take i) = N := ⟨_, rfl⟩
      obtain ⟨M, hM⟩ : ∃ M, dval (f.data.toList.take (i + 1)) = M := ⟨_, rfl⟩
      rw [hN, hM] at hst
      rw [hM] at hle
      rw [hN]
      have KM2 := Lib.hid hM
      clear hfk hN hM
      have hb1 : 10 * N + D ≤ 9223372036854775808 := by omega
      cases b
      · have hb2 : 10 * N + D ≤ 9223372036854775807 := by
          rcases hv with hv | hv
          · omega
          · exact absurd hv.1 (by decide)
        have hs1 : sgn false N = (N : Int) := rfl
        rw [hs1]
        clear hv
        go_wp2_with fail
        refine (KS.out _).mono ?_
        rintro e w3 ⟨rfl, rfl⟩
        go_wp2_with fail
        refine (KS.out _).mono ?_
        rintro e w3 ⟨rfl, rfl⟩
        go_wp2_with fail
        refine (KL.out _).mono ?_
        rintro e w3 ⟨rfl, rfl⟩
        go_wp2_with fail
        go_round
        case rel =>
          refine ⟨i + 1, by omega, by go_num, congrArg (Value.int .i64) ?_⟩
          rw [KM2.out]
          show _ = (M : Int)
          omega
        case measure => simp [intOf]; omega
      · have hs1 : sgn true N = -(N : Int) := rfl
        rw [hs1]
        clear hv
        go_wp2_with fail
        refine (KS.out _).mono ?_
        rintro e w3 ⟨rfl, rfl⟩
        go_wp2_with fail
        refine (KS.out _).mono ?_
        rintro e w3 ⟨rfl, rfl⟩
        go_wp2_with fail
        refine (KL.out _).mono ?_
        rintro e w3 ⟨rfl, rfl⟩
        go_wp2_with fail
        go_round
        case rel =>
          refine ⟨i + 1, by omega, by go_num, congrArg (Value.int .i64) ?_⟩
          rw [KM2.out]
          show _ = -(M : Int)
          omega
        case measure => simp [intOf]; omega
    · have he : dval (f.data.toList.take i) = dval f.data.toList := by rw [List.take_of_length_le (by omega)]
      rw [he]
      go_wp2_with fail
      refine (KS.out _).mono ?_
      rintro e w3 ⟨rfl, rfl⟩
      go_wp2_with fail
      go_ret2
      exact ⟨rfl, hb⟩
theorem rint_in {x : Int} (h : I64 x) : RIntIs (S x) x true := by
  have hl := i64_lim0 h
  have hx := h
  unfold I64 at hx
  have hv := dval_decDigits x.natAbs
  have hlen := (digs_lim _).2 hl
  have e0 : sgn (decide (x < 0)) x.natAbs = x := by
    unfold sgn
    by_cases h0 : x < 0
    · rw [if_pos (decide_eq_true h0)]; omega
    · rw [if_neg (by rw [decide_eq_true_iff]; exact h0)]; omega
  have c1 := rcmp_S hl max_lim
  have c2 := rcmp_S hl min_lim
  rw [S_max] at c1
  rw [S_min] at c2
  have R := rint_loop (S x) (B (Lib.decDigits x.natAbs)) (decide (x < 0)) _ _ (by rw [B_list]; exact decDigits_dig _) (by rw [B_size]; omega)
    (by rw [B_list, hv]
        by_cases h0 : x < 0
        · exact .inr ⟨decide_eq_true h0, by omega⟩
        · exact .inl (by omega))
    (by rcases Int.lt_or_eq_of_le hx.2 with h1 | h1
        · rw [Int.sign_eq_neg_one_of_neg (by omega)]; decide
        · rw [h1]; decide)
    (by rcases Int.lt_or_eq_of_le hx.1 with h1 | h1
        · rw [Int.sign_eq_one_of_pos (by omega)]; decide
        · rw [← h1]; decide)
    (rMay_S hl) (rsize_S x (Nat.le_trans hlen (by decide))) (rlow_S x) c1 c2
  rwa [B_list, hv, e0] at R
theorem rInt_opt {s : ByteArray} {o : Option Int} (h : Is s o) : RIntIs s (intO o).1 (intO o).2 := by
  cases o with
  | none => exact rint_no (rMay_is h)
  | some x =>
    unfold intO
    dsimp only
    by_cases hi : I64 x
    · rw [if_pos hi, h.1]; exact rint_in hi
    · rw [if_neg hi, h.1]; exact rint_over hi h.2
end Go.Proofs.YtinhbmjfeabecaaGreatDoor

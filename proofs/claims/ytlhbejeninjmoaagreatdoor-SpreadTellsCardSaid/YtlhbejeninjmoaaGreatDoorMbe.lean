import Derived.Test.YtlhbejeninjmoaaGreatDoorMbd
import Derived.Test.YtlhbejeninjmoaaGreatDoorMam
/-
  The reference's Div and Mod; joined by shake.py, minus.py out of Rf4 and Divides.
-/
namespace Go.Proofs.YtlhbejeninjmoaaGreatDoor
set_option linter.unusedVariables false
set_option linter.unusedSimpArgs false
section
open Go.RowKit
theorem extract_one {l : List UInt8} {i : Nat} (h : i < l.length) : (B l).extract i (i + 1) = B [l[i]] := by
  apply ba_ext
  rw [extract_toList, B_list, B_list, List.take_succ_eq_append_getElem h, List.drop_append_of_le_length (by simp; omega)]
  simp
def PartsPost (q r : Nat) (w : World) (e : Ending) (w' : World) : Prop := e = .returned (.tuple #[.string (B (Lib.decDigits q)), .string (B (Lib.decDigits r))]) ∧ Below w.heap.size w w'
set_option maxRecDepth 10000 in
set_option maxHeartbeats 1600000 in
theorem rparts_any (x y : Nat) (hy0 : 0 < y) (hx : (Lib.decDigits x).length ≤ 200) (hy : (Lib.decDigits y).length ≤ 200) (w : World) :
    Calls Tryz.prog 111 #[.string (B (Lib.decDigits x)), .string (B (Lib.decDigits y))] w (PartsPost (x / y) (x % y) w) := by
  have hlen : ∀ r, r < y → (Lib.decDigits r).length ≤ 200 := fun r hr => dec_le_len (y := y) (by omega) (by decide) hy
  have hlen2 : ∀ z, z < y * 10 → (Lib.decDigits z).length ≤ 201 := fun z hz => by
    refine (decDigits_len_le (by decide)).2 ?_
    have := (decDigits_len_le (by decide)).1 hy
    rw [show (201 : Nat) = 200 + 1 from rfl, Nat.pow_succ]
    generalize 10 ^ 200 = t at *
    omega
  have h5 : ∀ (i : Nat) (hi : i < (Lib.decDigits x).length) (r : Nat), r < y → ∀ w, Calls Tryz.prog 110 #[.string (B (Lib.decDigits r) ++ (B (Lib.decDigits x)).extract i (i + 1))] w (BarePost (r * 10 + (((Lib.decDigits x)[i]).toNat - 48)) w) := by
    intro i hi r hr w
    rw [extract_one hi, B_append]
    have h := rbare_any (Lib.decDigits r ++ [(Lib.decDigits x)[i]]) (by
      intro c hc
      rcases List.mem_append.1 hc with hc | hc
      · exact decDigits_dig r c hc
      · have : c = (Lib.decDigits x)[i] := by simpa using hc
        rw [this]; exact decDigits_dig x _ (List.getElem_mem hi)) (by have := hlen r hr; simp; unfold maxLen; omega) w
    rwa [dval_snoc, dval_decDigits] at h
  have h6 : ∀ z, z < y * 10 → ∀ w, Calls Tryz.prog 108 #[.string (B (Lib.decDigits z)), .string (B (Lib.decDigits y))] w (MoreEnd (cmpN z y) w) := fun z hz w => rmore_any z y (Nat.le_trans (hlen2 z hz) (by decide)) (Nat.le_trans hy (by decide)) w
  have h7 : ∀ z, z < y * 10 → y ≤ z → ∀ w, Calls Tryz.prog 109 #[.string (B (Lib.decDigits z)), .string (B (Lib.decDigits y))] w (StrEnd (B (Lib.decDigits (z - y))) w) := fun z hz hle w => rminus_any z y hle (Nat.le_trans (hlen2 z hz) (by decide)) (Nat.le_trans hy (by decide)) w
  have h8 : ∀ r, r < y → (B (Lib.decDigits r)).size ≤ 200 := fun r hr => by rw [B_size]; exact hlen r hr
  have hdd : ∀ (k : Nat) (hk : k < (Lib.decDigits x).length), ((Lib.decDigits x)[k]).toNat - 48 ≤ 9 := fun k hk => by
    have := decDigits_dig x _ (List.getElem_mem hk)
    omega
  obtain ⟨V, hV⟩ : ∃ V : Nat → Nat, V = fun i => dval ((Lib.decDigits x).take i) := ⟨_, rfl⟩
  have hV0 : V 0 = 0 := by rw [hV]; rfl
  have hVs : ∀ (k : Nat) (hk : k < (Lib.decDigits x).length), V (k + 1) = V k * 10 + (((Lib.decDigits x)[k]).toNat - 48) := fun k hk => by
    rw [hV]; exact dval_take_succ hk
  have hVe : V (Lib.decDigits x).length = x := by
    rw [hV]
    show dval ((Lib.decDigits x).take (Lib.decDigits x).length) = x
    rw [List.take_length, dval_decDigits]
  obtain ⟨g, hg⟩ : ∃ g : Nat → Nat, ∀ (k : Nat) (hk : k < (Lib.decDigits x).length), g k = ((Lib.decDigits x)[k]).toNat - 48 := ⟨fun k => if hk : k < (Lib.decDigits x).length then ((Lib.decDigits x)[k]).toNat - 48 else 0, fun k hk => dif_pos hk⟩
  have hts := B_size (Lib.decDigits x)
  obtain ⟨D, hD⟩ : ∃ D : Nat → ByteArray, D = fun v => B (Lib.decDigits v) := ⟨_, rfl⟩
  have hD0 : (⟨#[48]⟩ : ByteArray) = D 0 := by
    rw [hD]; show _ = B (Lib.decDigits 0); rw [decDigits_small (by decide)]; rfl
  have k5 : ∀ (i : Nat) (hi : i < (B (Lib.decDigits x)).size) (r : Nat), r < y → ∀ w, Calls Tryz.prog 110 #[.string (D r ++ (B (Lib.decDigits x)).extract i (i + 1))] w fun e w' => e = .returned (.string (D (r * 10 + g i))) ∧ w = w' := by
    rw [hD]; intro i hi r hr w
    have := h5 i (by omega) r hr w
    rw [← hg i (by omega)] at this
    exact this
  have k6 : ∀ z, z < y * 10 → ∀ w, Calls Tryz.prog 108 #[.string (D z), .string (D y)] w (MoreEnd (cmpN z y) w) := by rw [hD]; exact h6
  have k7 : ∀ z, z < y * 10 → y ≤ z → ∀ w, Calls Tryz.prog 109 #[.string (D z), .string (D y)] w (StrEnd (D (z - y)) w) := by rw [hD]; exact h7
  have k8 : ∀ r, r < y → (D r).size ≤ 200 := by rw [hD]; exact h8
  have kV : ∀ k, k < (B (Lib.decDigits x)).size → V (k + 1) = V k * 10 + g k ∧ g k ≤ 9 := fun k hk => by
    rw [hg k (by omega)]; exact ⟨hVs k (by omega), hdd k (by omega)⟩
  have kVe : V (B (Lib.decDigits x)).size = x := by rw [hts]; exact hVe
  have ht : (B (Lib.decDigits x)).size ≤ 200 := by omega
  have hDy : B (Lib.decDigits y) = D y := by rw [hD]
  unfold PartsPost
  rw [hDy, show B (Lib.decDigits (x / y)) = D (x / y) by rw [hD], show B (Lib.decDigits (x % y)) = D (x % y) by rw [hD]]
  have kB : ∀ (l : List UInt8), AllDig l → l.length ≤ maxLen → ∀ w, Calls Tryz.prog 110 #[.string (B l)] w fun e w' => e = .returned (.string (D (dval l))) ∧ w = w' := by rw [hD]; exact rbare_any
  have HB := Lib.hid kB
  have H5 := Lib.hid k5
  have H6 := Lib.hid k6
  have H7 := Lib.hid k7
  have H8 := Lib.hid k8
  have HD0 := Lib.hid hD0
  have HV := Lib.hid (And.intro hV0 (And.intro kV kVe))
  have HY := Lib.hid hy0
  clear h5 h6 h7 h8 hdd hV hV0 hVs hVe hg hts hD hD0 k5 k6 k7 k8 kV kVe hDy kB hlen hlen2 hx hy hy0
  generalize B (Lib.decDigits x) = t at *
  go_enter Tryz.func111, Tryz.ntmps111
  go_wp2_with fail
  go_loopw [6, 7, 8] (fun qv rv iv wr => ∃ (i r : Nat) (Q : List UInt8), i ≤ t.size ∧ iv = .int .i64 i ∧ rv = .string (D r) ∧ qv = .string (B Q) ∧ AllDig Q ∧ Q.length = i ∧ V i = y * dval Q + r ∧ r < y ∧ Below w.heap.size w wr) (fun _ _ iv _ => t.size - (intOf iv).toNat)
  case atStart => exact ⟨0, 0, [], Nat.zero_le _, rfl, congrArg Value.string HD0.out, rfl, (by intro c hc; cases hc), rfl, (by rw [HV.out.1]; simp [dval]), HY.out, Below.refl _ _⟩
  case round =>
    obtain ⟨i, r, Q, hi, rfl, rfl, rfl, hQ, hQl, hQv, hr, hb⟩ := hrel
    have HQ := Lib.hid (And.intro hQ (And.intro hQl hQv))
    have q1 := B_size Q
    have q2 : (B Q).size ≤ 200 := by omega
    clear hQ hQl hQv q1
    by_cases hlt : i < t.size
    · have K5 := Lib.hid (H5.out i hlt r hr)
      have r8 := H8.out r hr
      have e8 : (t.extract i (i + 1)).size = 1 := by simp; omega
      go_wp2_with fail
      refine (K5.out _).mono ?_
      rintro e w2 ⟨rfl, rfl⟩
      go_wp2_with fail
      obtain ⟨z, hz⟩ : ∃ z, z = r * 10 + g i := ⟨_, rfl⟩
      have hz10 : z < y * 10 := by have := (HV.out.2.1 i hlt).2; omega
      rw [← hz]
      have HZ := Lib.hid hz
      clear hz
      go_loopw [7, 9] (fun rv nv wq => ∃ n : Nat, n * y ≤ z ∧ n ≤ 9 ∧ nv = .int .i64 n ∧ rv = .string (D (z - n * y)) ∧ Below w.heap.size w wq) (fun _ nv _ => 10 - (intOf nv).toNat)
      case atStart => exact ⟨0, by omega, by decide, rfl, by rw [Nat.zero_mul, Nat.sub_zero], hb⟩
      case round =>
        obtain ⟨n, hn, hn9, rfl, rfl, hb2⟩ := hrel
        have K6 := Lib.hid (H6.out (z - n * y) (by omega))
        obtain ⟨cv, hcv⟩ : ∃ cv, cv = cmpN (z - n * y) y := ⟨_, rfl⟩
        rw [← hcv] at K6
        by_cases hle : y ≤ z - n * y
        · have hc0 : ¬ cv < 0 := by rw [hcv]; exact cmpN_ge hle
          have K7 := Lib.hid (H7.out (z - n * y) (by omega) hle)
          have hn1 : (n + 1) * y = n * y + y := Nat.succ_mul n y
          have hn2 : n + 1 ≤ 9 := by
            rcases Nat.lt_or_ge n 9 with h | h
            · omega
            · have : n = 9 := by omega
              subst this
              omega
          have HN := Lib.hid (And.intro hn1 (show z - n * y - y = z - (n + 1) * y by omega))
          have hn3 : (n + 1) * y ≤ z := by omega
          have HN3 := Lib.hid hn3
          clear hcv hn1 hn3 hle hn
          go_wp2_with fail
          refine (K6.out _).mono ?_
          rintro e w3 ⟨rfl, hd⟩
          have hb3 : Below w.heap.size w w3 := hb2.trans hd.below
          clear hd
          go_wp2_with fail
          refine (K7.out _).mono ?_
          rintro e w4 ⟨rfl, hb4⟩
          have hb5 := hb3.trans (hb4.mono hb3.size)
          go_wp2_with fail
          go_roundw
          case rel => exact ⟨n + 1, HN3.out, hn2, by go_num, by rw [HN.out.2], hb5⟩
          case measure => simp [intOf]; omega
        · have hc0 : cv < 0 := by rw [hcv, cmpN_of_lt (by omega)]; decide
          have hzb : (48 + (n : Int)) = ((digB n).toNat : Int) := by rw [digB_nat (by omega)]; omega
          have HL := Lib.hid hle
          have HN := Lib.hid hn
          clear hcv hle hn
          go_wp2_with fail
          refine (K6.out _).mono ?_
          rintro e w3 ⟨rfl, hd⟩
          have hb3 : Below w.heap.size w w3 := hb2.trans hd.below
          clear hd
          have hcv := conv_one w3 (digB n) _ hzb
          have hd1 : (B [digB n]).size = 1 := B_size _
          have HC := Lib.hid (B_append Q [digB n])
          clear hzb
          go_wp2_with fail
          refine ⟨⟨i + 1, z - n * y, Q ++ [digB n], by omega, by go_num, rfl, congrArg Value.string HC.out, ?_, by simp [HQ.out.2.1], ?_, by have := HL.out; omega, hb3.alloc hb3.size _⟩, by simp [intOf]; omega⟩
          · intro c hc
            rcases List.mem_append.1 hc with hc | hc
            · exact HQ.out.1 c hc
            · have : c = digB n := by simpa using hc
              rw [this]
              have := digB_nat (d := n) (by omega)
              omega
          · have e1 := (HV.out.2.1 i hlt).1
            have e2 := HQ.out.2.2
            have e3 := HZ.out
            have e4 := HN.out
            rw [e1, e2, dval_snoc, digB_nat (by omega), Nat.mul_add]
            have e5 : y * (dval Q * 10) = y * dval Q * 10 := (Nat.mul_assoc ..).symm
            have e6 : y * (48 + n - 48) = n * y := by rw [show 48 + n - 48 = n by omega, Nat.mul_comm]
            omega
    · have hie : i = t.size := by omega
      have e1 : x = y * dval Q + r := by rw [← HQ.out.2.2, hie, HV.out.2.2]
      have e2 : x / y = dval Q := by rw [e1, Nat.mul_add_div HY.out, Nat.div_eq_of_lt hr, Nat.add_zero]
      have e3 : x % y = r := by rw [e1, Nat.mul_add_mod, Nat.mod_eq_of_lt hr]
      have K := Lib.hid (HB.out Q HQ.out.1 (by rw [HQ.out.2.1]; unfold maxLen; omega))
      have HE := Lib.hid (And.intro e2 e3)
      clear e1 e2 e3
      go_wp2_with fail
      refine (K.out _).mono ?_
      rintro e w2 ⟨rfl, rfl⟩
      go_wp2_with fail
      go_ret2
      exact ⟨by rw [HE.out.1, HE.out.2]; rfl, hb⟩
theorem fq_parts {x y : Int} (hy : y ≠ 0) :
    (decide (x < 0) = decide (y < 0) → fq x y = ((x.natAbs / y.natAbs : Nat) : Int)) ∧
    (decide (x < 0) ≠ decide (y < 0) → fq x y = if x.natAbs % y.natAbs = 0 then -((x.natAbs / y.natAbs : Nat) : Int) else -((x.natAbs / y.natAbs + 1 : Nat) : Int)) := by
  have hp : 0 < y.natAbs := by omega
  have k1 := Nat.div_add_mod x.natAbs y.natAbs
  have k2 := Nat.mod_lt x.natAbs hp
  generalize x.natAbs / y.natAbs = q at *
  generalize x.natAbs % y.natAbs = r at *
  have k3 : (x.natAbs : Int) = (y.natAbs : Int) * (q : Int) + (r : Int) := by
    rw [← Int.natCast_mul, ← Int.natCast_add, k1]
  have kx : (x < 0 ∧ (x.natAbs : Int) = -x) ∨ (0 ≤ x ∧ (x.natAbs : Int) = x) := by omega
  have ky : (y < 0 ∧ (y.natAbs : Int) = -y) ∨ (0 < y ∧ (y.natAbs : Int) = y) := by omega
  have k4 : (r : Int) < (y.natAbs : Int) := by omega
  have k5 : 0 ≤ (r : Int) := Int.natCast_nonneg r
  constructor
  · intro hs
    rcases kx with ⟨hx, ex⟩ | ⟨hx, ex⟩ <;> rcases ky with ⟨hyy, ey⟩ | ⟨hyy, ey⟩
    · rw [ex, ey, Int.neg_mul] at k3
      rw [ey] at k4
      exact (fq_unique (r := -(r : Int)) hy (by omega) (by omega) (by omega)).1
    · exact absurd hs (by rw [decide_eq_true hx, decide_eq_false (by omega)]; decide)
    · exact absurd hs (by rw [decide_eq_false (by omega), decide_eq_true hyy]; decide)
    · rw [ex, ey] at k3
      rw [ey] at k4
      exact (fq_unique (r := (r : Int)) hy (by omega) (by omega) (by omega)).1
  · intro hs
    by_cases h0 : r = 0
    · rw [if_pos h0]
      rcases kx with ⟨hx, ex⟩ | ⟨hx, ex⟩ <;> rcases ky with ⟨hyy, ey⟩ | ⟨hyy, ey⟩
      · exact absurd (by rw [decide_eq_true hx, decide_eq_true hyy]) hs
      · rw [ex, ey] at k3
        exact (fq_unique (r := 0) hy (by rw [Int.mul_neg]; omega) (by omega) (by omega)).1
      · rw [ex, ey, Int.neg_mul] at k3
        exact (fq_unique (r := 0) hy (by rw [Int.mul_neg]; omega) (by omega) (by omega)).1
      · exact absurd (by rw [decide_eq_false (by omega), decide_eq_false (by omega)]) hs
    · rw [if_neg h0, Int.natCast_add, Int.natCast_one]
      have e : ∀ z : Int, z * -((q : Int) + 1) = -(z * q) - z := fun z => by rw [Int.mul_neg, Int.mul_add, Int.mul_one]; omega
      rcases kx with ⟨hx, ex⟩ | ⟨hx, ex⟩ <;> rcases ky with ⟨hyy, ey⟩ | ⟨hyy, ey⟩
      · exact absurd (by rw [decide_eq_true hx, decide_eq_true hyy]) hs
      · rw [ex, ey] at k3
        rw [ey] at k4
        exact (fq_unique (r := y - r) hy (by rw [e]; omega) (by omega) (by omega)).1
      · rw [ex, ey, Int.neg_mul] at k3
        rw [ey] at k4
        exact (fq_unique (r := y + r) hy (by rw [e]; omega) (by omega) (by omega)).1
      · exact absurd (by rw [decide_eq_false (by omega), decide_eq_false (by omega)]) hs
theorem S_natB (n : Nat) : B (Lib.decDigits n) = S (n : Int) := (S_nat n).symm
set_option maxRecDepth 10000 in
set_option maxHeartbeats 1600000 in
theorem rfloor_any (x y : Int) (hy0 : y ≠ 0) (hx : Figs 100 x) (hy : Figs 100 y) (w : World) : Calls Tryz.prog 82 #[.string (S x), .string (S y)] w (StrEnd (S (fq x y)) w) := by
  have hf := @fq_parts x y hy0
  unfold Figs at hx hy
  have h1 := rlow_S x
  have h2 := rlow_S y
  have h3 := rsize_S x (by unfold Figs; omega)
  have h4 := rsize_S y (by unfold Figs; omega)
  have h5 := rparts_any x.natAbs y.natAbs (by omega) (by omega) (by omega)
  have hql : (Lib.decDigits (x.natAbs / y.natAbs)).length ≤ 100 := dec_le_len (Nat.div_le_self _ _) (by decide) hx
  have h6 := rplus_any (x.natAbs / y.natAbs) 1 (by omega) (by rw [decDigits_small (by decide)]; decide)
  have h1b : B (Lib.decDigits 1) = ⟨#[49]⟩ := by rw [decDigits_small (by decide)]; rfl
  rw [h1b] at h6
  have hql1 : (Lib.decDigits (x.natAbs / y.natAbs + 1)).length ≤ 101 := dec_add_len (by decide) hql (by rw [decDigits_small (by decide)]; decide)
  have h7 := rsigned_D (x.natAbs / y.natAbs) (by omega) true
  have h8 := rsigned_D (x.natAbs / y.natAbs + 1) (by omega) true
  unfold PartsPost at h5
  have H1 := Lib.hid h1
  have H2 := Lib.hid h2
  have H3 := Lib.hid h3
  have H4 := Lib.hid h4
  by_cases hs : decide (x < 0) = decide (y < 0)
  · have e0 : (decide (x < 0) == decide (y < 0)) = true := by rw [hs]; simp
    rw [hf.1 hs, ← S_natB]
    have H5 := Lib.hid h5
    clear h1 h2 h3 h4 h5 h6 h7 h8 hs hf hql hql1 h1b hx hy hy0
    generalize S x = s at *
    generalize S y = t at *
    generalize B (Lib.decDigits x.natAbs) = s1 at *
    generalize B (Lib.decDigits y.natAbs) = t1 at *
    generalize decide (x < 0) = b at *
    generalize decide (y < 0) = c at *
    go_enter Tryz.func82, Tryz.ntmps82
    go_wp2_with fail
    refine (H3.out _).mono ?_
    rintro e w1 ⟨rfl, rfl⟩
    go_wp2_with fail
    refine (H4.out _).mono ?_
    rintro e w1 ⟨rfl, rfl⟩
    go_wp2_with fail
    refine (H5.out _).mono ?_
    rintro e w1 ⟨rfl, hb⟩
    go_wp2_with fail
    refine (H1.out _).mono ?_
    rintro e w2 ⟨rfl, rfl⟩
    go_wp2_with fail
    refine (H2.out _).mono ?_
    rintro e w2 ⟨rfl, rfl⟩
    go_wp2_with fail
    go_ret
    exact ⟨rfl, hb⟩
  · have e0 : (decide (x < 0) == decide (y < 0)) = false := beq_eq_false_iff_ne.2 hs
    rw [hf.2 hs]
    by_cases h0 : x.natAbs % y.natAbs = 0
    · rw [if_pos h0]
      rw [h0] at h5
      have e1 : ((B (Lib.decDigits 0)).toList == [48]) = true := by rw [str_tl, B_list, decDigits_small (by decide)]; rfl
      have H5 := Lib.hid h5
      have H7 := Lib.hid h7
      clear h1 h2 h3 h4 h5 h6 h7 h8 hs hf hql hql1 h1b hx hy hy0 h0
      generalize S x = s at *
      generalize S y = t at *
      generalize B (Lib.decDigits x.natAbs) = s1 at *
      generalize B (Lib.decDigits y.natAbs) = t1 at *
      generalize B (Lib.decDigits 0) = z1 at *
      generalize decide (x < 0) = b at *
      generalize decide (y < 0) = c at *
      go_enter Tryz.func82, Tryz.ntmps82
      go_wp2_with fail
      refine (H3.out _).mono ?_
      rintro e w1 ⟨rfl, rfl⟩
      go_wp2_with fail
      refine (H4.out _).mono ?_
      rintro e w1 ⟨rfl, rfl⟩
      go_wp2_with fail
      refine (H5.out _).mono ?_
      rintro e w1 ⟨rfl, hb⟩
      go_wp2_with fail
      refine (H1.out _).mono ?_
      rintro e w2 ⟨rfl, rfl⟩
      go_wp2_with fail
      refine (H2.out _).mono ?_
      rintro e w2 ⟨rfl, rfl⟩
      go_wp2_with fail
      refine (H7.out _).mono ?_
      rintro e w2 ⟨rfl, rfl⟩
      go_wp2_with fail
      go_ret
      exact ⟨rfl, hb⟩
    · rw [if_neg h0]
      have e1 : ((B (Lib.decDigits (x.natAbs % y.natAbs))).toList == [48]) = false := by
        rw [str_tl, B_list]; exact beq_eq_false_iff_ne.2 fun h => h0 (dec_48 h)
      have H5 := Lib.hid h5
      have H6 := Lib.hid h6
      have H8 := Lib.hid h8
      clear h1 h2 h3 h4 h5 h6 h7 h8 hs hf hql hql1 h1b hx hy hy0 h0
      generalize S x = s at *
      generalize S y = t at *
      generalize B (Lib.decDigits x.natAbs) = s1 at *
      generalize B (Lib.decDigits y.natAbs) = t1 at *
      generalize B (Lib.decDigits (x.natAbs % y.natAbs)) = z1 at *
      generalize decide (x < 0) = b at *
      generalize decide (y < 0) = c at *
      go_enter Tryz.func82, Tryz.ntmps82
      go_wp2_with fail
      refine (H3.out _).mono ?_
      rintro e w1 ⟨rfl, rfl⟩
      go_wp2_with fail
      refine (H4.out _).mono ?_
      rintro e w1 ⟨rfl, rfl⟩
      go_wp2_with fail
      refine (H5.out _).mono ?_
      rintro e w1 ⟨rfl, hb⟩
      go_wp2_with fail
      refine (H1.out _).mono ?_
      rintro e w2 ⟨rfl, rfl⟩
      go_wp2_with fail
      refine (H2.out _).mono ?_
      rintro e w2 ⟨rfl, rfl⟩
      go_wp2_with fail
      refine (H6.out _).mono ?_
      rintro e w2 ⟨rfl, hb2⟩
      have hb3 := hb.trans (hb2.mono hb.size)
      go_wp2_with fail
      refine (H8.out _).mono ?_
      rintro e w3 ⟨rfl, rfl⟩
      go_wp2_with fail
      go_ret
      exact ⟨rfl, hb3⟩
end
section
open Go.RowKit
set_option maxRecDepth 10000 in
set_option maxHeartbeats 800000 in
theorem rDiv_no (s t : ByteArray) (a b : Bool) (h : (a && b) = false) (HM : RMayIs s a) (HM' : RMayIs t b) (w : World) : Calls Tryz.prog 54 #[.string s, .string t] w (ArgNo w) := by
  have K1 := Lib.hid HM
  have K2 := Lib.hid HM'
  clear HM HM'
  go_enter Tryz.func54, Tryz.ntmps54
  go_wp2_with fail
  cases a
  · refine (K1.out _).mono ?_
    rintro e w1 ⟨rfl, rfl⟩
    go_wp2_with fail
    go_ret2
    exact ⟨rfl, Below.refl _ _⟩
  · refine (K1.out _).mono ?_
    rintro e w1 ⟨rfl, rfl⟩
    go_wp2_with fail
    cases b
    · refine (K2.out _).mono ?_
      rintro e w1 ⟨rfl, rfl⟩
      go_wp2_with fail
      go_ret2
      exact ⟨rfl, Below.refl _ _⟩
    · exact absurd h (by decide)
set_option maxRecDepth 10000 in
set_option maxHeartbeats 800000 in
theorem rDiv_zero (s t : ByteArray) (h0 : (t.toList == [48]) = true) (HM : RMayIs s true) (HM' : RMayIs t true) (w : World) : Calls Tryz.prog 54 #[.string s, .string t] w fun e w' => e = .returned (.tuple #[.string ⟨#[]⟩, .int .i64 5]) ∧ Below w.heap.size w w' := by
  have K1 := Lib.hid HM
  have K2 := Lib.hid HM'
  clear HM HM'
  go_enter Tryz.func54, Tryz.ntmps54
  go_wp2_with fail
  refine (K1.out _).mono ?_
  rintro e w1 ⟨rfl, rfl⟩
  go_wp2_with fail
  refine (K2.out _).mono ?_
  rintro e w1 ⟨rfl, rfl⟩
  go_wp2_with fail
  go_ret2
  exact ⟨rfl, Below.refl _ _⟩
set_option maxRecDepth 10000 in
set_option maxHeartbeats 800000 in
theorem rMod_no (s t : ByteArray) (a b : Bool) (h : (a && b) = false) (HM : RMayIs s a) (HM' : RMayIs t b) (w : World) : Calls Tryz.prog 55 #[.string s, .string t] w (ArgNo w) := by
  have K1 := Lib.hid HM
  have K2 := Lib.hid HM'
  clear HM HM'
  go_enter Tryz.func55, Tryz.ntmps55
  go_wp2_with fail
  cases a
  · refine (K1.out _).mono ?_
    rintro e w1 ⟨rfl, rfl⟩
    go_wp2_with fail
    go_ret2
    exact ⟨rfl, Below.refl _ _⟩
  · refine (K1.out _).mono ?_
    rintro e w1 ⟨rfl, rfl⟩
    go_wp2_with fail
    cases b
    · refine (K2.out _).mono ?_
      rintro e w1 ⟨rfl, rfl⟩
      go_wp2_with fail
      go_ret2
      exact ⟨rfl, Below.refl _ _⟩
    · exact absurd h (by decide)
set_option maxRecDepth 10000 in
set_option maxHeartbeats 800000 in
theorem rMod_zero (s t : ByteArray) (h0 : (t.toList == [48]) = true) (HM : RMayIs s true) (HM' : RMayIs t true) (w : World) : Calls Tryz.prog 55 #[.string s, .string t] w fun e w' => e = .returned (.tuple #[.string ⟨#[]⟩, .int .i64 5]) ∧ Below w.heap.size w w' := by
  have K1 := Lib.hid HM
  have K2 := Lib.hid HM'
  clear HM HM'
  go_enter Tryz.func55, Tryz.ntmps55
  go_wp2_with fail
  refine (K1.out _).mono ?_
  rintro e w1 ⟨rfl, rfl⟩
  go_wp2_with fail
  refine (K2.out _).mono ?_
  rintro e w1 ⟨rfl, rfl⟩
  go_wp2_with fail
  go_ret2
  exact ⟨rfl, Below.refl _ _⟩
set_option maxRecDepth 10000 in
set_option maxHeartbeats 800000 in
theorem rDiv_yes (x y : Int) (hy0 : y ≠ 0) (hx : Figs 100 x) (hy : Figs 100 y) (h0 : ((S y).toList == [48]) = false) (HM : RMayIs (S x) true) (HM' : RMayIs (S y) true) (w : World) : Calls Tryz.prog 54 #[.string (S x), .string (S y)] w (OpPost (fq x y) w) := by
  have K1 := Lib.hid HM
  have K2 := Lib.hid HM'
  have hq : Figs 100 (fq x y) := dec_le_len (fq_abs x y hy0) (by decide) hx
  have h1 := rfloor_any x y hy0 hx hy
  have h2 := rtold_any (fq x y) (Nat.le_trans hq (by decide))
  have H1 := Lib.hid h1
  have H2 := Lib.hid h2
  unfold OpPost
  clear h1 h2 hq hx hy HM HM' hy0
  generalize toldR (fq x y) = r at *
  generalize toldE (fq x y) = f at *
  go_enter Tryz.func54, Tryz.ntmps54
  go_wp2_with fail
  refine (K1.out _).mono ?_
  rintro e w1 ⟨rfl, rfl⟩
  go_wp2_with fail
  refine (K2.out _).mono ?_
  rintro e w1 ⟨rfl, rfl⟩
  go_wp2_with fail
  refine (H1.out _).mono ?_
  rintro e w2 ⟨rfl, hb⟩
  go_wp2_with fail
  refine (H2.out _).mono ?_
  rintro e w3 ⟨rfl, rfl⟩
  go_wp2_with fail
  go_ret2
  exact ⟨rfl, hb⟩
set_option maxRecDepth 10000 in
set_option maxHeartbeats 800000 in
theorem rMod_yes (x y : Int) (hy0 : y ≠ 0) (hx : Figs 100 x) (hy : Figs 100 y) (h0 : ((S y).toList == [48]) = false) (HM : RMayIs (S x) true) (HM' : RMayIs (S y) true) (w : World) : Calls Tryz.prog 55 #[.string (S x), .string (S y)] w (OpPost (fr x y) w) := by
  have K1 := Lib.hid HM
  have K2 := Lib.hid HM'
  have hq : Figs 100 (fq x y) := dec_le_len (fq_abs x y hy0) (by decide) hx
  have h1 := rfloor_any x y hy0 hx hy
  have hm : (Lib.decDigits (y.natAbs * (fq x y).natAbs)).length ≤ 200 := by
    unfold Figs at *
    refine (decDigits_len_le (by decide)).2 ?_
    have a1 := (decDigits_len_le (by decide)).1 hy
    have a2 := (decDigits_len_le (by decide)).1 hq
    rw [show (200 : Nat) = 100 + 100 from rfl, Nat.pow_add]
    exact Nat.mul_lt_mul_of_lt_of_le a1 (Nat.le_of_lt a2) (Nat.pow_pos (by decide))
  have h2 := rproduct_any y (fq x y) (Nat.le_trans hy (by decide)) (Nat.le_trans hq (by decide)) (Nat.le_trans hm (by decide))
  have hf : Figs 200 (y * fq x y) := by unfold Figs; rw [Int.natAbs_mul]; exact hm
  have h3 := rturned_any (y * fq x y) (Nat.le_trans hf (by decide))
  have h4 := rsum_any x (-(y * fq x y)) (Nat.le_trans hx (by decide)) (by unfold Figs at *; rw [Int.natAbs_neg]; exact Nat.le_trans hf (by decide))
  rw [show x + -(y * fq x y) = fr x y by unfold fr; omega] at h4
  have h5 := rtold_any (fr x y) (Nat.le_trans (dec_le_len (fr_abs x y hy0) (by decide) hy) (by decide))
  have H1 := Lib.hid h1
  have H2 := Lib.hid h2
  have H3 := Lib.hid h3
  have H4 := Lib.hid h4
  have H5 := Lib.hid h5
  unfold OpPost
  clear h1 h2 h3 h4 h5 hf hm hq hx hy HM HM' hy0
  generalize toldR (fr x y) = r at *
  generalize toldE (fr x y) = f at *
  go_enter Tryz.func55, Tryz.ntmps55
  go_wp2_with fail
  refine (K1.out _).mono ?_
  rintro e w1 ⟨rfl, rfl⟩
  go_wp2_with fail
  refine (K2.out _).mono ?_
  rintro e w1 ⟨rfl, rfl⟩
  go_wp2_with fail
  refine (H1.out _).mono ?_
  rintro e w2 ⟨rfl, hb⟩
  go_wp2_with fail
  refine (H2.out _).mono ?_
  rintro e w3 ⟨rfl, hb3⟩
  have hb4 := hb.trans (hb3.mono hb.size)
  go_wp2_with fail
  refine (H3.out _).mono ?_
  rintro e w4 ⟨rfl, rfl⟩
  go_wp2_with fail
  refine (H4.out _).mono ?_
  rintro e w5 ⟨rfl, hb5⟩
  have hb6 := hb4.trans (hb5.mono hb4.size)
  go_wp2_with fail
  refine (H5.out _).mono ?_
  rintro e w6 ⟨rfl, rfl⟩
  go_wp2_with fail
  go_ret2
  exact ⟨rfl, hb6⟩
end
end Go.Proofs.YtlhbejeninjmoaaGreatDoor

import Derived.Test.YtinhbmjfeabecaaGreatDoorRf1
import Derived.Test.YtinhbmjfeabecaaGreatDoorRead
namespace Go.Proofs.YtinhbmjfeabecaaGreatDoor
open Go.RowKit

/-- What the loop of the reference's sum holds behind i figures. -/
def PlInv (x y i c : Nat) (R : List UInt8) : Prop := AllDig R ∧ R.length = i ∧ c ≤ 1 ∧ dval R + c * 10 ^ i = x % 10 ^ i + y % 10 ^ i
def digB (d : Nat) : UInt8 := UInt8.ofNat (48 + d)
theorem digB_nat {d : Nat} (h : d < 10) : (digB d).toNat = 48 + d := by
  unfold digB; rw [UInt8.toNat_ofNat']; omega
theorem plInv_zero (x y : Nat) : PlInv x y 0 0 [] := ⟨(by intro c hc; cases hc), rfl, (by decide), (by simp [dval, Nat.mod_one])⟩
theorem plInv_next {x y i c : Nat} {R : List UInt8} (h : PlInv x y i c R) {n : Nat} (hn : n = x / 10 ^ i % 10 + y / 10 ^ i % 10 + c) : PlInv x y (i + 1) (n / 10) (digB (n % 10) :: R) := by
  obtain ⟨h1, h2, h3, h4⟩ := h
  have hb := digB_nat (d := n % 10) (Nat.mod_lt _ (by decide))
  have e1 : x / 10 ^ i % 10 < 10 := Nat.mod_lt _ (by decide)
  have e2 : y / 10 ^ i % 10 < 10 := Nat.mod_lt _ (by decide)
  refine ⟨?_, by simp [h2], by omega, ?_⟩
  · intro c hc
    rcases List.mem_cons.1 hc with rfl | hc
    · omega
    · exact h1 c hc
  · rw [dval_cons, hb, h2, Nat.mod_pow_succ, Nat.mod_pow_succ, Nat.pow_succ]
    have e3 : 48 + n % 10 - 48 = n % 10 := by omega
    rw [e3]
    have e4 : n % 10 + 10 * (n / 10) = n := Nat.mod_add_div n 10
    have e5 : n / 10 * (10 ^ i * 10) = 10 ^ i * (10 * (n / 10)) := by
      rw [Nat.mul_comm, Nat.mul_assoc]
    have e6 : n % 10 * 10 ^ i + n / 10 * (10 ^ i * 10) = n * 10 ^ i := by
      rw [e5, Nat.mul_comm (n % 10), ← Nat.mul_add, e4, Nat.mul_comm]
    have e7 : n * 10 ^ i = 10 ^ i * (x / 10 ^ i % 10) + 10 ^ i * (y / 10 ^ i % 10) + c * 10 ^ i := by
      rw [hn, Nat.mul_comm, Nat.mul_add, Nat.mul_add, Nat.mul_comm c]
    omega
theorem plInv_end {x y i c : Nat} {R : List UInt8} (h : PlInv x y (i + 1) c R) (hx : x < 10 ^ i) (hy : y < 10 ^ i) : dval R = x + y := by
  obtain ⟨h1, h2, h3, h4⟩ := h
  have e : 10 ^ (i + 1) = 10 ^ i * 10 := Nat.pow_succ ..
  have hp : 0 < 10 ^ i := Nat.pow_pos (by decide)
  rw [e] at h4
  rw [Nat.mod_eq_of_lt (by omega), Nat.mod_eq_of_lt (by omega)] at h4
  have : c = 0 := by
    rcases Nat.eq_zero_or_pos c with h0 | h0
    · exact h0
    · have : c = 1 := by omega
      subst this
      omega
  subst this
  omega
theorem B_append (l m : List UInt8) : B l ++ B m = B (l ++ m) := by
  apply ba_ext
  rw [ByteArray.data_append, Array.toList_append, B_list, B_list, B_list]
theorem conv_one (W : World) (b : UInt8) (z : Int) (hz : z = b.toNat) :
    (convert 50 9 (.slice (some ⟨W.heap.size, 0, none⟩) 1 1)).run Tryz.prog (W.alloc (.cells #[.int .u8 z] 5)) = .ok (.string (B [b])) (W.alloc (.cells #[.int .u8 z] 5)) := by
  subst hz
  exact run_convert_bytes_back (P := Tryz.prog) (W.alloc (.cells #[.int .u8 b.toNat] 5)) 50 9 5 ⟨W.heap.size, 0, none⟩ 1 [b] Tryz.underlying50 Tryz.underlying5 Tryz.underlying9 (fun j hj => by
    have : j = 0 := by simpa using hj
    subst this
    rw [Lib.add_plain, World.cell?_alloc_new]
    rfl)
def StrEnd (s : ByteArray) (w : World) (e : Ending) (w' : World) : Prop := e = .returned (.string s) ∧ Below w.heap.size w w'
set_option maxRecDepth 10000 in
set_option maxHeartbeats 1600000 in
theorem rplus_any (x y : Nat) (hx : (Lib.decDigits x).length ≤ 4000) (hy : (Lib.decDigits y).length ≤ 4000) (w : World) :
    Calls Tryz.prog 53 #[.string (B (Lib.decDigits x)), .string (B (Lib.decDigits y))] w (StrEnd (B (Lib.decDigits (x + y))) w) := by
  have hD := fun (i : Nat) (hi : i ≤ 9000) (w1 : World) => rdigit_any (Lib.decDigits x) (decDigits_dig x) (by omega) i hi w1
  have hD' := fun (i : Nat) (hi : i ≤ 9000) (w1 : World) => rdigit_any (Lib.decDigits y) (decDigits_dig y) (by omega) i hi w1
  rw [dval_decDigits] at hD hD'
  have hs := B_size (Lib.decDigits x)
  have ht := B_size (Lib.decDigits y)
  obtain ⟨M, hM, hM1, hM2⟩ : ∃ M : Nat, max ((B (Lib.decDigits x)).size : Int) (B (Lib.decDigits y)).size = M ∧ (Lib.decDigits x).length ≤ M ∧ (Lib.decDigits y).length ≤ M ∧ M ≤ 4000 := ⟨max (B (Lib.decDigits x)).size (B (Lib.decDigits y)).size, by omega, by omega, by omega, by omega⟩
  have hxl : x < 10 ^ M := Nat.lt_of_lt_of_le ((decDigits_len_le (decDigits_len_pos x)).1 (Nat.le_refl _)) (Nat.pow_le_pow_right (by decide) hM1)
  have hyl : y < 10 ^ M := Nat.lt_of_lt_of_le ((decDigits_len_le (decDigits_len_pos y)).1 (Nat.le_refl _)) (Nat.pow_le_pow_right (by decide) hM2.1)
  have hM3 := hM2.2
  have HX := Lib.hid (And.intro hxl hyl)
  have HD := Lib.hid hD
  have HD' := Lib.hid hD'
  have HB := Lib.hid rbare_any
  clear hxl hyl hD hD' hM1 hM2 hs ht hx hy
  generalize B (Lib.decDigits x) = s at *
  generalize B (Lib.decDigits y) = t at *
  go_enter Tryz.func53, Tryz.ntmps53
  go_wp2_with fail
  go_loopw [5, 6, 7] (fun sv cv iv wr => ∃ (i c : Nat) (R : List UInt8), i ≤ M + 1 ∧ iv = .int .i64 i ∧ cv = .int .i64 c ∧ sv = .string (B R) ∧ PlInv x y i c R ∧ Below w.heap.size w wr) (fun _ _ iv _ => M + 1 - (intOf iv).toNat)
  case atStart => exact ⟨0, 0, [], Nat.zero_le _, rfl, rfl, rfl, plInv_zero x y, Below.refl _ _⟩
  case round =>
    obtain ⟨i, c, R, hi, rfl, rfl, rfl, hI, hb⟩ := hrel
    have HI := Lib.hid hI
    have hR := B_size R
    have hR2 : (B R).size = i := by rw [hR]; exact hI.2.1
    have hc1 : c ≤ 1 := hI.2.2.1
    clear hI hR
    by_cases hlt : i ≤ M
    · have h1 := HD.out i (by omega)
      have h2 := HD'.out i (by omega)
      obtain ⟨p, hp⟩ : ∃ p, p = x / 10 ^ i % 10 := ⟨_, rfl⟩
      obtain ⟨q, hq⟩ : ∃ q, q = y / 10 ^ i % 10 := ⟨_, rfl⟩
      rw [← hp] at h1
      rw [← hq] at h2
      have hp9 : p < 10 := by rw [hp]; exact Nat.mod_lt _ (by decide)
      have hq9 : q < 10 := by rw [hq]; exact Nat.mod_lt _ (by decide)
      have H1 := Lib.hid h1
      have H2 := Lib.hid h2
      have HPQ := Lib.hid (And.intro hp hq)
      clear h1 h2 hp hq
      go_wp2_with fail
      refine (H1.out _).mono ?_
      rintro e w1 ⟨rfl, hb1⟩
      go_wp2_with fail
      refine (H2.out _).mono ?_
      rintro e w2 ⟨rfl, hb2⟩
      have hbb := (hb.trans (hb1.mono hb.size))
      have hb3 := hbb.trans (hb2.mono hbb.size)
      have hz : (48 + ((p : Int) + q + c) % 10 : Int) = ((digB ((p + q + c) % 10)).toNat : Int) := by
        rw [digB_nat (Nat.mod_lt _ (by decide))]; omega
      have hcv := conv_one w2 (digB ((p + q + c) % 10)) _ hz
      have hd1 : (B [digB ((p + q + c) % 10)]).size = 1 := B_size _
      have HC := Lib.hid (B_append [digB ((p + q + c) % 10)] R)
      clear hb hb1 hb2 hbb hz
      go_wp2_with fail
      refine ⟨⟨i + 1, (p + q + c) / 10, digB ((p + q + c) % 10) :: R, by omega, by go_num, congrArg (Value.int .i64) (by omega), congrArg Value.string HC.out, ?_, hb3.alloc hb3.size _⟩, by simp [intOf]; omega⟩
      exact plInv_next HI.out (by rw [← HPQ.out.1, ← HPQ.out.2])
    · have hi2 : i = M + 1 := by omega
      subst hi2
      have hv := plInv_end HI.out HX.out.1 HX.out.2
      have hA := HB.out R HI.out.1 (by rw [HI.out.2.1]; unfold maxLen; omega)
      rw [hv] at hA
      have HA := Lib.hid hA
      clear hA hv
      go_wp2_with fail
      refine (HA.out _).mono ?_
      rintro e w3 ⟨rfl, rfl⟩
      go_wp2_with fail
      go_ret
      exact ⟨rfl, hb⟩
/-- What the loop of the reference's difference holds behind i figures (c: what is borrowed). -/
def MiInv (x y i c : Nat) (R : List UInt8) : Prop := AllDig R ∧ R.length = i ∧ c ≤ 1 ∧ dval R + y % 10 ^ i = x % 10 ^ i + c * 10 ^ i
theorem miInv_zero (x y : Nat) : MiInv x y 0 0 [] := ⟨(by intro c hc; cases hc), rfl, (by decide), (by simp [dval, Nat.mod_one])⟩
theorem miInv_next {x y i c d c' : Nat} {R : List UInt8} (h : MiInv x y i c R) (hd : d < 10) (hc' : c' ≤ 1) (hn : d + c + y / 10 ^ i % 10 = x / 10 ^ i % 10 + 10 * c') : MiInv x y (i + 1) c' (digB d :: R) := by
  obtain ⟨h1, h2, h3, h4⟩ := h
  have hb := digB_nat hd
  refine ⟨?_, by simp [h2], hc', ?_⟩
  · intro c hc
    rcases List.mem_cons.1 hc with rfl | hc
    · omega
    · exact h1 c hc
  · rw [dval_cons, hb, h2, Nat.mod_pow_succ, Nat.mod_pow_succ, Nat.pow_succ]
    have e3 : 48 + d - 48 = d := by omega
    rw [e3]
    have e := congrArg (fun t => 10 ^ i * t) hn
    simp only [Nat.mul_add] at e
    have e5 : c' * (10 ^ i * 10) = 10 ^ i * (10 * c') := by rw [Nat.mul_comm, Nat.mul_assoc]
    have e6 : d * 10 ^ i = 10 ^ i * d := Nat.mul_comm ..
    have e7 : c * 10 ^ i = 10 ^ i * c := Nat.mul_comm ..
    omega
theorem miInv_end {x y i c : Nat} {R : List UInt8} (h : MiInv x y i c R) (hx : x < 10 ^ i) (hy : y ≤ x) : dval R = x - y := by
  obtain ⟨h1, h2, h3, h4⟩ := h
  have hl := dval_lt h1
  rw [h2] at hl
  rw [Nat.mod_eq_of_lt (by omega), Nat.mod_eq_of_lt (by omega)] at h4
  have : c = 0 := by
    rcases Nat.eq_zero_or_pos c with h0 | h0
    · exact h0
    · have : c = 1 := by omega
      subst this
      omega
  subst this
  omega
set_option maxRecDepth 10000 in
set_option maxHeartbeats 1600000 in
theorem rminus_any (x y : Nat) (hxy : y ≤ x) (hx : (Lib.decDigits x).length ≤ 4000) (hy : (Lib.decDigits y).length ≤ 4000) (w : World) :
    Calls Tryz.prog 55 #[.string (B (Lib.decDigits x)), .string (B (Lib.decDigits y))] w (StrEnd (B (Lib.decDigits (x - y))) w) := by
  have hD := fun (i : Nat) (hi : i ≤ 9000) (w1 : World) => rdigit_any (Lib.decDigits x) (decDigits_dig x) (by omega) i hi w1
  have hD' := fun (i : Nat) (hi : i ≤ 9000) (w1 : World) => rdigit_any (Lib.decDigits y) (decDigits_dig y) (by omega) i hi w1
  rw [dval_decDigits] at hD hD'
  have hs := B_size (Lib.decDigits x)
  have hxl : x < 10 ^ (B (Lib.decDigits x)).size := by
    rw [hs]; exact (decDigits_len_le (decDigits_len_pos x)).1 (Nat.le_refl _)
  have hM : (B (Lib.decDigits x)).size ≤ 4000 := by omega
  have HX := Lib.hid (And.intro hxl hxy)
  have HD := Lib.hid hD
  have HD' := Lib.hid hD'
  have HB := Lib.hid rbare_any
  clear hxl hxy hD hD' hs hx hy
  generalize B (Lib.decDigits x) = s at *
  generalize B (Lib.decDigits y) = t at *
  go_enter Tryz.func55, Tryz.ntmps55
  go_wp2_with fail
  go_loopw [5, 6, 7] (fun sv cv iv wr => ∃ (i c : Nat) (R : List UInt8), i ≤ s.size ∧ iv = .int .i64 i ∧ cv = .int .i64 c ∧ sv = .string (B R) ∧ MiInv x y i c R ∧ Below w.heap.size w wr) (fun _ _ iv _ => s.size - (intOf iv).toNat)
  case atStart => exact ⟨0, 0, [], Nat.zero_le _, rfl, rfl, rfl, miInv_zero x y, Below.refl _ _⟩
  case round =>
    obtain ⟨i, c, R, hi, rfl, rfl, rfl, hI, hb⟩ := hrel
    have HI := Lib.hid hI
    have hR := B_size R
    have hR2 : (B R).size = i := by rw [hR]; exact hI.2.1
    have hc1 : c ≤ 1 := hI.2.2.1
    clear hI hR
    by_cases hlt : i < s.size
    · have h1 := HD.out i (by omega)
      have h2 := HD'.out i (by omega)
      obtain ⟨p, hp⟩ : ∃ p, p = x / 10 ^ i % 10 := ⟨_, rfl⟩
      obtain ⟨q, hq⟩ : ∃ q, q = y / 10 ^ i % 10 := ⟨_, rfl⟩
      rw [← hp] at h1
      rw [← hq] at h2
      have hp9 : p < 10 := by rw [hp]; exact Nat.mod_lt _ (by decide)
      have hq9 : q < 10 := by rw [hq]; exact Nat.mod_lt _ (by decide)
      have H1 := Lib.hid h1
      have H2 := Lib.hid h2
      have HPQ := Lib.hid (And.intro hp hq)
      clear h1 h2 hp hq
      go_wp2_with fail
      refine (H1.out _).mono ?_
      rintro e w1 ⟨rfl, hb1⟩
      go_wp2_with fail
      refine (H2.out _).mono ?_
      rintro e w2 ⟨rfl, hb2⟩
      have hbb := (hb.trans (hb1.mono hb.size))
      have hb3 := hbb.trans (hb2.mono hbb.size)
      clear hb hb1 hb2 hbb
      by_cases hneg : (p : Int) - q - c < 0
      · obtain ⟨d, hd⟩ : ∃ d : Nat, (p : Int) - q - c + 10 = d := ⟨((p : Int) - q - c + 10).toNat, by omega⟩
        have hd9 : d < 10 := by omega
        have hz : (48 + (d : Int)) = ((digB d).toNat : Int) := by rw [digB_nat hd9]; omega
        have hcv := conv_one w2 (digB d) _ hz
        have hd1 : (B [digB d]).size = 1 := B_size _
        have HC := Lib.hid (B_append [digB d] R)
        have HZ := Lib.hid (show d + c + q = p + 10 * 1 by omega)
        clear hz
        go_wp2_with fail
        refine ⟨⟨i + 1, 1, digB d :: R, by omega, by go_num, rfl, congrArg Value.string HC.out, ?_, hb3.alloc hb3.size _⟩, by simp [intOf]; omega⟩
        exact miInv_next HI.out hd9 (by decide) (by rw [← HPQ.out.1, ← HPQ.out.2]; exact HZ.out)
      · obtain ⟨d, hd⟩ : ∃ d : Nat, (p : Int) - q - c = d := ⟨((p : Int) - q - c).toNat, by omega⟩
        have hd9 : d < 10 := by omega
        have hz : (48 + (d : Int)) = ((digB d).toNat : Int) := by rw [digB_nat hd9]; omega
        have hcv := conv_one w2 (digB d) _ hz
        have hd1 : (B [digB d]).size = 1 := B_size _
        have HC := Lib.hid (B_append [digB d] R)
        have HZ := Lib.hid (show d + c + q = p + 10 * 0 by omega)
        have hneg2 : ¬ (d : Int) < 0 := by omega
        clear hz hneg
        go_wp2_with fail
        refine ⟨⟨i + 1, 0, digB d :: R, by omega, by go_num, rfl, congrArg Value.string HC.out, ?_, hb3.alloc hb3.size _⟩, by simp [intOf]; omega⟩
        exact miInv_next HI.out hd9 (by decide) (by rw [← HPQ.out.1, ← HPQ.out.2]; exact HZ.out)
    · have hi2 : i = s.size := by omega
      have hv := miInv_end HI.out (by rw [hi2]; exact HX.out.1) HX.out.2
      have hA := HB.out R HI.out.1 (by rw [HI.out.2.1]; unfold maxLen; omega)
      rw [hv] at hA
      have HA := Lib.hid hA
      clear hA hv
      go_wp2_with fail
      refine (HA.out _).mono ?_
      rintro e w3 ⟨rfl, rfl⟩
      go_wp2_with fail
      go_ret
      exact ⟨rfl, hb⟩
theorem dec_add_len {x y k : Nat} (hk : 0 < k) (hx : (Lib.decDigits x).length ≤ k) (hy : (Lib.decDigits y).length ≤ k) : (Lib.decDigits (x + y)).length ≤ k + 1 := by
  refine (decDigits_len_le (by omega)).2 ?_
  have h1 := (decDigits_len_le hk).1 hx
  have h2 := (decDigits_len_le hk).1 hy
  rw [Nat.pow_succ]
  generalize 10 ^ k = t at *
  omega
theorem dec_le_len {x y : Nat} (h : x ≤ y) {k : Nat} (hk : 0 < k) (hy : (Lib.decDigits y).length ≤ k) : (Lib.decDigits x).length ≤ k := (decDigits_len_le hk).2 (Nat.lt_of_le_of_lt h ((decDigits_len_le hk).1 hy))
/-- A whole number whose figures are k at most. -/
def Figs (k : Nat) (x : Int) : Prop := (Lib.decDigits x.natAbs).length ≤ k
theorem itoa_len (x : Int) : (Lib.itoa x).length ≤ (Lib.decDigits x.natAbs).length + 1 := by
  rcases Int.lt_or_le x 0 with h | h
  · rw [itoa_neg h]; simp
  · rw [itoa_pos h]; omega
theorem itoa_head (x : Int) : decide ((Lib.itoa x).head? = some 45) = decide (x < 0) := by
  rcases Int.lt_or_le x 0 with h | h
  · rw [itoa_neg h]; simp [h]
  · rw [itoa_pos h, decide_eq_false (dec_head _), decide_eq_false (by omega)]
theorem rlow_S (x : Int) (w : World) : Calls Tryz.prog 23 #[.string (S x)] w fun e w' => e = .returned (.bool (decide (x < 0))) ∧ w = w' := rlow_any (S x) _ (itoa_head x) w
theorem rsize_S (x : Int) (hx : Figs 4000 x) (w : World) : Calls Tryz.prog 22 #[.string (S x)] w fun e w' => e = .returned (.string (B (Lib.decDigits x.natAbs))) ∧ w = w' := by
  have h := rsize_any (Lib.itoa x) (by have := itoa_len x; unfold Figs at hx; unfold maxLen; omega) w
  rw [figs_itoa] at h
  exact h
theorem rsigned_D (n : Nat) (hn : (Lib.decDigits n).length ≤ 4000) (b : Bool) (w : World) : Calls Tryz.prog 49 #[.string (B (Lib.decDigits n)), .bool b] w (SignedPost (sgn b n) w) := by
  have h := rsigned_any (Lib.decDigits n) (decDigits_dig n) (by unfold maxLen; omega) (by rw [dval_decDigits]; omega) b w
  rwa [dval_decDigits] at h
set_option maxRecDepth 10000 in
set_option maxHeartbeats 1600000 in
theorem rturned_any (x : Int) (hx : Figs 4000 x) (w : World) : Calls Tryz.prog 28 #[.string (S x)] w (SignedPost (-x) w) := by
  have h1 := rsize_S x hx
  have h2 := rlow_S x
  have h3 := rsigned_D x.natAbs hx (!decide (x < 0))
  have hv : sgn (!decide (x < 0)) x.natAbs = -x := by
    by_cases h : x < 0
    · rw [decide_eq_true h]; show (x.natAbs : Int) = -x; omega
    · rw [decide_eq_false h]; show -(x.natAbs : Int) = -x; omega
  rw [hv] at h3
  have H1 := Lib.hid h1
  have H2 := Lib.hid h2
  have H3 := Lib.hid h3
  clear h1 h2 h3 hv hx
  generalize S x = s at *
  generalize B (Lib.decDigits x.natAbs) = t at *
  generalize decide (x < 0) = b at *
  go_enter Tryz.func28, Tryz.ntmps28
  go_wp2_with fail
  refine (H1.out _).mono ?_
  rintro e w1 ⟨rfl, rfl⟩
  go_wp2_with fail
  refine (H2.out _).mono ?_
  rintro e w1 ⟨rfl, rfl⟩
  go_wp2_with fail
  refine (H3.out _).mono ?_
  rintro e w1 ⟨rfl, rfl⟩
  go_wp2_with fail
  go_ret
  exact ⟨rfl, rfl⟩
theorem cmpN_ge {x y : Nat} (h : y ≤ x) : ¬ cmpN x y < 0 := by unfold cmpN; split <;> (try split) <;> omega
set_option maxRecDepth 10000 in
set_option maxHeartbeats 1600000 in
theorem rsum_any (x y : Int) (hx : Figs 3999 x) (hy : Figs 3999 y) (w : World) : Calls Tryz.prog 32 #[.string (S x), .string (S y)] w (StrEnd (S (x + y)) w) := by
  unfold Figs at hx hy
  have h1 := rlow_S x
  have h2 := rlow_S y
  have h3 := rsize_S x (by unfold Figs; omega)
  have h4 := rsize_S y (by unfold Figs; omega)
  have H1 := Lib.hid h1
  have H2 := Lib.hid h2
  have H3 := Lib.hid h3
  have H4 := Lib.hid h4
  clear h1 h2 h3 h4
  by_cases hs : decide (x < 0) = decide (y < 0)
  · have h5 := rplus_any x.natAbs y.natAbs (by omega) (by omega)
    have h6 := rsigned_D (x.natAbs + y.natAbs) (dec_add_len (by decide) hx hy) (decide (x < 0))
    have hv : sgn (decide (x < 0)) (x.natAbs + y.natAbs) = x + y := by
      by_cases h : x < 0
      · have h' : y < 0 := of_decide_eq_true (by rw [← hs]; exact decide_eq_true h)
        rw [decide_eq_true h]; show -((x.natAbs + y.natAbs : Nat) : Int) = x + y; omega
      · have h' : ¬ y < 0 := of_decide_eq_false (by rw [← hs]; exact decide_eq_false h)
        rw [decide_eq_false h]; show ((x.natAbs + y.natAbs : Nat) : Int) = x + y; omega
    rw [hv] at h6
    have H5 := Lib.hid h5
    have H6 := Lib.hid h6
    have e0 : (decide (x < 0) == decide (y < 0)) = true := by rw [hs]; simp
    clear h5 h6 hv hx hy hs
    generalize S x = s at *
    generalize S y = t at *
    generalize B (Lib.decDigits x.natAbs) = s1 at *
    generalize B (Lib.decDigits y.natAbs) = t1 at *
    generalize decide (x < 0) = b at *
    generalize decide (y < 0) = c at *
    go_enter Tryz.func32, Tryz.ntmps32
    go_wp2_with fail
    refine (H1.out _).mono ?_
    rintro e w1 ⟨rfl, rfl⟩
    go_wp2_with fail
    refine (H2.out _).mono ?_
    rintro e w1 ⟨rfl, rfl⟩
    go_wp2_with fail
    refine (H3.out _).mono ?_
    rintro e w1 ⟨rfl, rfl⟩
    go_wp2_with fail
    refine (H4.out _).mono ?_
    rintro e w1 ⟨rfl, rfl⟩
    go_wp2_with fail
    refine (H5.out _).mono ?_
    rintro e w1 ⟨rfl, hb⟩
    go_wp2_with fail
    refine (H1.out _).mono ?_
    rintro e w1 ⟨rfl, rfl⟩
    go_wp2_with fail
    refine (H6.out _).mono ?_
    rintro e w1 ⟨rfl, rfl⟩
    go_wp2_with fail
    go_ret
    exact ⟨rfl, hb⟩
  · by_cases hle : y.natAbs ≤ x.natAbs
    · have h5 := rminus_any x.natAbs y.natAbs (by omega) (by omega) (by omega)
      have h6 := rsigned_D (x.natAbs - y.natAbs) (dec_le_len (y := x.natAbs) (by omega) (by decide) (by omega)) (decide (x < 0))
      have h7 := rmore_any x.natAbs y.natAbs (by omega) (by omega)
      have hv : sgn (decide (x < 0)) (x.natAbs - y.natAbs) = x + y := by
        by_cases h : x < 0
        · have h' : ¬ y < 0 := fun h2 => hs ((decide_eq_true (p := x < 0) (by omega)).trans (decide_eq_true (p := y < 0) (by omega)).symm)
          rw [decide_eq_true h]; show -((x.natAbs - y.natAbs : Nat) : Int) = x + y; omega
        · have h' : y < 0 := by
            rcases Int.lt_or_le y 0 with h2 | h2
            · exact h2
            · exact absurd ((decide_eq_false (p := x < 0) (by omega)).trans (decide_eq_false (p := y < 0) (by omega)).symm) hs
          rw [decide_eq_false h]; show ((x.natAbs - y.natAbs : Nat) : Int) = x + y; omega
      rw [hv] at h6
      have hzz : ¬ cmpN x.natAbs y.natAbs < 0 := cmpN_ge hle
      have H5 := Lib.hid h5
      have H6 := Lib.hid h6
      have H7 := Lib.hid h7
      have e0 : (decide (x < 0) == decide (y < 0)) = false := beq_eq_false_iff_ne.2 hs
      clear h5 h6 h7 hv hx hy hs hle
      generalize S x = s at *
      generalize S y = t at *
      generalize B (Lib.decDigits x.natAbs) = s1 at *
      generalize B (Lib.decDigits y.natAbs) = t1 at *
      generalize decide (x < 0) = b at *
      generalize decide (y < 0) = c at *
      generalize hz : cmpN x.natAbs y.natAbs = z at *
      go_enter Tryz.func32, Tryz.ntmps32
      go_wp2_with fail
      refine (H1.out _).mono ?_
      rintro e w1 ⟨rfl, rfl⟩
      go_wp2_with fail
      refine (H2.out _).mono ?_
      rintro e w1 ⟨rfl, rfl⟩
      go_wp2_with fail
      refine (H3.out _).mono ?_
      rintro e w1 ⟨rfl, rfl⟩
      go_wp2_with fail
      refine (H4.out _).mono ?_
      rintro e w1 ⟨rfl, rfl⟩
      go_wp2_with fail
      refine (H7.out _).mono ?_
      rintro e w2 ⟨rfl, hd⟩
      have hb1 : Below w.heap.size w w2 := hd.below
      clear hd
      go_wp2_with fail
      refine (H3.out _).mono ?_
      rintro e w1 ⟨rfl, rfl⟩
      go_wp2_with fail
      refine (H4.out _).mono ?_
      rintro e w1 ⟨rfl, rfl⟩
      go_wp2_with fail
      refine (H5.out _).mono ?_
      rintro e w3 ⟨rfl, hb⟩
      have hb3 := hb1.trans (hb.mono hb1.size)
      go_wp2_with fail
      refine (H1.out _).mono ?_
      rintro e w1 ⟨rfl, rfl⟩
      go_wp2_with fail
      refine (H6.out _).mono ?_
      rintro e w1 ⟨rfl, rfl⟩
      go_wp2_with fail
      go_ret
      exact ⟨rfl, hb3⟩
    · have h5 := rminus_any y.natAbs x.natAbs (by omega) (by omega) (by omega)
      have h6 := rsigned_D (y.natAbs - x.natAbs) (dec_le_len (y := y.natAbs) (by omega) (by decide) (by omega)) (decide (y < 0))
      have h7 := rmore_any x.natAbs y.natAbs (by omega) (by omega)
      have hv : sgn (decide (y < 0)) (y.natAbs - x.natAbs) = x + y := by
        by_cases h : y < 0
        · have h' : ¬ x < 0 := fun h2 => hs ((decide_eq_true (p := x < 0) (by omega)).trans (decide_eq_true (p := y < 0) (by omega)).symm)
          rw [decide_eq_true h]; show -((y.natAbs - x.natAbs : Nat) : Int) = x + y; omega
        · have h' : x < 0 := by
            rcases Int.lt_or_le x 0 with h2 | h2
            · exact h2
            · exact absurd ((decide_eq_false (p := x < 0) (by omega)).trans (decide_eq_false (p := y < 0) (by omega)).symm) hs
          rw [decide_eq_false h]; show ((y.natAbs - x.natAbs : Nat) : Int) = x + y; omega
      rw [hv] at h6
      have hzz : cmpN x.natAbs y.natAbs < 0 := by rw [cmpN_of_lt (by omega)]; decide
      have H5 := Lib.hid h5
      have H6 := Lib.hid h6
      have H7 := Lib.hid h7
      have e0 : (decide (x < 0) == decide (y < 0)) = false := beq_eq_false_iff_ne.2 hs
      clear h5 h6 h7 hv hx hy hs hle
      generalize S x = s at *
      generalize S y = t at *
      generalize B (Lib.decDigits x.natAbs) = s1 at *
      generalize B (Lib.decDigits y.natAbs) = t1 at *
      generalize decide (x < 0) = b at *
      generalize decide (y < 0) = c at *
      generalize hz : cmpN x.natAbs y.natAbs = z at *
      go_enter Tryz.func32, Tryz.ntmps32
      go_wp2_with fail
      refine (H1.out _).mono ?_
      rintro e w1 ⟨rfl, rfl⟩
      go_wp2_with fail
      refine (H2.out _).mono ?_
      rintro e w1 ⟨rfl, rfl⟩
      go_wp2_with fail
      refine (H3.out _).mono ?_
      rintro e w1 ⟨rfl, rfl⟩
      go_wp2_with fail
      refine (H4.out _).mono ?_
      rintro e w1 ⟨rfl, rfl⟩
      go_wp2_with fail
      refine (H7.out _).mono ?_
      rintro e w2 ⟨rfl, hd⟩
      have hb1 : Below w.heap.size w w2 := hd.below
      clear hd
      go_wp2_with fail
      refine (H4.out _).mono ?_
      rintro e w1 ⟨rfl, rfl⟩
      go_wp2_with fail
      refine (H3.out _).mono ?_
      rintro e w1 ⟨rfl, rfl⟩
      go_wp2_with fail
      refine (H5.out _).mono ?_
      rintro e w3 ⟨rfl, hb⟩
      have hb3 := hb1.trans (hb.mono hb1.size)
      go_wp2_with fail
      refine (H2.out _).mono ?_
      rintro e w1 ⟨rfl, rfl⟩
      go_wp2_with fail
      refine (H6.out _).mono ?_
      rintro e w1 ⟨rfl, rfl⟩
      go_wp2_with fail
      go_ret
      exact ⟨rfl, hb3⟩
end Go.Proofs.YtinhbmjfeabecaaGreatDoor

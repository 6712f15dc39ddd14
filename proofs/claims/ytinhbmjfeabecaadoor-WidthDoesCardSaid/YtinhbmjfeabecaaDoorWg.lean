import Derived.Test.YtinhbmjfeabecaaDoorWf
namespace Go.Proofs.YtinhbmjfeabecaaDoor
open Go.RowKit

def I64 (x : Int) : Prop := -9223372036854775808 ≤ x ∧ x ≤ 9223372036854775807
instance (x : Int) : Decidable (I64 x) := by unfold I64; infer_instance
theorem wrap_spec (n : Int) : ∃ k : Int, IntKind.i64.wrap n = n - k * 18446744073709551616 ∧ I64 (IntKind.i64.wrap n) := by
  have e : IntKind.i64.wrap n = if n % 18446744073709551616 ≥ 9223372036854775808 then n % 18446744073709551616 - 18446744073709551616 else n % 18446744073709551616 := by
    simp [IntKind.wrap, IntKind.bits, IntKind.signed]
  rw [e]
  unfold I64
  split
  · exact ⟨n / 18446744073709551616 + 1, by omega, by omega⟩
  · exact ⟨n / 18446744073709551616, by omega, by omega⟩
theorem wrap_in {n : Int} (h : I64 n) : IntKind.i64.wrap n = n := by
  obtain ⟨k, h1, h2⟩ := wrap_spec n
  unfold I64 at h h2
  omega
/-- What is told in a width: a's and b's r, if all three fit. -/
def OkW (a b r w : Int) : Prop := I64 r ∧ Fit a w ∧ Fit b w ∧ Fit r w
instance (a b r w : Int) : Decidable (OkW a b r w) := by unfold OkW; infer_instance
def valW (a b r w : Int) : Int := if OkW a b r w then r else 0
def WPost (a b r w : Int) (W : World) (e : Ending) (W' : World) : Prop := e = .returned (.tuple #[.int .i64 (valW a b r w), .bool (decide (OkW a b r w))]) ∧ W = W'
def fitV (fa fb fr wr : Bool) : Bool := !wr && fa && fb && fr
set_option maxRecDepth 10000 in
theorem fitting_any (a b s w : Int) (wr fa fb fr : Bool) (HA : FitsIs a w fa) (HB : FitsIs b w fb) (HR : FitsIs s w fr) (W : World) (ht : WTab W) :
    Calls Tryd.prog 31 #[.int .i64 a, .int .i64 b, .int .i64 s, .bool wr, .int .i64 w] W fun e W' =>
      e = .returned (.tuple #[.int .i64 (if fitV fa fb fr wr then s else 0), .bool (fitV fa fb fr wr)]) ∧ W = W' := by
  have KA := Lib.hid HA
  have KB := Lib.hid HB
  have KR := Lib.hid HR
  clear HA HB HR
  cases wr
  · cases fa
    · go_enter Tryd.func31, Tryd.ntmps31
      go_wp2_with fail
      refine (KA.out _ ht).mono ?_
      rintro e w1 ⟨rfl, rfl⟩
      go_wp2_with fail
      go_ret2
      exact ⟨rfl, rfl⟩
    · cases fb
      · go_enter Tryd.func31, Tryd.ntmps31
        go_wp2_with fail
        refine (KA.out _ ht).mono ?_
        rintro e w1 ⟨rfl, rfl⟩
        go_wp2_with fail
        refine (KB.out _ ht).mono ?_
        rintro e w1 ⟨rfl, rfl⟩
        go_wp2_with fail
        go_ret2
        exact ⟨rfl, rfl⟩
      · cases fr
        all_goals
          go_enter Tryd.func31, Tryd.ntmps31
          go_wp2_with fail
          refine (KA.out _ ht).mono ?_
          rintro e w1 ⟨rfl, rfl⟩
          go_wp2_with fail
          refine (KB.out _ ht).mono ?_
          rintro e w1 ⟨rfl, rfl⟩
          go_wp2_with fail
          refine (KR.out _ ht).mono ?_
          rintro e w1 ⟨rfl, rfl⟩
          go_wp2_with fail
          go_ret2
          exact ⟨rfl, rfl⟩
  · go_enter Tryd.func31, Tryd.ntmps31
    go_wp2_with fail
    go_ret2
    exact ⟨rfl, rfl⟩
theorem fit_post {a b r s w : Int} {wr : Bool} (hs : wr = false ↔ I64 r) (hr : I64 r → s = r) {W : World} {e : Ending} {W' : World}
    (h : e = .returned (.tuple #[.int .i64 (if fitV (decide (Fit a w)) (decide (Fit b w)) (decide (Fit s w)) wr then s else 0), .bool (fitV (decide (Fit a w)) (decide (Fit b w)) (decide (Fit s w)) wr)]) ∧ W = W') : WPost a b r w W e W' := by
  obtain ⟨rfl, rfl⟩ := h
  refine ⟨?_, rfl⟩
  have e1 : fitV (decide (Fit a w)) (decide (Fit b w)) (decide (Fit s w)) wr = decide (OkW a b r w) := by
    rw [Bool.eq_iff_iff, decide_eq_true_iff]
    unfold OkW
    simp only [fitV, Bool.and_eq_true, Bool.not_eq_true', decide_eq_true_eq]
    constructor
    · intro h
      have := hs.1 h.1.1.1
      exact ⟨this, h.1.1.2, h.1.2, hr this ▸ h.2⟩
    · intro h
      exact ⟨⟨⟨hs.2 h.1, h.2.1⟩, h.2.2.1⟩, (hr h.1).symm ▸ h.2.2.2⟩
  rw [e1]
  unfold valW
  by_cases h : OkW a b r w
  · simp only [h, decide_true, if_true, hr h.1]
  · simp only [h, decide_false, if_false, Bool.false_eq_true]
set_option maxRecDepth 10000 in
theorem Add_w (a b w : Int) (ha : I64 a) (hb : I64 b) (W : World) (ht : WTab W) : Calls Tryd.prog 18 #[.int .i64 a, .int .i64 b, .int .i64 w] W (WPost a b (a + b) w W) := by
  obtain ⟨k, hk, hs⟩ := wrap_spec (a + b)
  generalize hx : IntKind.i64.wrap (a + b) = s at hk hs
  have hwr : (!(decide (s < a) == decide (b < 0))) = false ↔ I64 (a + b) := by
    unfold I64 at *
    rw [Bool.not_eq_false', beq_iff_eq, decide_eq_decide]
    omega
  have hr : I64 (a + b) → s = a + b := by unfold I64 at *; omega
  have HF := fun W ht => (fitting_any a b s w (!(decide (s < a) == decide (b < 0))) _ _ _ (fits_any a w ha.1 ha.2) (fits_any b w hb.1 hb.2) (fits_any s w hs.1 hs.2) W ht).mono fun e W' h => fit_post hwr hr h
  have K := Lib.hid HF
  have HT := Lib.hid ht
  clear HF hwr hr hk hs
  go_enter Tryd.func18, Tryd.ntmps18
  go_wp2_with fail
  refine (K.out _ HT.out).mono ?_
  rintro e w1 ⟨rfl, rfl⟩
  go_wp2_with fail
  go_ret2
  exact ⟨rfl, rfl⟩
set_option maxRecDepth 10000 in
theorem Sub_w (a b w : Int) (ha : I64 a) (hb : I64 b) (W : World) (ht : WTab W) : Calls Tryd.prog 20 #[.int .i64 a, .int .i64 b, .int .i64 w] W (WPost a b (a - b) w W) := by
  obtain ⟨k, hk, hs⟩ := wrap_spec (a - b)
  generalize hx : IntKind.i64.wrap (a - b) = s at hk hs
  have hwr : (!(decide (a < s) == decide (b < 0))) = false ↔ I64 (a - b) := by
    unfold I64 at *
    rw [Bool.not_eq_false', beq_iff_eq, decide_eq_decide]
    omega
  have hr : I64 (a - b) → s = a - b := by unfold I64 at *; omega
  have HF := fun W ht => (fitting_any a b s w (!(decide (a < s) == decide (b < 0))) _ _ _ (fits_any a w ha.1 ha.2) (fits_any b w hb.1 hb.2) (fits_any s w hs.1 hs.2) W ht).mono fun e W' h => fit_post hwr hr h
  have K := Lib.hid HF
  have HT := Lib.hid ht
  clear HF hwr hr hk hs
  go_enter Tryd.func20, Tryd.ntmps20
  go_wp2_with fail
  refine (K.out _ HT.out).mono ?_
  rintro e w1 ⟨rfl, rfl⟩
  go_wp2_with fail
  go_ret2
  exact ⟨rfl, rfl⟩
/-- Whether a product of two int64 is another number than the int64 that came of it. -/
theorem over_spec {a b p q k : Int} (ha : I64 a) (hb : I64 b) (hp : I64 p) (hk : p = a * b - k * 18446744073709551616) (h0 : a ≠ 0) (hq : IntKind.i64.wrap (p.tdiv a) = q) :
    (q ≠ b ∨ (a = -1 ∧ b = -9223372036854775808)) ↔ ¬ I64 (a * b) := by
  have hd := Int.mul_tdiv_add_tmod p a
  have hm : (p.tmod a).natAbs < a.natAbs := by
    rw [Int.natAbs_tmod]; exact Nat.mod_lt _ (by omega)
  have hle : (p.tdiv a).natAbs ≤ p.natAbs := by
    rw [Int.natAbs_tdiv]; exact Nat.div_le_self _ _
  by_cases hi : I64 (a * b)
  · have hk0 : k = 0 := by unfold I64 at *; omega
    have e : p = a * b := by rw [hk, hk0]; omega
    have et : p.tdiv a = b := by rw [e]; exact Int.mul_tdiv_cancel_left b h0
    have eq : q = b := by rw [← hq, et]; exact wrap_in hb
    constructor
    · rintro (h | ⟨rfl, rfl⟩)
      · exact absurd eq h
      · exact absurd hi (by decide)
    · exact fun h => absurd hi h
  · refine ⟨fun _ => hi, fun _ => ?_⟩
    rcases Decidable.em (q = b) with e | e
    · right
      obtain ⟨j, hj, hj'⟩ := wrap_spec (p.tdiv a)
      rw [hq, e] at hj
      rcases Decidable.em (I64 (p.tdiv a)) with ht | ht
      · exfalso
        have ej : p.tdiv a = b := by rw [← e, ← hq]; exact (wrap_in ht).symm
        rw [ej] at hd
        have hk0 : k = 0 := by unfold I64 at *; omega
        apply hi
        rw [show a * b = p by rw [hk, hk0]; omega]
        exact hp
      · have e63 : p.tdiv a = 9223372036854775808 := by unfold I64 at *; omega
        rw [e63] at hd hj
        have hb' : b = -9223372036854775808 := by unfold I64 at *; omega
        refine ⟨?_, hb'⟩
        have : p = -9223372036854775808 := by unfold I64 at *; omega
        omega
    · exact .inl e
set_option maxRecDepth 10000 in
theorem over_any (a b p : Int) (ha : I64 a) (hb : I64 b) (W : World) (hp : IntKind.i64.wrap (a * b) = p) : Calls Tryd.prog 36 #[.int .i64 a, .int .i64 b, .int .i64 p] W fun e W' => e = .returned (.bool (!decide (I64 (a * b)))) ∧ W = W' := by
  obtain ⟨k, hk, hs⟩ := wrap_spec (a * b)
  rw [hp] at hk hs
  by_cases h0 : a = 0
  · subst h0
    have hi : I64 (0 * b) := by rw [Int.zero_mul]; decide
    go_enter Tryd.func36, Tryd.ntmps36
    go_wp2_with fail
    go_ret
    exact ⟨ret_w (by rw [decide_eq_true hi]; rfl), rfl⟩
  · obtain ⟨q, hq⟩ : ∃ q, IntKind.i64.wrap (p.tdiv a) = q := ⟨_, rfl⟩
    have K := Lib.hid (over_spec ha hb hs hk h0 hq)
    clear hk hs hp
    go_enter Tryd.func36, Tryd.ntmps36
    go_wp2_with fail
    all_goals
      go_ret
      refine ⟨ret_w ?_, rfl⟩
      rw [Bool.eq_iff_iff, Bool.not_eq_true', decide_eq_false_iff_not, ← K.out]
      simp [*]
set_option maxRecDepth 10000 in
theorem Mul_w (a b w : Int) (ha : I64 a) (hb : I64 b) (W : World) (ht : WTab W) : Calls Tryd.prog 21 #[.int .i64 a, .int .i64 b, .int .i64 w] W (WPost a b (a * b) w W) := by
  obtain ⟨k, hk, hs⟩ := wrap_spec (a * b)
  generalize hx : IntKind.i64.wrap (a * b) = s at hk hs
  have hwr : (!decide (I64 (a * b))) = false ↔ I64 (a * b) := by simp
  have hr : I64 (a * b) → s = a * b := by unfold I64 at *; omega
  have HF := fun W ht => (fitting_any a b s w (!decide (I64 (a * b))) _ _ _ (fits_any a w ha.1 ha.2) (fits_any b w hb.1 hb.2) (fits_any s w hs.1 hs.2) W ht).mono fun e W' h => fit_post hwr hr h
  have K := Lib.hid HF
  have KO := Lib.hid (fun W => over_any a b s ha hb W hx)
  have HT := Lib.hid ht
  clear HF hwr hr hk hs
  go_enter Tryd.func21, Tryd.ntmps21
  go_wp2_with fail
  refine (KO.out _).mono ?_
  rintro e w1 ⟨rfl, rfl⟩
  go_wp2_with fail
  refine (K.out _ HT.out).mono ?_
  rintro e w1 ⟨rfl, rfl⟩
  go_wp2_with fail
  go_ret2
  exact ⟨rfl, rfl⟩
end Go.Proofs.YtinhbmjfeabecaaDoor

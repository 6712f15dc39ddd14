import Derived.Test.YtogphdflgcdiiaaDoorMaf
namespace Go.Proofs.YtogphdflgcdiiaaDoor
set_option linter.unusedVariables false
set_option linter.unusedSimpArgs false
open Go.RowKit

theorem lower_end {F F' : Nat → Nat} {m : List Nat} {q o n c x : Nat} (h : LowerInv F m q o n c F') (hm : m.length ≤ n) (hx : vf F o n = x) (hle : q * val m ≤ x) : vf F' o n = x - q * val m ∧ c = 0 := by
  have e := h.eq
  rw [List.take_of_length_le hm, hx] at e
  have hlt := vf_lt h.ok
  have : c = 0 := by
    rcases Nat.eq_zero_or_pos c with h0 | h0
    · exact h0
    · have : 1000000000 ^ n * 1 ≤ 1000000000 ^ n * c := Nat.mul_le_mul_left _ h0
      omega
  subst this
  exact ⟨by omega, rfl⟩

set_option maxRecDepth 10000 in
set_option maxHeartbeats 800000 in
theorem less_any (A B : Option Addr) (l m : List Nat) (c d : Nat) (w : World) (hA : Sz w A l) (hB : Sz w B m) (ol : Ok l) (om : Ok m) (hl : l.length ≤ 1000) (hml : m.length ≤ l.length) (hv : val m ≤ val l) :
    Calls Tryd.prog 69 #[.slice A l.length c, .slice B m.length d] w fun e w' => ∃ v, e = .returned v ∧ SzN w' v (val l - val m) ∧ Below w.heap.size w w' := by
  have hmk := run_mkz l.length (l.length : Int) (by omega) (by omega)
  have HV := Lib.hid hv
  clear hv
  go_enter Tryd.func69, Tryd.ntmps69
  go_wp2_with ((with_reducible refine wpList_copy_sz rfl (.tmp 9) (.tmp 10) rfl w.heap.size l.length l.length (fun _ => 0) A l c rfl rfl (Rw.made w _) (hA.below ((Below.refl _ _).alloc (Nat.le_refl _) _)) (by omega) ?_); intro w1 hR1 hO1)
  go_wp2_with fail
  have hF : ∀ j, 0 ≤ j → j < 0 + l.length → over l (fun _ => 0) j < 1000000000 := fun j _ _ => over_ok ol (fun _ _ => by decide) j
  have hB1 : Below w.heap.size w w1 := (((Below.refl _ _).alloc (Nat.le_refl _) _).trans (hO1.to_below (Nat.le_refl _) (by simp)))
  have hBx := hB.below hB1
  refine (lower_any w.heap.size 0 l.length l.length l.length _ B m d 1 _ hR1 hF (by omega) (by unfold maxLen; omega) hBx (hB.off (Nat.le_refl _)) om (by unfold maxLen; omega) (by omega)).mono ?_
  rintro e w2 ⟨c2, F2, rfl, hI, hR2, hO2⟩
  have hend := lower_end hI (by omega) (vf_over _ _) (by rw [Nat.one_mul]; exact HV.out)
  have HE := Lib.hid hend
  have hB2 : Below w.heap.size w w2 := hB1.trans (hO2.to_below (Nat.le_refl _) hB1.size)
  clear hend hB1 hO2 hO1 hR1 hBx hB hA
  go_wp2_with fail
  refine (trimmed_row w.heap.size 0 l.length l.length l.length F2 _ hR2 (by omega) hI.ok (by omega) (by unfold maxLen; omega)).mono ?_
  rintro e w3 ⟨rfl, rfl⟩
  go_wp2_with fail
  go_ret
  exact ⟨_, rfl, (SzN.of_row hR2 0 _ _ (by omega) hI.ok).conv (by rw [HE.out.1, Nat.one_mul]), hB2⟩

/-! ### multiplied -/
structure InInv (F : Nat → Nat) (m : List Nat) (p o k c : Nat) (F' : Nat → Nat) : Prop where
  le : c ≤ 999999999
  out : ∀ j, j < o ∨ o + k ≤ j → F' j = F j
  ok : ∀ j, o ≤ j → j < o + k → F' j < 1000000000
  eq : vf F' o k + 1000000000 ^ k * c = vf F o k + p * val (m.take k)
theorem InInv.start (F : Nat → Nat) (m : List Nat) (p o : Nat) : InInv F m p o 0 0 F := ⟨by omega, fun _ _ => rfl, fun _ h1 h2 => by omega, by simp [vf, val]⟩
theorem mul_le_sq {p q : Nat} (hp : p < 1000000000) (hq : q < 1000000000) : p * q ≤ 999999998000000001 :=
  Nat.le_trans (Nat.mul_le_mul (show p ≤ 999999999 by omega) (show q ≤ 999999999 by omega)) (by decide)
theorem InInv.step {F : Nat → Nat} {m : List Nat} {p o k c : Nat} {F' : Nat → Nat} (h : InInv F m p o k c F') (hF : F (o + k) < 1000000000) (hp : p < 1000000000) (hm : Ok m) (hk : k < m.length)
    {x : Nat} (hx : x = c + (F (o + k) + p * m[k])) : InInv F m p o (k + 1) (x / 1000000000) (upd F' (o + k) (x % 1000000000)) := by
  have h1 := mul_le_sq hp (ok_get hm hk)
  have h2 := h.le
  refine ⟨by omega, fun j hj => ?_, fun j h3 h4 => ?_, ?_⟩
  · unfold upd; rw [if_neg (by omega)]; exact h.out j (by omega)
  · unfold upd; split
    · exact Nat.mod_lt _ (by decide)
    · exact h.ok j h3 (by omega)
  · simp only [vf]
    rw [vf_upd_out (.inr (by omega)), val_take_succ]
    have em : m.getD k 0 = m[k] := by rw [List.getD_eq_getElem?_getD, List.getElem?_eq_getElem hk]; rfl
    have h3 := h.eq
    have h4 : upd F' (o + k) (x % 1000000000) (o + k) = x % 1000000000 := by unfold upd; rw [if_pos rfl]
    rw [h4, em, Nat.pow_succ, Nat.mul_add]
    have h6 : 1000000000 ^ k * (x % 1000000000) + 1000000000 ^ k * 1000000000 * (x / 1000000000) = 1000000000 ^ k * x := by
      rw [Nat.mul_assoc, ← Nat.mul_add]; congr 1; omega
    have h7 : 1000000000 ^ k * x = 1000000000 ^ k * c + (1000000000 ^ k * F (o + k) + p * (1000000000 ^ k * m[k])) := by
      rw [hx, Nat.mul_add, Nat.mul_add, Nat.mul_left_comm p]
    omega
structure OutInv (l m : List Nat) (i : Nat) (F : Nat → Nat) : Prop where
  ok : ∀ j, F j < 1000000000
  zero : ∀ j, i + m.length ≤ j → F j = 0
  eq : vf F 0 (i + m.length) = val (l.take i) * val m
theorem vf_zero (o k : Nat) : vf (fun _ => 0) o k = 0 := by
  induction k with
  | zero => rfl
  | succ k ih => simp [vf, ih]
theorem OutInv.start (l m : List Nat) : OutInv l m 0 (fun _ => 0) := ⟨fun _ => by decide, fun _ _ => rfl, by rw [vf_zero]; simp [val]⟩
theorem OutInv.step {l m : List Nat} {i : Nat} {F F' : Nat → Nat} {c : Nat} (h : OutInv l m i F) (hi : i < l.length) (k : InInv F m l[i] i m.length c F') : OutInv l m (i + 1) (upd F' (i + m.length) c) := by
  have hle := k.le
  refine ⟨fun j => ?_, fun j hj => ?_, ?_⟩
  · unfold upd; split
    · omega
    · by_cases hj : j < i ∨ i + m.length ≤ j
      · rw [k.out j hj]; exact h.ok j
      · exact k.ok j (by omega) (by omega)
  · unfold upd; rw [if_neg (by omega), k.out j (by omega)]; exact h.zero j (by omega)
  · have e := k.eq
    rw [List.take_of_length_le (Nat.le_refl _)] at e
    have eo := h.eq
    rw [vf_split] at eo
    rw [show i + 1 + m.length = i + (m.length + 1) by omega, vf_split, vf_upd_out (.inr (by omega)), vf_congr (F := F') (G := F) (fun j h1 h2 => k.out j (by omega)), Nat.zero_add]
    simp only [vf]
    rw [vf_upd_out (.inr (by omega)), show upd F' (i + m.length) c (i + m.length) = c by unfold upd; rw [if_pos rfl], e, val_take_succ]
    have em : l.getD i 0 = l[i] := by rw [List.getD_eq_getElem?_getD, List.getElem?_eq_getElem hi]; rfl
    rw [em, Nat.add_mul, Nat.mul_add, ← eo, Nat.zero_add, Nat.mul_assoc]; omega
end Go.Proofs.YtogphdflgcdiiaaDoor
namespace Go.Proofs.YtogphdflgcdiiaaDoor
set_option linter.unusedVariables false
set_option linter.unusedSimpArgs false
open Go.RowKit

theorem Rw.congr_of {w : World} {g N : Nat} {F G : Nat → Nat} (h : Rw w g N F) (e : F = G) : Rw w g N G := e ▸ h
set_option maxRecDepth 10000 in
set_option maxHeartbeats 1600000 in
theorem multiplied_any (A B : Option Addr) (l m : List Nat) (c d : Nat) (w : World) (hA : Sz w A l) (hB : Sz w B m) (ol : Ok l) (om : Ok m) (hl : l.length ≤ 1000) (hm : m.length ≤ 1000) :
    Calls Tryd.prog 71 #[.slice A l.length c, .slice B m.length d] w fun e w' => ∃ v, e = .returned v ∧ SzN w' v (val l * val m) ∧ Below w.heap.size w w' := by
  have hmk := run_mkz (l.length + m.length) ((l.length : Int) + (m.length : Int)) (by omega) (by omega)
  have hB0 : ∀ X, Below w.heap.size w (w.alloc X) := fun X => (Below.refl _ _).alloc (Nat.le_refl _) _
  have hR0 := Rw.made w (l.length + m.length)
  go_enter Tryd.func71, Tryd.ntmps71
  go_wp2_with fail
  have hO0 := Only.refl w.heap.size (w.alloc (.cells (madeCells #[.int .u32 0] (l.length + m.length)) 74))
  have hB1 := hB0 (.cells (madeCells #[.int .u32 0] (l.length + m.length)) 74)
  clear hmk hB0
  generalize w.alloc (.cells (madeCells #[.int .u32 0] (l.length + m.length)) 74) = w1 at hR0 hO0 hB1 ⊢
  have hA1 := hA.below hB1
  have hB2 := hB.below hB1
  have hAo := hA.off (Nat.le_refl _)
  have hBo := hB.off (Nat.le_refl _)
  obtain ⟨g, hg⟩ : ∃ g, g = w.heap.size := ⟨_, rfl⟩
  rw [← hg] at hR0 hO0 hB1 hAo hBo ⊢
  have HG := Lib.hid hg
  clear hg hA hB
  go_loopw [19] (fun i wr => ∃ (k : Nat) (F : Nat → Nat), k ≤ l.length ∧ i = .int .i64 k ∧ OutInv l m k F ∧ Rw wr g (l.length + m.length) F ∧ Only g w1 wr) (fun i _ => l.length - (intOf i).toNat)
  case atStart => exact ⟨0, _, Nat.zero_le _, rfl, OutInv.start l m, hR0, hO0⟩
  case round =>
    obtain ⟨k, F, hk, rfl, hI, hR, hW⟩ := hrel
    by_cases hlt : k < l.length
    · obtain ⟨b, o, rfl, hlt', hcell'⟩ := (hA1.only hAo hW).at_ (by rintro rfl; simp at hlt)
      have hcl := hcell' k hlt
      have hpl := ok_get ol hlt
      obtain ⟨p, hp⟩ : ∃ p, p = l[k] := ⟨_, rfl⟩
      rw [← hp] at hcl hpl
      have HP := Lib.hid hp
      clear hp hcell' hA1 hR0 hO0
      go_wp2_with fail
      obtain ⟨wo, rfl⟩ : ∃ wo : World, wo = wr := ⟨_, rfl⟩
      go_loopw [8, 26] (fun cv j wr => ∃ (q c : Nat) (F' : Nat → Nat), q ≤ m.length ∧ j = .int .i64 q ∧ cv = .int .u64 c ∧ InInv F m p k q c F' ∧ Rw wr g (l.length + m.length) F' ∧ Only g w1 wr) (fun _ j _ => m.length - (intOf j).toNat)
      case atStart => exact ⟨0, 0, F, Nat.zero_le _, rfl, rfl, InInv.start F m p k, hR, hW⟩
      case round =>
        obtain ⟨q, c, F', hq, rfl, rfl, hJ, hR', hW'⟩ := hrel
        have c1 := hJ.le
        by_cases hqm : q < m.length
        · obtain ⟨b', o', rfl, hlt2, hcell2⟩ := (hB2.only hBo hW').at_ (by rintro rfl; simp at hqm)
          have hcm := hcell2 q hqm
          have hFk := hI.ok (k + q)
          have e0 : F' (k + q) = F (k + q) := hJ.out _ (by omega)
          have hcell := hR'.cell (i := k + q) (by omega)
          have hfz := hR'.frozen (k + q)
          rw [e0] at hcell
          have hbd := mul_le_sq hpl (ok_get om hqm)
          have hst := hJ.step (x := c + (F (k + q) + p * m[q])) hFk hpl om hqm rfl
          have hmq := ok_get om hqm
          obtain ⟨r, hr⟩ : ∃ r, r = p * m[q] := ⟨_, rfl⟩
          have hr2 : (p : Int) * (m[q] : Int) = (r : Int) := by rw [hr]; push_cast; rfl
          rw [← hr] at hbd hst
          clear e0 hcell2 hr hR hW hI
          go_wp2_with fail
          go_roundw
          case rel => exact ⟨q + 1, _, _, by omega, by go_num, by rfl, hst, hR'.set _ _ (by rfl), hW'.setCell _ _⟩
          case measure => simp [intOf]; omega
        · have hqe : q = m.length := by omega
          subst hqe
          have hst := hI.step hlt (c := c) (F' := F') (HP.out ▸ hJ)
          have hcell := hR'.cell (i := k + m.length) (by omega)
          have hfz := hR'.frozen (k + m.length)
          clear hR hW hI
          go_wp2_with fail
          go_roundw
          case rel => exact ⟨k + 1, _, by omega, by go_num, hst, hR'.set _ _ (by rfl), hW'.setCell _ _⟩
          case measure => simp [intOf]; omega
    · have hke : k = l.length := by omega
      subst hke
      go_wp2_with fail
      refine (trimmed_row g 0 (l.length + m.length) (l.length + m.length) (l.length + m.length) F _ hR (by omega) (fun j _ _ => hI.ok j) (by omega) (by unfold maxLen; omega)).mono ?_
      rintro e w3 ⟨rfl, rfl⟩
      go_wp2_with fail
      go_ret
      have hv := hI.eq
      rw [List.take_of_length_le (Nat.le_refl _)] at hv
      exact ⟨_, rfl, (SzN.of_row hR 0 _ _ (by omega) (fun j _ _ => hI.ok j)).conv hv, HG.out ▸ hB1.trans (hW.to_below (Nat.le_refl _) (by rw [HG.out]; exact hB1.size))⟩
end Go.Proofs.YtogphdflgcdiiaaDoor

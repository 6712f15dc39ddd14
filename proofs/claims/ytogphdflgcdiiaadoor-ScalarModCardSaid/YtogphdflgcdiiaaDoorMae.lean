import Derived.Test.YtogphdflgcdiiaaDoorMad
namespace Go.Proofs.YtogphdflgcdiiaaDoor
set_option linter.unusedVariables false
set_option linter.unusedSimpArgs false
open Go.RowKit

theorem upd_upd (F : Nat → Nat) (i x y : Nat) : upd (upd F i x) i y = upd F i y := by
  funext j; unfold upd; split <;> rfl

structure LowerInv (F : Nat → Nat) (m : List Nat) (q o k c : Nat) (F' : Nat → Nat) : Prop where
  le : c ≤ 2000000002
  out : ∀ j, j < o ∨ o + k ≤ j → F' j = F j
  ok : ∀ j, o ≤ j → j < o + k → F' j < 1000000000
  eq : vf F' o k + q * val (m.take k) = vf F o k + 1000000000 ^ k * c
theorem LowerInv.start (F : Nat → Nat) (m : List Nat) (q o : Nat) : LowerInv F m q o 0 0 F := ⟨by omega, fun _ _ => rfl, fun _ h1 h2 => by omega, by simp [vf, val]⟩
theorem mul_le_bd {q x : Nat} (hq : q ≤ 2000000000) (hx : x < 1000000000) : q * x ≤ 1999999998000000000 :=
  Nat.le_trans (Nat.mul_le_mul hq (show x ≤ 999999999 by omega)) (by decide)
theorem LowerInv.step {F : Nat → Nat} {m : List Nat} {q o k c : Nat} {F' : Nat → Nat} (h : LowerInv F m q o k c F') (hF : F (o + k) < 1000000000) (hm : Ok m) (hq : q ≤ 2000000000)
    {y c' : Nat} (hy : y < 1000000000) (hy2 : y + (c + q * m.getD k 0) = F (o + k) + 1000000000 * c') (hc' : c' ≤ 2000000002) : LowerInv F m q o (k + 1) c' (upd F' (o + k) y) := by
  refine ⟨hc', fun j hj => ?_, fun j h3 h4 => ?_, ?_⟩
  · unfold upd; rw [if_neg (by omega)]; exact h.out j (by omega)
  · unfold upd; split
    · exact hy
    · exact h.ok j h3 (by omega)
  · simp only [vf]
    rw [vf_upd_out (.inr (by omega)), val_take_succ]
    have h3 := h.eq
    have h4 : upd F' (o + k) y (o + k) = y := by unfold upd; rw [if_pos rfl]
    rw [h4, Nat.pow_succ]
    have h6 := congrArg (fun z => 1000000000 ^ k * z) hy2
    simp only [Nat.mul_add] at h6
    rw [Nat.mul_add]
    have h7 : q * (1000000000 ^ k * m.getD k 0) = 1000000000 ^ k * (q * m.getD k 0) := by rw [Nat.mul_left_comm]
    have h8 : 1000000000 ^ k * 1000000000 * c' = 1000000000 ^ k * (1000000000 * c') := by rw [Nat.mul_assoc]
    omega
/-- One round where the part is not above what stands there. -/
theorem LowerInv.step_ge {F : Nat → Nat} {m : List Nat} {q o k c : Nat} {F' : Nat → Nat} (h : LowerInv F m q o k c F') (hF : F (o + k) < 1000000000) (hm : Ok m) (hq : q ≤ 2000000000)
    {x : Nat} (hx : x = c + q * m.getD k 0) (hge : x % 1000000000 ≤ F (o + k)) : LowerInv F m q o (k + 1) (x / 1000000000) (upd F' (o + k) (F (o + k) - x % 1000000000)) := by
  have h1 := mul_le_bd hq (ok_getD hm k)
  have h2 := h.le
  exact h.step hF hm hq (by omega) (by omega) (by omega)
theorem LowerInv.step_lt {F : Nat → Nat} {m : List Nat} {q o k c : Nat} {F' : Nat → Nat} (h : LowerInv F m q o k c F') (hF : F (o + k) < 1000000000) (hm : Ok m) (hq : q ≤ 2000000000)
    {x : Nat} (hx : x = c + q * m.getD k 0) (hge : F (o + k) < x % 1000000000) : LowerInv F m q o (k + 1) (x / 1000000000 + 1) (upd F' (o + k) (F (o + k) + 1000000000 - x % 1000000000)) := by
  have h1 := mul_le_bd hq (ok_getD hm k)
  have h2 := h.le
  exact h.step hF hm hq (by omega) (by omega) (by omega)

set_option maxHeartbeats 1600000 in
theorem lower_any (g o n ca N : Nat) (F : Nat → Nat) (B : Option Addr) (m : List Nat) (cb : Nat) (q : Nat) (w : World) (hR : Rw w g N F) (hF : ∀ j, o ≤ j → j < o + n → F j < 1000000000) (hn : o + n ≤ N) (hN : N ≤ maxLen)
    (hB : Sz w B m) (hO : Off B g) (om : Ok m) (hm : m.length ≤ maxLen) (hq : q ≤ 2000000000) :
    Calls Tryd.prog 78 #[.slice (some ⟨g, o, none⟩) n ca, .slice B m.length cb, .int .u64 q] w fun e w' => ∃ c F', e = .returned (.bool (decide (0 < c))) ∧ LowerInv F m q o n c F' ∧ Rw w' g N F' ∧ Only g w w' := by
  unfold maxLen at hN hm
  go_enter Tryd.func78, Tryd.ntmps78
  go_wp2_with fail
  go_loopw [7, 12] (fun c i wr => ∃ (k cN : Nat) (F' : Nat → Nat), k ≤ n ∧ i = .int .i64 k ∧ c = .int .u64 cN ∧ LowerInv F m q o k cN F' ∧ Rw wr g N F' ∧ Only g w wr) (fun _ i _ => n - (intOf i).toNat)
  case atStart => exact ⟨0, 0, F, Nat.zero_le _, rfl, rfl, LowerInv.start _ _ _ _, hR, Only.refl _ _⟩
  case round =>
    obtain ⟨k, cN, F', hk, rfl, rfl, hI, hR', hW⟩ := hrel
    by_cases hlt : k < n
    · have c1 := hI.le
      have hFk := hF (o + k) (by omega) (by omega)
      have e0 : F' (o + k) = F (o + k) := hI.out _ (by omega)
      have hcell := hR'.cell (i := o + k) (by omega)
      have hfz := hR'.frozen (o + k)
      rw [e0] at hcell
      by_cases hmk : k < m.length
      · obtain ⟨b, o', rfl, hlt', hcell'⟩ := (hB.only hO hW).at_ (by rintro rfl; simp at hmk)
        have hcm := hcell' k hmk
        have hmk2 := ok_get om hmk
        have em : m.getD k 0 = m[k] := by rw [List.getD_eq_getElem?_getD, List.getElem?_eq_getElem hmk]; rfl
        have hbd := mul_le_bd hq hmk2
        obtain ⟨p, hp⟩ : ∃ p, p = q * m[k] := ⟨_, rfl⟩
        have hp2 : (q : Int) * (m[k] : Int) = (p : Int) := by rw [hp]; push_cast; rfl
        rw [← hp] at hbd
        by_cases hge : (cN + p) % 1000000000 ≤ F (o + k)
        · have hst := hI.step_ge hFk om hq (x := cN + p) (by rw [em, hp]) hge
          have HP := Lib.hid hp
          clear e0 hF hcell' em hp
          go_wp2_with fail
          go_roundw
          case rel => exact ⟨k + 1, _, _, by omega, by go_num, by rfl, hst, hR'.set _ _ (by omega), hW.setCell _ _⟩
          case measure => simp [intOf]; omega
        · have hst := hI.step_lt hFk om hq (x := cN + p) (by rw [em, hp]) (by omega)
          have HP := Lib.hid hp
          clear e0 hF hcell' em hp
          have h32 : F (o + k) + 1000000000 ≤ 4294967295 := by omega
          go_wp2_with fail
          go_roundw
          case rel => exact ⟨k + 1, _, _, by omega, by go_num, by rfl, hst, by rw [← upd_upd F' (o + k) (F (o + k) + 1000000000)]; exact (hR'.set _ _ (by omega)).set _ _ (by omega), (hW.setCell _ _).setCell _ _⟩
          case measure => simp [intOf]; omega
      · have em : m.getD k 0 = 0 := by rw [List.getD_eq_getElem?_getD, List.getElem?_eq_none (by omega)]; rfl
        by_cases hge : cN % 1000000000 ≤ F (o + k)
        · have hst := hI.step_ge hFk om hq (x := cN) (by rw [em, Nat.mul_zero, Nat.add_zero]) hge
          clear e0 hF em
          go_wp2_with fail
          go_roundw
          case rel => exact ⟨k + 1, _, _, by omega, by go_num, by rfl, hst, hR'.set _ _ (by omega), hW.setCell _ _⟩
          case measure => simp [intOf]; omega
        · have hst := hI.step_lt hFk om hq (x := cN) (by rw [em, Nat.mul_zero, Nat.add_zero]) (by omega)
          clear e0 hF em
          have h32 : F (o + k) + 1000000000 ≤ 4294967295 := by omega
          go_wp2_with fail
          go_roundw
          case rel => exact ⟨k + 1, _, _, by omega, by go_num, by rfl, hst, by rw [← upd_upd F' (o + k) (F (o + k) + 1000000000)]; exact (hR'.set _ _ (by omega)).set _ _ (by omega), (hW.setCell _ _).setCell _ _⟩
          case measure => simp [intOf]; omega
    · have hkn : k = n := by omega
      subst hkn
      go_wp2_with fail
      go_ret
      exact ⟨cN, F', by simp, hI, hR', hW⟩
end Go.Proofs.YtogphdflgcdiiaaDoor

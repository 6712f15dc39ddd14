import Derived.Test.YtogphdflgcdiiaaDoorMag
namespace Go.Proofs.YtogphdflgcdiiaaDoor
set_option linter.unusedVariables false
set_option linter.unusedSimpArgs false
open Go.RowKit

theorem vf_cons (F : Nat → Nat) (o n : Nat) : vf F o (n + 1) = F o + 1000000000 * vf F (o + 1) n := by
  rw [show n + 1 = 1 + n by omega, vf_split]; simp [vf]
structure CbInv (l : List Nat) (p k r : Nat) (F : Nat → Nat) : Prop where
  lt : r < p
  ok : ∀ j, F j < 1000000000
  eq : vf F k (l.length - k) * p + r = val (l.drop k)
theorem CbInv.start (l : List Nat) (p : Nat) (hp : 0 < p) : CbInv l p l.length 0 (fun _ => 0) := ⟨hp, fun _ => by decide, by simp [vf, val]⟩
theorem quo_lt {p k r x : Nat} (hr : r < p) (hx : x < 1000000000) : (r * 1000000000 + x) / p < 1000000000 := by
  rw [Nat.div_lt_iff_lt_mul (by omega)]
  have : (r + 1) * 1000000000 ≤ p * 1000000000 := Nat.mul_le_mul_right _ hr
  omega
theorem CbInv.step {l : List Nat} {p k r : Nat} {F : Nat → Nat} (h : CbInv l p (k + 1) r F) (hk : k < l.length) (ol : Ok l) :
    CbInv l p k ((r * 1000000000 + l[k]) % p) (upd F k ((r * 1000000000 + l[k]) / p)) := by
  have hlt := h.lt
  refine ⟨Nat.mod_lt _ (by omega), fun j => ?_, ?_⟩
  · unfold upd; split
    · exact quo_lt (k := 0) hlt (ok_get ol hk)
    · exact h.ok j
  · have e := h.eq
    rw [show l.length - k = (l.length - (k + 1)) + 1 by omega, vf_cons, vf_upd_out (.inl (by omega)), show upd F k ((r * 1000000000 + l[k]) / p) k = (r * 1000000000 + l[k]) / p by unfold upd; rw [if_pos rfl]]
    rw [List.drop_eq_getElem_cons hk, val_cons, ← e, Nat.add_mul, Nat.mul_add]
    have h1 := Nat.div_add_mod (r * 1000000000 + l[k]) p
    rw [Nat.mul_comm] at h1
    rw [Nat.mul_assoc 1000000000]
    omega
theorem cb_end {l : List Nat} {p r : Nat} {F : Nat → Nat} (h : CbInv l p 0 r F) : vf F 0 l.length = val l / p ∧ r = val l % p := by
  have e := h.eq
  have hlt := h.lt
  rw [Nat.sub_zero, List.drop_zero] at e
  have e2 : val l = r + p * vf F 0 l.length := by rw [Nat.mul_comm]; omega
  constructor
  · rw [e2, Nat.add_mul_div_left _ _ (by omega), Nat.div_eq_of_lt hlt, Nat.zero_add]
  · rw [e2, Nat.add_mul_mod_self_left, Nat.mod_eq_of_lt hlt]

theorem quo_int (r a p : Nat) : (((r * 1000000000 + a) / p : Nat) : Int) = ((r : Int) * 1000000000 + (a : Int)) / (p : Int) := by
  rw [Int.natCast_ediv, Int.natCast_add, Int.natCast_mul]; rfl
theorem rem_int (r a p : Nat) : (((r * 1000000000 + a) % p : Nat) : Int) = ((r : Int) * 1000000000 + (a : Int)) % (p : Int) := by
  rw [Int.natCast_emod, Int.natCast_add, Int.natCast_mul]; rfl
set_option maxRecDepth 10000 in
set_option maxHeartbeats 1600000 in
theorem cutByPart_any (A : Option Addr) (l : List Nat) (c p : Nat) (w : World) (hA : Sz w A l) (ol : Ok l) (hl : l.length ≤ 1000) (hp : 0 < p) (hpB : p < 1000000000) :
    Calls Tryd.prog 82 #[.slice A l.length c, .int .u32 p] w fun e w' => ∃ v, e = .returned (.tuple #[v, .int .u32 (val l % p : Nat)]) ∧ SzN w' v (val l / p) ∧ Below w.heap.size w w' := by
  have hmk := run_mkz l.length (l.length : Int) (by omega) (by omega)
  have hB0 : ∀ X, Below w.heap.size w (w.alloc X) := fun X => (Below.refl _ _).alloc (Nat.le_refl _) _
  have hR0 := Rw.made w l.length
  go_enter Tryd.func82, Tryd.ntmps82
  go_wp2_with fail
  have hO0 := Only.refl w.heap.size (w.alloc (.cells (madeCells #[.int .u32 0] l.length) 74))
  have hB1 := hB0 (.cells (madeCells #[.int .u32 0] l.length) 74)
  clear hmk hB0
  generalize w.alloc (.cells (madeCells #[.int .u32 0] l.length) 74) = w1 at hR0 hO0 hB1 ⊢
  have hA1 := hA.below hB1
  have hAo := hA.off (Nat.le_refl _)
  obtain ⟨g, hg⟩ : ∃ g, g = w.heap.size := ⟨_, rfl⟩
  rw [← hg] at hR0 hO0 hB1 hAo ⊢
  have HG := Lib.hid hg
  clear hg hA
  go_loopw [6, 7] (fun rv i wr => ∃ (k r : Nat) (F : Nat → Nat), k ≤ l.length ∧ i = .int .i64 ((k : Int) - 1) ∧ rv = .int .u64 r ∧ CbInv l p k r F ∧ Rw wr g l.length F ∧ Only g w1 wr) (fun _ i _ => (intOf i + 1).toNat)
  case atStart => exact ⟨l.length, 0, _, Nat.le_refl _, rfl, rfl, CbInv.start l p hp, hR0, hO0⟩
  case round =>
    obtain ⟨k, r, F, hk, rfl, rfl, hI, hR, hW⟩ := hrel
    have hr := hI.lt
    rcases k with _ | k
    · go_wp2_with fail
      refine (trimmed_row g 0 l.length l.length l.length F _ hR (by omega) (fun j _ _ => hI.ok j) (by omega) (by unfold maxLen; omega)).mono ?_
      rintro e w3 ⟨rfl, rfl⟩
      go_wp2_with fail
      go_ret2
      have hv := cb_end hI
      exact ⟨_, by rw [← hv.2]; rfl, (SzN.of_row hR 0 _ _ (by omega) (fun j _ _ => hI.ok j)).conv hv.1, HG.out ▸ hB1.trans (hW.to_below (Nat.le_refl _) (by rw [HG.out]; exact hB1.size))⟩
    · obtain ⟨b, o, rfl, hlt', hcell'⟩ := (hA1.only hAo hW).at_ (by rintro rfl; simp at hk)
      have hcl := hcell' k (by omega)
      have hpl := ok_get ol (show k < l.length by omega)
      have hst := hI.step (by omega) ol
      have hq := quo_lt (k := 0) hr hpl
      have hm := Nat.mod_lt (r * 1000000000 + l[k]) (show p > 0 by omega)
      have hcell := hR.cell (i := k) (by omega)
      have hfz := hR.frozen k
      have e1 : ((k + 1 : Nat) : Int) - 1 = (k : Int) := by omega
      have q1 : 0 ≤ ((r : Int) * 1000000000 + (l[k] : Int)) / (p : Int) ∧ ((r : Int) * 1000000000 + (l[k] : Int)) / (p : Int) ≤ 999999999 := by
        rw [← quo_int]; exact ⟨Int.natCast_nonneg _, Int.ofNat_le.2 (show _ ≤ 999999999 from Nat.le_of_lt_succ hq)⟩
      have q2 : 0 ≤ ((r : Int) * 1000000000 + (l[k] : Int)) % (p : Int) ∧ ((r : Int) * 1000000000 + (l[k] : Int)) % (p : Int) ≤ 999999999 := by
        rw [← rem_int]; exact ⟨Int.natCast_nonneg _, Int.ofNat_le.2 (show _ ≤ 999999999 from Nat.le_of_lt_succ (Nat.lt_of_lt_of_le hm (by omega)))⟩
      rw [e1]
      clear e1 hcell' hA1 hR0 hO0
      go_wp2_with fail
      go_roundw
      case rel => exact ⟨k, _, _, by omega, rfl, by rw [rem_int], hst, hR.set _ _ (quo_int _ _ _).symm, hW.setCell _ _⟩
      case measure => simp [intOf]
end Go.Proofs.YtogphdflgcdiiaaDoor

import Derived.Test.YtinhbmjfeabecaaDoorMul
namespace Go.Proofs.YtinhbmjfeabecaaDoor
open Go.RowKit

theorem Rw.congr_of {w : World} {g N : Nat} {F G : Nat → Nat} (h : Rw w g N F) (e : F = G) : Rw w g N G := e ▸ h
set_option maxRecDepth 10000 in
set_option maxHeartbeats 1600000 in
theorem multiplied_any (A B : Option Addr) (l m : List Nat) (c d : Nat) (w : World) (hA : Sz w A l) (hB : Sz w B m) (ol : Ok l) (om : Ok m) (hl : l.length ≤ 1000) (hm : m.length ≤ 1000) :
    Calls Tryd.prog 57 #[.slice A l.length c, .slice B m.length d] w fun e w' => ∃ v, e = .returned v ∧ SzN w' v (val l * val m) ∧ Below w.heap.size w w' := by
  have hmk := run_mkz (l.length + m.length) ((l.length : Int) + (m.length : Int)) (by omega) (by omega)
  have hB0 : ∀ X, Below w.heap.size w (w.alloc X) := fun X => (Below.refl _ _).alloc (Nat.le_refl _) _
  have hR0 := Rw.made w (l.length + m.length)
  go_enter Tryd.func57, Tryd.ntmps57
  go_wp2_with fail
  have hO0 := Only.refl w.heap.size (w.alloc (.cells (madeCells #[.int .u32 0] (l.length + m.length)) 81))
  have hB1 := hB0 (.cells (madeCells #[.int .u32 0] (l.length + m.length)) 81)
  clear hmk hB0
  generalize w.alloc (.cells (madeCells #[.int .u32 0] (l.length + m.length)) 81) = w1 at hR0 hO0 hB1 ⊢
  have hA1 := hA.below hB1
  have hB2 := hB.below hB1
  have hAo := hA.off (Nat.le_refl _)
  have hBo := hB.off (Nat.le_refl _)
  obtain ⟨g, hg⟩ : ∃ g, g = w.heap.size := ⟨_, rfl⟩
  rw [← hg] at hR0 hO0 hB1 hAo hBo ⊢
  have HG := Lib.hid hg
  clear hg hA hB
  go_loopw [19] (fun i wr => ∃ (k : Nat) (F : Nat → Nat), k ≤ l.length ∧ i = .int .i64 k ∧ OutInv l m k F ∧ Rw wr g (l.length + m.length) F ∧ Only g w1 wr) (fun i _ => l.length - (intOf i).toNat)
  case atStart => exact ⟨0, _, Nat.zero_le _, rfl, OutInv.start l m, hR0, hO0⟩
  case round =>
    obtain ⟨k, F, hk, rfl, hI, hR, hW⟩ := hrel
    by_cases hlt : k < l.length
    · obtain ⟨b, o, rfl, hlt', hcell'⟩ := (hA1.only hAo hW).at_ (by rintro rfl; simp at hlt)
      have hcl := hcell' k hlt
      have hpl := ok_get ol hlt
      obtain ⟨p, hp⟩ : ∃ p, p = l[k] := ⟨_, rfl⟩
      rw [← hp] at hcl hpl
      have HP := Lib.hid hp
      clear hp hcell' hA1 hR0 hO0
      go_wp2_with fail
      obtain ⟨wo, rfl⟩ : ∃ wo : World, wo = wr := ⟨_, rfl⟩
      go_loopw [8, 26] (fun cv j wr => ∃ (q c : Nat) (F' : Nat → Nat), q ≤ m.length ∧ j = .int .i64 q ∧ cv = .int .u64 c ∧ InInv F m p k q c F' ∧ Rw wr g (l.length + m.length) F' ∧ Only g w1 wr) (fun _ j _ => m.length - (intOf j).toNat)
      case atStart => exact ⟨0, 0, F, Nat.zero_le _, rfl, rfl, InInv.start F m p k, hR, hW⟩
      case round =>
        obtain ⟨q, c, F', hq, rfl, rfl, hJ, hR', hW'⟩ := hrel
        have c1 := hJ.le
        by_cases hqm : q < m.length
        · obtain ⟨b', o', rfl, hlt2, hcell2⟩ := (hB2.only hBo hW').at_ (by rintro rfl; simp at hqm)
          have hcm := hcell2 q hqm
          have hFk := hI.ok (k + q)
          have e0 : F' (k + q) = F (k + q) := hJ.out _ (by omega)
          have hcell := hR'.cell (i := k + q) (by omega)
          have hfz := hR'.frozen (k + q)
          rw [e0] at hcell
          have hbd := mul_le_sq hpl (ok_get om hqm)
          have hst := hJ.step (x := c + (F (k + q) + p * m[q])) hFk hpl om hqm rfl
          have hmq := ok_get om hqm
          obtain ⟨r, hr⟩ : ∃ r, r = p * m[q] := ⟨_, rfl⟩
          have hr2 : (p : Int) * (m[q] : Int) = (r : Int) := by rw [hr]; push_cast; rfl
          rw [← hr] at hbd hst
          clear e0 hcell2 hr hR hW hI
          go_wp2_with fail
          go_roundw
          case rel => exact ⟨q + 1, _, _, by omega, by go_num, by rfl, hst, hR'.set _ _ (by rfl), hW'.setCell _ _⟩
          case measure => simp [intOf]; omega
        · have hqe : q = m.length := by omega
          subst hqe
          have hst := hI.step hlt (c := c) (F' := F') (HP.out ▸ hJ)
          have hcell := hR'.cell (i := k + m.length) (by omega)
          have hfz := hR'.frozen (k + m.length)
          clear hR hW hI
          go_wp2_with fail
          go_roundw
          case rel => exact ⟨k + 1, _, by omega, by go_num, hst, hR'.set _ _ (by rfl), hW'.setCell _ _⟩
          case measure => simp [intOf]; omega
    · have hke : k = l.length := by omega
      subst hke
      go_wp2_with fail
      refine (trimmed_row g 0 (l.length + m.length) (l.length + m.length) (l.length + m.length) F _ hR (by omega) (fun j _ _ => hI.ok j) (by omega) (by unfold maxLen; omega)).mono ?_
      rintro e w3 ⟨rfl, rfl⟩
      go_wp2_with fail
      go_ret
      have hv := hI.eq
      rw [List.take_of_length_le (Nat.le_refl _)] at hv
      exact ⟨_, rfl, (SzN.of_row hR 0 _ _ (by omega) (fun j _ _ => hI.ok j)).conv hv, HG.out ▸ hB1.trans (hW.to_below (Nat.le_refl _) (by rw [HG.out]; exact hB1.size))⟩
end Go.Proofs.YtinhbmjfeabecaaDoor

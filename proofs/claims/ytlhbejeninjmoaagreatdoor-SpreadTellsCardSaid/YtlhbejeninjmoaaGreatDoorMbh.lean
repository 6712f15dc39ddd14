import Derived.Test.YtlhbejeninjmoaaGreatDoorMat
import Derived.Test.YtlhbejeninjmoaaGreatDoorMbg
import Derived.Test.YtlhbejeninjmoaaGreatDoorMav
/-
  The reference's May of arrays, by its contract (out of stage 5's text).
-/
namespace Go.Proofs.YtlhbejeninjmoaaGreatDoor
set_option linter.unusedVariables false
set_option linter.unusedSimpArgs false
open Go.RowKit

set_option maxRecDepth 10000 in
set_option maxHeartbeats 1600000 in
theorem rVMay_is {a b : Option Addr} {n c m d : Nat} {l : List Int} {es : List ByteArray} (W : World) (h : Vl W a n b m l es) (hz : ∀ j, j < m → (es.getD j ByteArray.empty).size ≤ maxLen) :
    Calls Tryz.prog 27 #[.agg #[.slice a n c, .slice b m d]] W (BoolEnd (mayV l es) W) := by
  have K1 := Lib.hid (fun w (hb : Below W.heap.size W w) => rSize_is a n c l w (h.s.below hb))
  have r2 := h.mm
  have HT := Lib.hid h.t
  have HZ := Lib.hid hz
  clear h hz
  have hb0 : Below W.heap.size W (W.alloc (.cells #[.slice a n c, .slice b m d] 25)) := (Below.refl _ _).alloc (Nat.le_refl _) _
  by_cases he : szE l = 0
  · by_cases hm : (m : Int) = szV l
    · have hmv : ∀ (h : ∀ j, j < m → mayL (es.getD j ByteArray.empty).data.toList = true), mayV l es = true := fun h => mayV_yes.2 ⟨he, by rw [HT.out.1, hm, szV_pr he], by rw [HT.out.1]; exact h⟩
      have hmn : ∀ j, j < m → mayL (es.getD j ByteArray.empty).data.toList = false → mayV l es = false := fun j hj h => mayV_at (by rw [HT.out.1]; exact hj) h
      have HM := Lib.hid (And.intro hmv hmn)
      clear hmv hmn
      rw [← hm, he] at K1
      clear hm he
      generalize mayV l es = v at HM ⊢
      go_enter Tryz.func27, Tryz.ntmps27
      go_wp2_with fail
      refine (K1.out _ hb0).mono ?_
      rintro x w1 ⟨rfl, rfl⟩
      go_wp2_with fail
      go_loop [5] (fun i => ∃ k : Nat, i = .int .i64 k ∧ k ≤ m ∧ Hid (∀ j, j < k → mayL (es.getD j ByteArray.empty).data.toList = true)) (fun i => m - (intOf i).toNat)
      case atStart => exact ⟨0, rfl, by omega, Lib.hid fun j hj => by omega⟩
      case round =>
        obtain ⟨k, rfl, hk, HI⟩ := hrel
        by_cases hlt : k < m
        · have e2 : (k : Int) < (m : Int) := by omega
          obtain ⟨bb, off, rfl, hc⟩ := HT.out.2 (by omega)
          have hck := (hb0.cell (p := ⟨bb, off + k, none⟩) (World.block_lt_of_cell? W _ (hc k hlt))).trans (hc k hlt)
          have hs := HZ.out k hlt
          clear hc
          obtain ⟨s, hse⟩ : ∃ s, s = es.getD k ByteArray.empty := ⟨_, rfl⟩
          rw [← hse] at hck hs
          have KM := Lib.hid (rMay_any s hs)
          have HE := Lib.hid hse
          clear hse hs
          cases hv : mayL s.data.toList
          · rw [hv] at KM
            obtain rfl : v = false := HM.out.2 k hlt (by rw [← HE.out]; exact hv)
            clear hv
            go_wp2_with fail
            refine (KM.out _).mono ?_
            rintro x w2 ⟨rfl, rfl⟩
            go_wp2_with fail
            go_ret
            exact ⟨rfl, hb0⟩
          · rw [hv] at KM
            have HV := Lib.hid hv
            clear hv
            go_wp2_with fail
            refine (KM.out _).mono ?_
            rintro x w2 ⟨rfl, rfl⟩
            go_wp2_with fail
            refine ⟨⟨k + 1, by go_num, by omega, Lib.hid fun j hj => ?_⟩, by simp [intOf]; omega⟩
            rcases Nat.lt_or_ge j k with h2 | h2
            · exact HI.out j h2
            · rw [show j = k by omega, ← HE.out]; exact HV.out
        · have e2 : ¬ (k : Int) < (m : Int) := by omega
          obtain rfl : v = true := HM.out.1 fun j hj => HI.out j (by omega)
          go_wp2_with fail
          go_ret
          exact ⟨rfl, hb0⟩
    · have hv := mayV_len (l := l) (es := es) (by rw [HT.out.1]; exact hm)
      rw [hv]
      rw [he] at K1
      clear hv he
      generalize szV l = P at *
      have hPm : (P != (m : Int)) = true := bne_iff_ne.2 fun e => hm e.symm
      go_enter Tryz.func27, Tryz.ntmps27
      go_wp2_with fail
      refine (K1.out _ hb0).mono ?_
      rintro x w1 ⟨rfl, rfl⟩
      go_wp2_with fail
      go_ret
      exact ⟨rfl, hb0⟩
  · have hv := mayV_e (es := es) he
    rw [hv]
    rw [szV_zero he] at K1
    clear hv
    generalize szE l = E at *
    have hE : (E != 0) = true := by simpa using he
    go_enter Tryz.func27, Tryz.ntmps27
    go_wp2_with fail
    refine (K1.out _ hb0).mono ?_
    rintro x w1 ⟨rfl, rfl⟩
    go_wp2_with fail
    all_goals
      go_ret
      exact ⟨rfl, hb0⟩

end Go.Proofs.YtlhbejeninjmoaaGreatDoor

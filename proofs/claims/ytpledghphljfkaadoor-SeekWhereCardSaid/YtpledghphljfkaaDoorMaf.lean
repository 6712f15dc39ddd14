import Derived.Test.YtpledghphljfkaaDoorProg
import Derived.Test.YtpledghphljfkaaDoorMae
import Derived.WalkKit
import Derived.WalkSpells
import Derived.WalkLawsBesides
import Derived.Lib.Hide
import Derived.IntWalk
/-
  container/heap over whatever row of places a type keeps: sifted up, sifted down, by the contracts of its methods. 
-/
namespace Go.Proofs.YtpledghphljfkaaDoor
set_option linter.unusedVariables false
set_option linter.unusedSimpArgs false
open Go.RowKit

/-- A row of places as a heap's methods read and turn it: HS a n w: at w it is a 0, .. a (n - 1). -/
structure HpIs (f : Nat → Int) (T : TypeId) (p : Value) (HS : (Nat → Nat) → Nat → World → Prop) : Prop where
  ml : ∀ w, (method 260 T p "Less").run Tryd.prog w = .ok (111, p) w
  ms : ∀ w, (method 260 T p "Swap").run Tryd.prog w = .ok (114, p) w
  less : ∀ w a n i j, HS a n w → i < n → j < n → Calls Tryd.prog 111 #[p, .int .i64 (i : Int), .int .i64 (j : Int)] w fun e w' => ∃ b : Bool, e = .returned (.bool b) ∧ (b = true ↔ Lf f (a i) (a j)) ∧ HS a n w'
  swap : ∀ w a n i j, HS a n w → i < n → j < n → Calls Tryd.prog 114 #[p, .int .i64 (i : Int), .int .i64 (j : Int)] w fun e w' => e = .returned (.tuple #[]) ∧ HS (swp a i j) n w'
set_option maxRecDepth 100000 in
theorem hup_is {f : Nat → Int} {T : TypeId} {p : Value} {HS : (Nat → Nat) → Nat → World → Prop} (H : HpIs f T p HS) {a : Nat → Nat} {n j : Nat} {W : World} (hS : HS a n W) (hj : j < n) (hn : n ≤ 100000) (hU : Un f a n j) :
    Calls Tryd.prog 54 #[.iface T p, .int .i64 (j : Int)] W fun e w' => e = .returned (.tuple #[]) ∧ ∃ b, HS b n w' ∧ HP f b n 0 ∧ (Inj a n → Inj b n) ∧ ∀ v, Con b n v ↔ Con a n v := by
  have KL := Lib.hid H.less
  have KS := Lib.hid H.swap
  have hml := H.ml
  have hms := H.ms
  clear H
  go_enter Tryd.func54, Tryd.ntmps54
  go_wp2_with fail
  go_loopw [1] (fun jv wr => ∃ (i : Nat) (b : Nat → Nat), jv = .int .i64 i ∧ i < n ∧ HS b n wr ∧ Un f b n i ∧ (Inj a n → Inj b n) ∧ ∀ v, Con b n v ↔ Con a n v) (fun jv _ => (intOf jv).toNat)
  case atStart => exact ⟨j, a, rfl, hj, hS, hU, id, fun _ => Iff.rfl⟩
  case round =>
    obtain ⟨i, b, rfl, hi, hs, hu, hinj, hcon⟩ := hrel
    by_cases h0 : i = 0
    · subst h0
      go_wp2_with fail
      go_end0
      exact ⟨rfl, b, hs, hu.ends (fun h => by omega), hinj, hcon⟩
    · obtain ⟨k, rfl⟩ : ∃ k, i = k + 1 := ⟨i - 1, by omega⟩
      obtain ⟨z, hz⟩ : ∃ z, z = k / 2 := ⟨_, rfl⟩
      have hq : (k : Int) / 2 = (z : Int) := by omega
      have hk0 : ((z : Int) == (k : Int) + 1) = false := beq_eq_false_iff_ne.2 (by omega)
      have HZ := Lib.hid (show z = (k + 1 - 1) / 2 from hz)
      have hzk : z < k + 1 := by omega
      by_cases hL : Lf f (b (k + 1)) (b z)
      · have K1 : Hid (Calls Tryd.prog 111 #[p, .int .i64 ((k : Int) + 1), .int .i64 (z : Int)] wr fun e w' => e = .returned (.bool true) ∧ HS b n w') := Lib.hid ((KL.out wr b n (k + 1) z hs hi (by omega)).mono fun e w' ⟨c, h1, h2, h3⟩ => ⟨by rw [h1, h2.2 hL], h3⟩)
        clear hz hs
        go_wp2_with (go_at_call 111; refine K1.out.mono ?_; rintro e w2 ⟨rfl, hs⟩)
        have K2 : Hid (Calls Tryd.prog 114 #[p, .int .i64 (z : Int), .int .i64 ((k : Int) + 1)] w2 fun e w' => e = .returned (.tuple #[]) ∧ HS (swp b z (k + 1)) n w') := Lib.hid (KS.out w2 b n z (k + 1) hs (by omega) hi)
        refine K2.out.mono ?_
        rintro e w3 ⟨rfl, hs3⟩
        go_wp2_with fail
        go_roundw
        case rel =>
          have hu2 := hu.step (by omega) hi (by rw [← HZ.out]; exact hL)
          rw [← HZ.out] at hu2
          exact ⟨z, swp b z (k + 1), rfl, by omega, hs3, hu2, fun h => (hinj h).swp (by omega) hi, fun v => (Con.swp (by omega) hi).trans (hcon v)⟩
        case measure => simp [intOf]; omega
      · have K1 : Hid (Calls Tryd.prog 111 #[p, .int .i64 ((k : Int) + 1), .int .i64 (z : Int)] wr fun e w' => e = .returned (.bool false) ∧ HS b n w') := Lib.hid ((KL.out wr b n (k + 1) z hs hi (by omega)).mono fun e w' ⟨c, h1, h2, h3⟩ => ⟨by
          cases c with
          | false => exact h1
          | true => exact absurd (h2.1 rfl) hL, h3⟩)
        clear hz hs
        go_wp2_with (go_at_call 111; refine K1.out.mono ?_; rintro e w2 ⟨rfl, hs⟩)
        go_end0
        exact ⟨rfl, b, hs, hu.ends (fun _ => by rw [← HZ.out]; exact hL), hinj, hcon⟩
set_option maxRecDepth 100000 in
set_option maxHeartbeats 1600000 in
theorem hdn_is {f : Nat → Int} {T : TypeId} {p : Value} {HS : (Nat → Nat) → Nat → World → Prop} (H : HpIs f T p HS) {a : Nat → Nat} {N n i0 : Nat} {W : World} (hS : HS a N W) (hn : n ≤ N) (hN : N ≤ 100000) (hi0 : i0 ≤ 100000) (hD : Dn f a n i0 i0) :
    Calls Tryd.prog 55 #[.iface T p, .int .i64 (i0 : Int), .int .i64 (n : Int)] W fun e w' => (∃ c, e = .returned (.bool c)) ∧ ∃ b, HS b N w' ∧ HP f b n i0 ∧ (∀ k, n ≤ k → b k = a k) ∧ (Inj a n → Inj b n) ∧ ∀ v, Con b n v ↔ Con a n v := by
  have KL := Lib.hid H.less
  have KS := Lib.hid H.swap
  have hml := H.ml
  have hms := H.ms
  clear H
  go_enter Tryd.func55, Tryd.ntmps55
  go_wp2_with fail
  go_loopw [7] (fun iv wr => ∃ (i : Nat) (b : Nat → Nat), iv = .int .i64 i ∧ i ≤ 100000 ∧ HS b N wr ∧ Dn f b n i0 i ∧ (∀ k, n ≤ k → b k = a k) ∧ (Inj a n → Inj b n) ∧ ∀ v, Con b n v ↔ Con a n v) (fun iv _ => n - (intOf iv).toNat)
  case atStart => exact ⟨i0, a, rfl, hi0, hS, hD, fun _ _ => rfl, id, fun _ => Iff.rfl⟩
  case round =>
    obtain ⟨i, b, rfl, hi, hs, hd, hk, hinj, hcon⟩ := hrel
    by_cases h1 : n ≤ 2 * i + 1
    · have e1 : (n : Int) ≤ 2 * (i : Int) + 1 := by omega
      go_wp2_with fail
      go_ret
      exact ⟨⟨_, rfl⟩, b, hs, hd.ends (fun m hm h0 he => by omega), hk, hinj, hcon⟩
    · have e1 : ¬ ((n : Int) ≤ 2 * (i : Int) + 1) := by omega
      have e2 : ¬ (2 * (i : Int) + 1 < 0) := by omega
      by_cases h2 : 2 * i + 2 < n
      · have e3 : 2 * (i : Int) + 2 < (n : Int) := by omega
        by_cases hJ : Lf f (b (2 * i + 2)) (b (2 * i + 1))
        · have K1 : Hid (∀ wl, HS b N wl → Calls Tryd.prog 111 #[p, .int .i64 (2 * (i : Int) + 2), .int .i64 (2 * (i : Int) + 1)] wl fun e w' => e = .returned (.bool true) ∧ HS b N w') := Lib.hid fun wl hl => (KL.out wl b N (2 * i + 2) (2 * i + 1) hl (by omega) (by omega)).mono fun e w' ⟨c, h1, h2, h3⟩ => ⟨by
            cases c with
            | true => exact h1
            | false => exact absurd (h2.2 hJ) (by simp), h3⟩
          have hsm : ∀ m, m < n → 0 < m → (m - 1) / 2 = i → ¬ Lf f (b m) (b (2 * i + 2)) := fun m hm h0 he => by
            have hmm : m = 2 * i + 1 ∨ m = 2 * i + 2 := by omega
            rcases hmm with e | e
            · rw [e]; exact hJ.asym
            · rw [e]; exact Lf.irr
          by_cases hL : Lf f (b (2 * i + 2)) (b i)
          · have K2 : Hid (∀ wl, HS b N wl → Calls Tryd.prog 111 #[p, .int .i64 (2 * (i : Int) + 2), .int .i64 (i : Int)] wl fun e w' => e = .returned (.bool true) ∧ HS b N w') := Lib.hid fun wl hl => (KL.out wl b N (2 * i + 2) (i) hl (by omega) (by omega)).mono fun e w' ⟨c, h1, h2, h3⟩ => ⟨by
              cases c with
              | true => exact h1
              | false => exact absurd (h2.2 hL) (by simp), h3⟩
            have K3 : Hid (∀ wl, HS b N wl → Calls Tryd.prog 114 #[p, .int .i64 (i : Int), .int .i64 (2 * (i : Int) + 2)] wl fun e w' => e = .returned (.tuple #[]) ∧ HS (swp b i (2 * i + 2)) N w') := Lib.hid fun wl hl => KS.out wl b N i (2 * i + 2) hl (by omega) (by omega)
            go_wp2_with fail
            refine (K1.out _ hs).mono ?_
            rintro e wa ⟨rfl, hs⟩
            go_wp2_with fail
            refine (K2.out _ hs).mono ?_
            rintro e wb ⟨rfl, hs⟩
            go_wp2_with fail
            refine (K3.out _ hs).mono ?_
            rintro e wd ⟨rfl, hs⟩
            go_wp2_with fail
            go_roundw
            case rel => exact ⟨2 * i + 2, swp b i (2 * i + 2), by go_num, by omega, hs, hd.step (by omega) (by omega) hL hsm, fun k hk2 => (swp_o (by omega) (by omega)).trans (hk k hk2), fun h => (hinj h).swp (by omega) (by omega), fun v => (Con.swp (by omega) (by omega)).trans (hcon v)⟩
            case measure => simp [intOf]; omega
          · have K2 : Hid (∀ wl, HS b N wl → Calls Tryd.prog 111 #[p, .int .i64 (2 * (i : Int) + 2), .int .i64 (i : Int)] wl fun e w' => e = .returned (.bool false) ∧ HS b N w') := Lib.hid fun wl hl => (KL.out wl b N (2 * i + 2) (i) hl (by omega) (by omega)).mono fun e w' ⟨c, h1, h2, h3⟩ => ⟨by
              cases c with
              | false => exact h1
              | true => exact absurd (h2.1 rfl) hL, h3⟩
            go_wp2_with fail
            refine (K1.out _ hs).mono ?_
            rintro e wa ⟨rfl, hs⟩
            go_wp2_with fail
            refine (K2.out _ hs).mono ?_
            rintro e wb ⟨rfl, hs⟩
            go_wp2_with fail
            go_ret
            exact ⟨⟨_, rfl⟩, b, hs, hd.ends (fun m hm h0 he => Lf.low hL (hsm m hm h0 he)), hk, hinj, hcon⟩
        · have K1 : Hid (∀ wl, HS b N wl → Calls Tryd.prog 111 #[p, .int .i64 (2 * (i : Int) + 2), .int .i64 (2 * (i : Int) + 1)] wl fun e w' => e = .returned (.bool false) ∧ HS b N w') := Lib.hid fun wl hl => (KL.out wl b N (2 * i + 2) (2 * i + 1) hl (by omega) (by omega)).mono fun e w' ⟨c, h1, h2, h3⟩ => ⟨by
            cases c with
            | false => exact h1
            | true => exact absurd (h2.1 rfl) hJ, h3⟩
          have hsm : ∀ m, m < n → 0 < m → (m - 1) / 2 = i → ¬ Lf f (b m) (b (2 * i + 1)) := fun m hm h0 he => by
            have hmm : m = 2 * i + 1 ∨ m = 2 * i + 2 := by omega
            rcases hmm with e | e
            · rw [e]; exact Lf.irr
            · rw [e]; exact hJ
          by_cases hL : Lf f (b (2 * i + 1)) (b i)
          · have K2 : Hid (∀ wl, HS b N wl → Calls Tryd.prog 111 #[p, .int .i64 (2 * (i : Int) + 1), .int .i64 (i : Int)] wl fun e w' => e = .returned (.bool true) ∧ HS b N w') := Lib.hid fun wl hl => (KL.out wl b N (2 * i + 1) (i) hl (by omega) (by omega)).mono fun e w' ⟨c, h1, h2, h3⟩ => ⟨by
              cases c with
              | true => exact h1
              | false => exact absurd (h2.2 hL) (by simp), h3⟩
            have K3 : Hid (∀ wl, HS b N wl → Calls Tryd.prog 114 #[p, .int .i64 (i : Int), .int .i64 (2 * (i : Int) + 1)] wl fun e w' => e = .returned (.tuple #[]) ∧ HS (swp b i (2 * i + 1)) N w') := Lib.hid fun wl hl => KS.out wl b N i (2 * i + 1) hl (by omega) (by omega)
            go_wp2_with fail
            refine (K1.out _ hs).mono ?_
            rintro e wa ⟨rfl, hs⟩
            go_wp2_with fail
            refine (K2.out _ hs).mono ?_
            rintro e wb ⟨rfl, hs⟩
            go_wp2_with fail
            refine (K3.out _ hs).mono ?_
            rintro e wd ⟨rfl, hs⟩
            go_wp2_with fail
            go_roundw
            case rel => exact ⟨2 * i + 1, swp b i (2 * i + 1), by go_num, by omega, hs, hd.step (by omega) (by omega) hL hsm, fun k hk2 => (swp_o (by omega) (by omega)).trans (hk k hk2), fun h => (hinj h).swp (by omega) (by omega), fun v => (Con.swp (by omega) (by omega)).trans (hcon v)⟩
            case measure => simp [intOf]; omega
          · have K2 : Hid (∀ wl, HS b N wl → Calls Tryd.prog 111 #[p, .int .i64 (2 * (i : Int) + 1), .int .i64 (i : Int)] wl fun e w' => e = .returned (.bool false) ∧ HS b N w') := Lib.hid fun wl hl => (KL.out wl b N (2 * i + 1) (i) hl (by omega) (by omega)).mono fun e w' ⟨c, h1, h2, h3⟩ => ⟨by
              cases c with
              | false => exact h1
              | true => exact absurd (h2.1 rfl) hL, h3⟩
            go_wp2_with fail
            refine (K1.out _ hs).mono ?_
            rintro e wa ⟨rfl, hs⟩
            go_wp2_with fail
            refine (K2.out _ hs).mono ?_
            rintro e wb ⟨rfl, hs⟩
            go_wp2_with fail
            go_ret
            exact ⟨⟨_, rfl⟩, b, hs, hd.ends (fun m hm h0 he => Lf.low hL (hsm m hm h0 he)), hk, hinj, hcon⟩
      · have e3 : ¬ (2 * (i : Int) + 2 < (n : Int)) := by omega
        have hsm : ∀ m, m < n → 0 < m → (m - 1) / 2 = i → ¬ Lf f (b m) (b (2 * i + 1)) := fun m hm h0 he => by
          have hmm : m = 2 * i + 1 ∨ m = 2 * i + 2 := by omega
          rcases hmm with e | e
          · rw [e]; exact Lf.irr
          · omega
        by_cases hL : Lf f (b (2 * i + 1)) (b i)
        · have K2 : Hid (∀ wl, HS b N wl → Calls Tryd.prog 111 #[p, .int .i64 (2 * (i : Int) + 1), .int .i64 (i : Int)] wl fun e w' => e = .returned (.bool true) ∧ HS b N w') := Lib.hid fun wl hl => (KL.out wl b N (2 * i + 1) (i) hl (by omega) (by omega)).mono fun e w' ⟨c, h1, h2, h3⟩ => ⟨by
            cases c with
            | true => exact h1
            | false => exact absurd (h2.2 hL) (by simp), h3⟩
          have K3 : Hid (∀ wl, HS b N wl → Calls Tryd.prog 114 #[p, .int .i64 (i : Int), .int .i64 (2 * (i : Int) + 1)] wl fun e w' => e = .returned (.tuple #[]) ∧ HS (swp b i (2 * i + 1)) N w') := Lib.hid fun wl hl => KS.out wl b N i (2 * i + 1) hl (by omega) (by omega)
          go_wp2_with fail
          refine (K2.out _ hs).mono ?_
          rintro e wb ⟨rfl, hs⟩
          go_wp2_with fail
          refine (K3.out _ hs).mono ?_
          rintro e wd ⟨rfl, hs⟩
          go_wp2_with fail
          go_roundw
          case rel => exact ⟨2 * i + 1, swp b i (2 * i + 1), by go_num, by omega, hs, hd.step (by omega) (by omega) hL hsm, fun k hk2 => (swp_o (by omega) (by omega)).trans (hk k hk2), fun h => (hinj h).swp (by omega) (by omega), fun v => (Con.swp (by omega) (by omega)).trans (hcon v)⟩
          case measure => simp [intOf]; omega
        · have K2 : Hid (∀ wl, HS b N wl → Calls Tryd.prog 111 #[p, .int .i64 (2 * (i : Int) + 1), .int .i64 (i : Int)] wl fun e w' => e = .returned (.bool false) ∧ HS b N w') := Lib.hid fun wl hl => (KL.out wl b N (2 * i + 1) (i) hl (by omega) (by omega)).mono fun e w' ⟨c, h1, h2, h3⟩ => ⟨by
            cases c with
            | false => exact h1
            | true => exact absurd (h2.1 rfl) hL, h3⟩
          go_wp2_with fail
          refine (K2.out _ hs).mono ?_
          rintro e wb ⟨rfl, hs⟩
          go_wp2_with fail
          go_ret
          exact ⟨⟨_, rfl⟩, b, hs, hd.ends (fun m hm h0 he => Lf.low hL (hsm m hm h0 he)), hk, hinj, hcon⟩
end Go.Proofs.YtpledghphljfkaaDoor

/-
  Where a tree ends: of the program, and of the reference.
-/
import Derived.Test.YtiopemimancliaaYc
namespace Go.Proofs.Ytiopemimancliaa
open Go.RowKit

theorem wrn {x : Int} (h1 : -9223372036854775808 ≤ x) (h2 : x ≤ 9223372036854775807) : IntKind.i64.wrap x = x := IntWalk.i64_in _ (by omega)
/-- What End tells. -/
def endV : Option Nat → Value
  | some e => .tuple #[.int .i64 (e : Int), .bool true]
  | none => .tuple #[.int .i64 0, .bool false]
theorem End_neg (a : Option Addr) (n c : Nat) (i : Int) (hi : i < 0) (W : World) : Calls Try.prog 9 #[.slice a n c, .int .i64 i] W (ValEnd (endV none) W) := by
  go_enter Try.func9, Try.ntmps9
  go_wp2_with fail
  go_loopw [1, 6] (fun iv mv wr => iv = .int .i64 i ∧ mv = .int .i64 1 ∧ wr = W) (fun _ _ _ => 0)
  case atStart => exact ⟨rfl, rfl, rfl⟩
  case round =>
    obtain ⟨rfl, rfl, rfl⟩ := hrel
    go_wp2_with fail
    go_ret2
    exact ⟨rfl, Below.refl _ _⟩
set_option maxHeartbeats 1600000 in
theorem End_in (a : Option Addr) (n c : Nat) (f : Nat → Nd) (p : Nat) (W : World) (h : Nq W a n f) (hn : n ≤ 1000000) (hp : p ≤ 9223372036854775807) :
    Calls Try.prog 9 #[.slice a n c, .int .i64 (p : Int)] W (ValEnd (endV (eN (ksF f n) 1 p)) W) := by
  obtain ⟨r, hr⟩ : ∃ r, r = eN (ksF f n) 1 p := ⟨_, rfl⟩
  rw [← hr]
  have HR := Lib.hid hr
  have H := Lib.hid h
  clear h hr
  go_enter Try.func9, Try.ntmps9
  go_wp2_with fail
  go_loopw [1, 6] (fun iv mv wr => ∃ q m : Nat, iv = .int .i64 q ∧ mv = .int .i64 m ∧ p ≤ q ∧ (p < q → q ≤ n) ∧ m ≤ 1 + 3 * (q - p) ∧ (p = q → m = 1) ∧ eN (ksF f n) m q = r ∧ Below W.heap.size W wr) (fun iv _ _ => n - (intOf iv).toNat)
  case atStart => exact ⟨p, 1, rfl, rfl, Nat.le_refl _, fun h => by omega, by omega, fun _ => rfl, HR.out.symm, Below.refl _ _⟩
  case round =>
    obtain ⟨q, m, rfl, rfl, hq, hqn, hm, hm1, he, hb⟩ := hrel
    by_cases h0 : m = 0
    · subst h0
      have e0 : ¬ (0 : Int) < ((0 : Nat) : Int) := by omega
      rw [eN_zero] at he
      subst he
      clear hq hqn hm hm1 HR H
      go_wp2_with fail
      go_ret2
      exact ⟨rfl, hb⟩
    · have e0 : (0 : Int) < (m : Int) := by omega
      have e1 : ¬ (q : Int) < 0 := by omega
      obtain ⟨m, rfl⟩ : ∃ m', m = m' + 1 := ⟨m - 1, by omega⟩
      by_cases hlt : q < n
      · have e2 : ¬ (n : Int) ≤ (q : Int) := by omega
        obtain ⟨gb, off, rfl, hc⟩ := H.out.ld (by omega)
        obtain ⟨c0, c1, c2, c3, c4⟩ := (hc q hlt).below hb (hc q hlt).lt
        rw [eN_at (ks_at hlt)] at he
        have hk := kd_le (f q).k (f q).v
        have HE := Lib.hid he
        have KK := Lib.hid (fun w => Kids_is (f q).k (f q).v (f q).a (f q).x (f q).g (f q).m (f q).c w)
        obtain ⟨z, hz⟩ : ∃ z, z = kd (f q).k (f q).v := ⟨_, rfl⟩
        rw [← hz] at KK hk HE
        clear he hc hz HR
        go_wp2_with fail
        refine (KK.out _).mono ?_
        rintro e w1 ⟨rfl, hb1⟩
        replace hb := hb.trans (hb1.mono hb.size)
        clear c0 c1 c2 c3 c4 hb1 KK
        by_cases hz0 : z < 0
        · obtain rfl : r = none := by have := HE.out; rw [if_pos hz0] at this; exact this.symm
          clear HE
          go_wp2_with fail
          go_ret2
          exact ⟨rfl, hb⟩
        · have := HE.out
          rw [if_neg hz0] at this
          have HE2 := Lib.hid this
          have w1 : IntKind.i64.wrap (z - 1) = z - 1 := wrn (by omega) (by omega)
          have w2 : IntKind.i64.wrap ((m : Int) + 1 + (z - 1)) = (m : Int) + 1 + (z - 1) := wrn (by omega) (by omega)
          have w3 : IntKind.i64.wrap ((q : Int) + 1) = (q : Int) + 1 := wrn (by omega) (by omega)
          clear this HE
          go_wp2_with fail
          refine ⟨⟨q + 1, m + z.toNat, by go_num, ?_, by omega, fun _ => by omega, by omega, fun h => by omega, HE2.out, hb⟩, by simp [intOf]; omega⟩
          congr 1
          omega
      · have e2 : (n : Int) ≤ (q : Int) := by omega
        rw [eN_out (by rw [ks_len]; omega)] at he
        subst he
        clear hq hqn hm hm1 HR H
        go_wp2_with fail
        go_ret2
        exact ⟨rfl, hb⟩
theorem rEnd_neg (a : Option Addr) (n c : Nat) (i : Int) (hi : i < 0) (W : World) : Calls Try.prog 10 #[.slice a n c, .int .i64 i] W (ValEnd (endV none) W) := by
  go_enter Try.func10, Try.ntmps10
  go_wp2_with fail
  go_ret2
  exact ⟨rfl, Below.refl _ _⟩
theorem rEnd_out (a : Option Addr) (n c p : Nat) (hp : n ≤ p) (W : World) : Calls Try.prog 10 #[.slice a n c, .int .i64 (p : Int)] W (ValEnd (endV none) W) := by
  have e1 : ¬ (p : Int) < 0 := by omega
  have e2 : (n : Int) ≤ (p : Int) := by omega
  go_enter Try.func10, Try.ntmps10
  go_wp2_with fail
  go_ret2
  exact ⟨rfl, Below.refl _ _⟩
set_option maxHeartbeats 3200000 in
theorem rEnd_all (a : Option Addr) (n c : Nat) (f : Nat → Nd) (hn : n ≤ 1000000) : ∀ N p, n - p ≤ N → ∀ W, Nq W a n f →
    Calls Try.prog 10 #[.slice a n c, .int .i64 (p : Int)] W (ValEnd (endV (eN (ksF f n) 1 p)) W) := by
  intro N
  induction N with
  | zero =>
    intro p hp W h
    rw [eN_out (by rw [ks_len]; omega)]
    exact rEnd_out a n c p (by omega) W
  | succ N ih =>
    intro p hp W h
    by_cases hlt : p < n
    · have e1 : ¬ (p : Int) < 0 := by omega
      have e2 : ¬ (n : Int) ≤ (p : Int) := by omega
      have H := Lib.hid h
      have IH := Lib.hid ih
      obtain ⟨gb, off, rfl, hc⟩ := h.ld (by omega)
      have HC := Lib.hid (hc p hlt)
      obtain ⟨c0, c1, c2, c3, c4⟩ := hc p hlt
      have hk := kd_le (f p).k (f p).v
      have he := eN_at (m := 0) (ks_at (f := f) hlt)
      rw [Nat.zero_add] at he
      have KK := Lib.hid (fun w => rKids_is (f p).k (f p).v (f p).a (f p).x (f p).g (f p).m (f p).c w)
      obtain ⟨z, hz⟩ : ∃ z, z = kd (f p).k (f p).v := ⟨_, rfl⟩
      rw [← hz] at KK hk he
      rw [he]
      clear ih h hc hz he
      by_cases hz0 : z < 0
      · rw [if_pos hz0]
        go_enter Try.func10, Try.ntmps10
        go_wp2_with fail
        refine (KK.out _).mono ?_
        rintro e w1 ⟨rfl, hb⟩
        clear c0 c1 c2 c3 c4
        go_wp2_with fail
        go_ret2
        exact ⟨rfl, hb⟩
      · rw [if_neg hz0]
        obtain ⟨y, rfl⟩ : ∃ y : Nat, z = y := ⟨z.toNat, by omega⟩
        have w3 : IntKind.i64.wrap ((p : Int) + 1) = (p : Int) + 1 := wrn (by omega) (by omega)
        rw [Nat.zero_add, Int.toNat_natCast]
        obtain ⟨r, hr⟩ : ∃ r, r = eN (ksF f n) y (p + 1) := ⟨_, rfl⟩
        rw [← hr]
        have HR := Lib.hid hr
        clear hr
        go_enter Try.func10, Try.ntmps10
        go_wp2_with fail
        refine (KK.out _).mono ?_
        rintro e w1 ⟨rfl, hb⟩
        clear c0 c1 c2 c3 c4
        go_wp2_with fail
        go_loopw [6, 7] (fun av kv wr => ∃ q j : Nat, av = .int .i64 q ∧ kv = .int .i64 j ∧ p < q ∧ j ≤ y ∧ eN (ksF f n) (y - j) q = r ∧ Below W.heap.size W wr) (fun _ kv _ => y - (intOf kv).toNat)
        case atStart => exact ⟨p + 1, 0, by go_num, rfl, by omega, by omega, HR.out.symm, hb⟩
        case round =>
          obtain ⟨q, j, rfl, rfl, hq, hj, he, hb⟩ := hrel
          obtain ⟨c0, c1, c2, c3, c4⟩ := HC.out.below hb HC.out.lt
          have HQ := Lib.hid he
          clear he
          go_wp2_with fail
          refine (KK.out _).mono ?_
          rintro e w2 ⟨rfl, hb1⟩
          replace hb := hb.trans (hb1.mono hb.size)
          clear c0 c1 c2 c3 c4 hb1
          by_cases hjy : j < y
          · have e3 : (j : Int) < (y : Int) := by omega
            have KE := IH.out q (by omega) w2 (H.out.below hb)
            have he := HQ.out
            rw [show y - j = 1 + (y - (j + 1)) by omega, eN_sum] at he
            cases hr1 : eN (ksF f n) 1 q with
            | none =>
              rw [hr1] at he KE
              obtain rfl : r = none := he.symm
              have KE2 := Lib.hid KE
              clear KE he hr1
              go_wp2_with fail
              refine KE2.out.mono ?_
              rintro e w3 ⟨rfl, hb1⟩
              replace hb := hb.trans (hb1.mono hb.size)
              unfold endV
              go_wp2_with fail
              go_ret2
              exact ⟨rfl, hb⟩
            | some q2 =>
              rw [hr1] at he KE
              have KE2 := Lib.hid KE
              have HE := Lib.hid he
              have h2 : p < q2 := by
                obtain ⟨d, hd⟩ := Fd.ex hr1
                have := hd.le.1
                omega
              clear KE he hr1
              go_wp2_with fail
              refine KE2.out.mono ?_
              rintro e w3 ⟨rfl, hb1⟩
              replace hb := hb.trans (hb1.mono hb.size)
              unfold endV
              go_wp2_with fail
              refine ⟨⟨q2, j + 1, rfl, by go_num, h2, by omega, HE.out, hb⟩, by simp [intOf]; omega⟩
          · have e3 : ¬ (j : Int) < (y : Int) := by omega
            obtain rfl : j = y := by omega
            have he := HQ.out
            rw [Nat.sub_self, eN_zero] at he
            subst he
            go_wp2_with fail
            go_ret2
            exact ⟨rfl, hb⟩
    · rw [eN_out (by rw [ks_len]; omega)]
      exact rEnd_out a n c p (by omega) W
/-- Where the tree at a place ends. -/
def enI (K : List Int) (i : Int) : Option Nat := if i < 0 then none else eN K 1 i.toNat
theorem enI_nat (K : List Int) (p : Nat) : enI K (p : Int) = eN K 1 p := by
  unfold enI
  rw [if_neg (by omega), Int.toNat_natCast]
theorem End_is (a : Option Addr) (n c : Nat) (f : Nat → Nd) (i : Int) (W : World) (h : Nq W a n f) (hn : n ≤ 1000000) (hi : i ≤ 9223372036854775807) :
    Calls Try.prog 9 #[.slice a n c, .int .i64 i] W (ValEnd (endV (enI (ksF f n) i)) W) := by
  by_cases h0 : i < 0
  · unfold enI
    rw [if_pos h0]
    exact End_neg a n c i h0 W
  · obtain ⟨p, rfl⟩ : ∃ p : Nat, i = p := ⟨i.toNat, by omega⟩
    rw [enI_nat]
    exact End_in a n c f p W h hn (by omega)
theorem rEnd_is (a : Option Addr) (n c : Nat) (f : Nat → Nd) (i : Int) (W : World) (h : Nq W a n f) (hn : n ≤ 1000000) :
    Calls Try.prog 10 #[.slice a n c, .int .i64 i] W (ValEnd (endV (enI (ksF f n) i)) W) := by
  by_cases h0 : i < 0
  · unfold enI
    rw [if_pos h0]
    exact rEnd_neg a n c i h0 W
  · obtain ⟨p, rfl⟩ : ∃ p : Nat, i = p := ⟨i.toNat, by omega⟩
    rw [enI_nat]
    exact rEnd_all a n c f hn _ p (Nat.le_refl _) W h
end Go.Proofs.Ytiopemimancliaa

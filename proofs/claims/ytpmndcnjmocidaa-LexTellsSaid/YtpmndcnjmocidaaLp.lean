/-
  LexTells at every text and every slice of parts.
-/
import Derived.Test.YtpmndcnjmocidaaLk
namespace Go.Proofs.Ytpmndcnjmocidaa
open Go.RowKit

/-- What either Lex tells. -/
def LexAny (n : Nat) (F : Nat → Rt) (p z : Int) (w : World) (e : Ending) (w' : World) : Prop := ∃ a c, e = .returned (.tuple #[.slice a n c, .int .i64 p, .int .i64 z]) ∧ Qs w' a n F ∧ Below w.heap.size w w'
theorem lexes_any (s : ByteArray) (hs : s.size ≤ 9223372036854775807) : ∃ n F p z, n ≤ 9223372036854775807 ∧ (∀ w, Calls Try.prog 9 #[.string s] w (LexAny n F p z w)) ∧ (∀ w, Calls Try.prog 10 #[.string s] w (LexAny n F p z w)) := by
  by_cases hz : s.size ≤ 256
  · obtain ⟨ts, e, hR, hL, hL2⟩ := Lex_any s hz
    have hn1 : ts.length ≤ 256 := by have := hR.span.2; simp at this; omega
    cases e with
    | none =>
      exact ⟨ts.length, rtk ts, 0, 0, by omega, fun w => (hL w).mono fun e w' ⟨a, c, h1, _, h2, h3⟩ => ⟨a, c, h1, h2, h3⟩, fun w => (hL2 w).mono fun e w' ⟨a, c, h1, _, h2, h3⟩ => ⟨a, c, h1, h2, h3⟩⟩
    | some q =>
      exact ⟨0, rtk ts, q, 2, by omega, fun w => (hL w).mono fun e w' ⟨h1, h2⟩ => ⟨none, 0, h1, (fun h => by omega), h2⟩, fun w => (hL2 w).mono fun e w' ⟨h1, h2⟩ => ⟨none, 0, h1, (fun h => by omega), h2⟩⟩
  · exact ⟨0, rtk [], 0, 8, by omega, fun w => (big_is s (by omega) hs w).mono fun e w' ⟨h1, h2⟩ => ⟨none, 0, h1, (fun h => by omega), h2⟩, fun w => (rbig_is s (by omega) hs w).mono fun e w' ⟨h1, h2⟩ => ⟨none, 0, h1, (fun h => by omega), h2⟩⟩
def AllFew (f : Nat → Rt) (k : Nat) : Prop := ∀ j, j < k → (f j).x.size ≤ 200
set_option maxHeartbeats 6400000 in
set_option maxRecDepth 100000 in
theorem tells_any (s : ByteArray) (a : Option Addr) (n c : Nat) (f : Nat → Rt) (hs : s.size ≤ 9223372036854775807) (W : World) (h : Qs W a n f) (hn : n ≤ 9223372036854775807) (hf : ∀ j, j < n → (f j).x.size ≤ 9223372036854775807) :
    Calls Try.prog 3 #[.string s, .slice a n c] W (TrueEnd W) := by
  have KS := Lib.hid (fun w => shown_is w)
  have H := Lib.hid h
  have HF := Lib.hid hf
  clear h hf
  by_cases hz : s.size ≤ 600
  · by_cases hn2 : n ≤ 200
    · have e1 : ¬ (600 : Int) < (s.size : Int) := by omega
      have e2 : ¬ (200 : Int) < (n : Int) := by omega
      obtain ⟨n0, F, p, z, hn0, hA, hB⟩ := lexes_any s hs
      have hl : s.data.toList.length ≤ 600 := by simpa using hz
      have KN := fun w => (show Calls Try.prog 11 #[.string (tx s.data.toList)] w (PairS (tx (numT s.data.toList)) (numB s.data.toList) w) from Number_is s.data.toList (by omega) w)
      have KN2 := fun w => (show Calls Try.prog 12 #[.string (tx s.data.toList)] w (PairS (tx (numT s.data.toList)) (numB s.data.toList) w) from rNumber_is s.data.toList (by omega) w)
      have KL := fun w => (show Calls Try.prog 13 #[.string (tx s.data.toList)] w (PairS (tx (litT s.data.toList)) (mayL s.data.toList) w) from Literal_is s.data.toList (by omega) w)
      have KL2 := fun w => (show Calls Try.prog 14 #[.string (tx s.data.toList)] w (PairS (tx (litT s.data.toList)) (mayL s.data.toList) w) from rLiteral_is s.data.toList (by omega) w)
      rw [tx_back] at KN KN2 KL KL2
      replace KN := Lib.hid KN
      replace KN2 := Lib.hid KN2
      replace KL := Lib.hid KL
      replace KL2 := Lib.hid KL2
      replace hA := Lib.hid hA
      replace hB := Lib.hid hB
      have KJ := Lib.hid (fun (w : World) (hb : Below W.heap.size W w) (hf : AllFew f n) => (show Calls Try.prog 16 #[.slice a n c] w (fun e w' => e = .returned (.string (tx (joinT (jl f n)))) ∧ Below w.heap.size w w') from
        Join_is a n c f w (H.out.below hb) (by omega) (by have := jl_size (f := f) (n := n) (fun j hj => Nat.le_trans (hf j hj) (by decide)) n (Nat.le_refl _); omega)))
      have KJ2 := Lib.hid (fun (w : World) (hb : Below W.heap.size W w) (hf : AllFew f n) => (show Calls Try.prog 17 #[.slice a n c] w (fun e w' => e = .returned (.string (tx (joinT (jl f n)))) ∧ Below w.heap.size w w') from
        rJoin_is a n c f w (H.out.below hb) (by omega) (fun j hj => Nat.le_trans (hf j hj) (by decide))))
      clear hl
      generalize tx (numT s.data.toList) = tn at *
      generalize tx (litT s.data.toList) = tl at *
      generalize numB s.data.toList = nb at *
      generalize mayL s.data.toList = mb at *
      generalize tx (joinT (jl f n)) = tj at *
      go_enter Try.func3, Try.ntmps3
      go_wp2_with fail
      refine (KS.out _).mono ?_
      rintro e w1 ⟨rfl, hb1⟩
      go_wp2_with fail
      go_loop [6] (fun iv => ∃ k : Nat, iv = .int .i64 k ∧ k ≤ n ∧ AllFew f k) (fun iv => n - (intOf iv).toNat)
      case atStart => exact ⟨0, rfl, by omega, fun j hj => by omega⟩
      case round =>
        obtain ⟨k, rfl, hk, hk2⟩ := hrel
        have HK := Lib.hid hk2
        clear hk2
        by_cases hlt : k < n
        · have e3 : (k : Int) < (n : Int) := by omega
          obtain ⟨g, o, rfl, hc⟩ := (H.out.below hb1) (by omega)
          have x1 := (hc k hlt).2.1
          have hzk := HF.out k hlt
          clear hc
          by_cases h2 : (f k).x.size ≤ 200
          · have e4 : ¬ (200 : Int) < ((f k).x.size : Int) := by omega
            have HK2 := Lib.hid (show AllFew f (k + 1) from fun j hj => by
              by_cases h3 : j = k
              · rw [h3]; exact h2
              · exact HK.out j (by omega))
            go_wp2_with fail
            go_round
            case rel => exact ⟨k + 1, by go_num, by omega, HK2.out⟩
            case measure => simp [intOf]; omega
          · have e4 : (200 : Int) < ((f k).x.size : Int) := by omega
            go_wp2_with fail
            go_ret
            exact ⟨rfl, hb1⟩
        · have e3 : ¬ (k : Int) < (n : Int) := by omega
          obtain rfl : k = n := by omega
          have KJ3 := Lib.hid (fun w hb => KJ.out w hb HK.out)
          have KJ4 := Lib.hid (fun w hb => KJ2.out w hb HK.out)
          clear KJ KJ2 HF
          go_wp2_with fail
          refine (hA.out _).mono ?_
          rintro e w2 ⟨a1, c1, rfl, hq1, hb⟩
          have hb2 := hb1.trans (hb.mono hb1.size)
          clear hb1 hb
          go_wp2_with fail
          refine (hB.out _).mono ?_
          rintro e w3 ⟨a2, c2, rfl, hq2, hb⟩
          have hb3 := hb2.trans (hb.mono hb2.size)
          replace hq1 := hq1.below hb
          have KT := Lib.hid (Toks_is a1 a2 n0 c1 c2 F w3 hq1 hq2 hn0)
          clear hb2 hb hq1 hq2
          go_wp2_with fail
          refine (KN.out _).mono ?_
          rintro e w4 ⟨rfl, rfl⟩
          go_wp2_with fail
          refine (KN2.out _).mono ?_
          rintro e w4 ⟨rfl, rfl⟩
          go_wp2_with fail
          refine (KL.out _).mono ?_
          rintro e w4 ⟨rfl, rfl⟩
          go_wp2_with fail
          refine (KL2.out _).mono ?_
          rintro e w4 ⟨rfl, rfl⟩
          go_wp2_with fail
          refine KT.out.mono ?_
          rintro e w4 ⟨rfl, hb⟩
          have hb4 := hb3.trans (hb.mono hb3.size)
          clear hb3 hb KT
          go_wp2_with fail
          refine (KJ3.out _ hb4).mono ?_
          rintro e w5 ⟨rfl, hb⟩
          have hb5 := hb4.trans (hb.mono hb4.size)
          clear hb4 hb
          go_wp2_with fail
          refine (KJ4.out _ hb5).mono ?_
          rintro e w6 ⟨rfl, hb⟩
          have hb6 := hb5.trans (hb.mono hb5.size)
          clear hb5 hb
          go_wp2_with fail
          go_ret
          exact ⟨rfl, hb6⟩
    · have e1 : ¬ (600 : Int) < (s.size : Int) := by omega
      have e2 : (200 : Int) < (n : Int) := by omega
      go_enter Try.func3, Try.ntmps3
      go_wp2_with fail
      refine (KS.out _).mono ?_
      rintro e w1 ⟨rfl, hb1⟩
      go_wp2_with fail
      go_ret
      exact ⟨rfl, hb1⟩
  · have e1 : (600 : Int) < (s.size : Int) := by omega
    go_enter Try.func3, Try.ntmps3
    go_wp2_with fail
    refine (KS.out _).mono ?_
    rintro e w1 ⟨rfl, hb1⟩
    go_wp2_with fail
    go_ret
    exact ⟨rfl, hb1⟩
end Go.Proofs.Ytpmndcnjmocidaa

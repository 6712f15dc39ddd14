/-
  LexError at every two texts.
-/
import Derived.Test.YtpmndcnjmocidaaLj
namespace Go.Proofs.Ytpmndcnjmocidaa
open Go.RowKit

theorem catblank (s m : ByteArray) : (s ++ ⟨#[32]⟩ ++ m).data.toList = s.data.toList ++ 32 :: m.data.toList := by
  rw [ByteArray.data_append, Array.toList_append, ByteArray.data_append, Array.toList_append]
  simp
set_option maxHeartbeats 3200000 in
theorem error_any (s m : ByteArray) (hs : s.size ≤ 4611686018427387903) (hm : m.size ≤ 4611686018427387903) (W : World) : Calls Try.prog 7 #[.string s, .string m] W (TrueEnd W) := by
  have KS := Lib.hid (fun w => shown_is w)
  have hz0 : (0 : Int) ≤ (s.size : Int) := Int.natCast_nonneg _
  have hz1 : (0 : Int) ≤ (m.size : Int) := Int.natCast_nonneg _
  by_cases hz : s.size + m.size ≤ 250
  · have e1 : ¬ (250 : Int) < (s.size : Int) + (m.size : Int) := by omega
    obtain ⟨ts, e, hR, hL, -⟩ := Lex_any s (by omega)
    cases e with
    | none =>
      replace hL := Lib.hid hL
      clear hR
      go_enter Try.func7, Try.ntmps7
      go_wp2_with fail
      refine (KS.out _).mono ?_
      rintro e w1 ⟨rfl, hb1⟩
      go_wp2_with fail
      refine (hL.out _).mono ?_
      rintro e w2 ⟨a, c, rfl, hcap, hq, hb2⟩
      have hb3 := hb1.trans (hb2.mono hb1.size)
      clear hb1 hb2 hq hcap
      go_wp2_with fail
      go_ret
      exact ⟨rfl, hb3⟩
    | some q =>
      obtain ⟨-, hq2, hq3⟩ := hR.err_at rfl
      have hq4 : q < s.size := by simpa using hq2
      have hT : (s.extract 0 q).data.toList = s.data.toList.take (q - 0) := by rw [extract_list, List.drop_zero]
      have hsz1 : (s.extract 0 q).size ≤ 256 := by
        have h9 : (s.extract 0 q).data.toList.length = (s.extract 0 q).size := by simp
        rw [← h9, hT, List.length_take]
        omega
      have hA := fun w => lex_is (s.extract 0 q) hsz1 ts none (by rw [hT]; exact hq3) w
      have hsz2 : (s ++ (⟨#[32]⟩ : ByteArray) ++ m).size ≤ 256 := by
        rw [ByteArray.size_append, ByteArray.size_append, show (⟨#[32]⟩ : ByteArray).size = 1 from rfl]; omega
      have hsz3 : (s ++ (⟨#[32]⟩ : ByteArray)).size ≤ 256 := by
        rw [ByteArray.size_append, show (⟨#[32]⟩ : ByteArray).size = 1 from rfl]; omega
      have hB := fun w => lex_is (s ++ (⟨#[32]⟩ : ByteArray) ++ m) hsz2 ts (some q) (by rw [catblank]; exact hR.err_blank rfl _) w
      replace hA := Lib.hid hA
      replace hB := Lib.hid hB
      replace hL := Lib.hid hL
      have g1 : ¬ (q : Int) < 0 := by omega
      have g2 : ¬ (s.size : Int) ≤ (q : Int) := by omega
      clear hR hq2 hq3 hT hsz1
      go_enter Try.func7, Try.ntmps7
      go_wp2_with fail
      refine (KS.out _).mono ?_
      rintro e w1 ⟨rfl, hb1⟩
      go_wp2_with fail
      refine (hL.out _).mono ?_
      rintro e w2 ⟨rfl, hb2⟩
      have hb3 := hb1.trans (hb2.mono hb1.size)
      clear hb1 hb2
      go_wp2_with fail
      refine (hA.out _).mono ?_
      rintro e w3 ⟨a, c, rfl, hcap, hqq, hb2⟩
      have hb4 := hb3.trans (hb2.mono hb3.size)
      clear hb3 hb2 hqq hcap
      go_wp2_with fail
      refine (hB.out _).mono ?_
      rintro e w4 ⟨rfl, hb2⟩
      have hb5 := hb4.trans (hb2.mono hb4.size)
      clear hb4 hb2
      go_wp2_with fail
      go_ret
      exact ⟨rfl, hb5⟩
  · have e1 : (250 : Int) < (s.size : Int) + (m.size : Int) := by omega
    go_enter Try.func7, Try.ntmps7
    go_wp2_with fail
    refine (KS.out _).mono ?_
    rintro e w1 ⟨rfl, hb1⟩
    go_wp2_with fail
    go_ret
    exact ⟨rfl, hb1⟩
end Go.Proofs.Ytpmndcnjmocidaa

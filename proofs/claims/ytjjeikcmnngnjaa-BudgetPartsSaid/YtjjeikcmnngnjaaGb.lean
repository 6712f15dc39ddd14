/-
  The reference's times, by halves: what is bounded multiplied.
-/
import Derived.Test.YtjjeikcmnngnjaaGa
import Derived.LoopTactic
namespace Go.Proofs.Ytjjeikcmnngnjaa
open Go.RowKit

/-- One round of the halves: what is still to be added, bounded. -/
theorem half_even {n x y : Int} (hn : 0 ≤ n) (hx : 0 ≤ x) (hy : 0 < y) (h : y % 2 = 0) : bd (n + bd (2 * x) * (y / 2)) = bd (n + x * y) := by
  have e : x * y = 2 * x * (y / 2) := by
    have h2 : y = 2 * (y / 2) := by omega
    calc x * y = x * (2 * (y / 2)) := by rw [← h2]
      _ = 2 * x * (y / 2) := by rw [← Int.mul_assoc, Int.mul_comm x 2]
  have hk : 1 ≤ y / 2 := by omega
  rw [e]
  rcases Int.le_total (2 * x) 1099511627776 with h1 | h1
  · rw [bd_in (by omega) h1]
  · rw [bd_high h1]
    have h3 : 1099511627776 * 1 ≤ 1099511627776 * (y / 2) := Int.mul_le_mul_of_nonneg_left hk (by omega)
    have h4 : 2 * x * 1 ≤ 2 * x * (y / 2) := Int.mul_le_mul_of_nonneg_left hk (by omega)
    rw [bd_high (x := n + 1099511627776 * (y / 2)) (by omega), bd_high (x := n + 2 * x * (y / 2)) (by omega)]
theorem bd_add {n p : Int} (hp : 0 ≤ p) (hn : 0 ≤ n) : bd (bd n + p) = bd (n + p) := by
  rcases Int.le_total n 1099511627776 with h1 | h1
  · rw [bd_in hn h1]
  · rw [bd_high h1, bd_high (by omega), bd_high (by omega)]
theorem half_odd {n x y : Int} (hn : 0 ≤ n) (hx : 0 ≤ x) (hy : 0 < y) (h : y % 2 = 1) : bd (bd (n + x) + bd (2 * x) * (y / 2)) = bd (n + x * y) := by
  have hp : 0 ≤ bd (2 * x) * (y / 2) := Int.mul_nonneg (bd_le _).1 (by omega)
  rw [bd_add hp (by omega)]
  have e : n + x * y = (n + x) + x * (y - 1) := by rw [Int.mul_sub, Int.mul_one]; omega
  rw [e]
  by_cases h1 : y = 1
  · subst h1
    rw [show (1 : Int) / 2 = 0 by decide, Int.mul_zero, show (1 : Int) - 1 = 0 by decide, Int.mul_zero]
  · have := half_even (n := n + x) (x := x) (y := y - 1) (by omega) hx (by omega) (by omega)
    rw [show (y - 1) / 2 = y / 2 by omega] at this
    exact this
set_option maxHeartbeats 800000 in
theorem rTimesP_is (x n : Int) (w : World) : Calls Try.prog 24 #[.int .i64 x, .int .i64 n] w (PureEnd (.int .i64 (pd x n)) w) := by
  have hx := bd_le x
  have hy := bd_le n
  have K1 := Lib.hid (rBounded_is x w)
  have K2 := Lib.hid (rBounded_is n w)
  have KB := Lib.hid (fun z => rBounded_is z w)
  obtain ⟨v, hv⟩ : ∃ v, v = pd x n := ⟨_, rfl⟩
  rw [← hv]
  replace hv : v = bd (bd x * bd n) := hv
  generalize bd x = a at *
  generalize bd n = b at *
  have HV := Lib.hid hv
  have ha := Lib.hid hx
  have hb := Lib.hid hy
  clear hv hx hy
  go_enter Try.func24, Try.ntmps24
  go_wp2_with fail
  refine K1.out.mono ?_
  rintro e w1 ⟨rfl, rfl⟩
  go_wp2_with fail
  refine K2.out.mono ?_
  rintro e w2 ⟨rfl, rfl⟩
  go_wp2_with fail
  go_loop [0, 1, 5] (fun xv yv nv => ∃ x y n : Int, xv = .int .i64 x ∧ yv = .int .i64 y ∧ nv = .int .i64 n ∧ 0 ≤ x ∧ x ≤ 1099511627776 ∧ 0 ≤ y ∧ y ≤ 1099511627776 ∧ 0 ≤ n ∧ n ≤ 1099511627776 ∧ v = bd (n + x * y)) (fun _ yv _ => (intOf yv).toNat)
  case atStart => exact ⟨a, b, 0, rfl, rfl, rfl, ha.out.1, ha.out.2, hb.out.1, hb.out.2, by omega, by omega, by rw [HV.out, Int.zero_add]⟩
  case round =>
    obtain ⟨x, y, n, rfl, rfl, rfl, hx0, hx1, hy0, hy1, hn0, hn1, hv⟩ := hrel
    clear K1 K2 HV ha hb
    have HV := Lib.hid hv
    clear hv
    by_cases hlt : 0 < y
    · have KX := Lib.hid (KB.out (2 * x))
      have hw2 : IntKind.i64.wrap (2 * x) = 2 * x := wr (by omega) (by omega)
      have hx2 := Lib.hid (bd_le (2 * x))
      rcases (show y % 2 = 1 ∨ y % 2 = 0 by omega) with hm | hm
      · have KN := Lib.hid (KB.out (n + x))
        have hw1 : IntKind.i64.wrap (n + x) = n + x := wr (by omega) (by omega)
        have hn2 := Lib.hid (bd_le (n + x))
        have HE := Lib.hid (half_odd hn0 hx0 hlt hm)
        generalize bd (2 * x) = x2 at *
        generalize bd (n + x) = n2 at *
        go_wp2_with fail
        refine KN.out.mono ?_
        rintro e w2 ⟨rfl, rfl⟩
        go_wp2_with fail
        refine KX.out.mono ?_
        rintro e w3 ⟨rfl, rfl⟩
        go_wp2_with fail
        go_round
        case rel => exact ⟨x2, y / 2, n2, rfl, rfl, rfl, hx2.out.1, hx2.out.2, by omega, by omega, hn2.out.1, hn2.out.2, by rw [HV.out, ← HE.out]⟩
        case measure => simp [intOf]; omega
      · have HE := Lib.hid (half_even hn0 hx0 hlt hm)
        generalize bd (2 * x) = x2 at *
        go_wp2_with fail
        refine KX.out.mono ?_
        rintro e w3 ⟨rfl, rfl⟩
        go_wp2_with fail
        go_round
        case rel => exact ⟨x2, y / 2, n, rfl, rfl, rfl, hx2.out.1, hx2.out.2, by omega, by omega, hn0, hn1, by rw [HV.out, ← HE.out]⟩
        case measure => simp [intOf]; omega
    · obtain rfl : y = 0 := by omega
      obtain rfl : v = n := by rw [HV.out, Int.mul_zero, Int.add_zero]; exact bd_in hn0 hn1
      go_wp2_with fail
      go_ret
      exact ⟨rfl, rfl⟩
end Go.Proofs.Ytjjeikcmnngnjaa

/-
  Parts of budgets, bounded, added, multiplied: plain facts; the contracts of the program's and the reference's functions on parts.
-/
import Derived.Test.YtjjeikcmnngnjaaProg
import Derived.WalkKit
import Derived.WalkSpells
import Derived.WalkLawsBesides
import Derived.Lib.Hide
import Derived.IntWalk
namespace Go.Proofs.Ytjjeikcmnngnjaa
open Go.RowKit

/-- A part, bounded. -/
def bd (x : Int) : Int := if x < 0 then 0 else if 1099511627776 < x then 1099511627776 else x
theorem bd_le (x : Int) : 0 ≤ bd x ∧ bd x ≤ 1099511627776 := by unfold bd; split <;> (try split) <;> omega
theorem bd_in {x : Int} (h0 : 0 ≤ x) (h1 : x ≤ 1099511627776) : bd x = x := by unfold bd; split <;> (try split) <;> omega
theorem bd_low {x : Int} (h : x ≤ 0) : bd x = 0 := by unfold bd; split <;> (try split) <;> omega
theorem bd_high {x : Int} (h : 1099511627776 ≤ x) : bd x = 1099511627776 := by unfold bd; split <;> (try split) <;> omega
theorem bd_bd (x : Int) : bd (bd x) = bd x := bd_in (bd_le x).1 (bd_le x).2
theorem bd_max (x : Int) : min (max x 0) 1099511627776 = bd x := by unfold bd; split <;> (try split) <;> omega
/-- Two parts together; a part so often. -/
def sm (x y : Int) : Int := bd (bd x + bd y)
def pd (x n : Int) : Int := bd (bd x * bd n)

/-- What only reckons. -/
def PureEnd (v : Value) (w : World) (e : Ending) (w' : World) : Prop := e = .returned v ∧ w' = w

theorem Bounded_is (x : Int) (w : World) : Calls Try.prog 25 #[.int .i64 1099511627776, .int .i64 x] w (PureEnd (.int .i64 (bd x)) w) := by
  by_cases h0 : x < 0
  · have hm : max x 0 = 0 := by omega
    rw [bd_low (by omega)]
    go_enter Try.func25, Try.ntmps25
    go_wp2_with fail
    all_goals first | omega | (go_ret; exact ⟨rfl, rfl⟩)
  · have h0 : 0 ≤ x := by omega
    by_cases h1 : 1099511627776 < x
    · rw [bd_high (by omega)]
      go_enter Try.func25, Try.ntmps25
      go_wp2_with fail
      all_goals first | omega | (go_ret; exact ⟨rfl, rfl⟩)
    · rw [bd_in h0 (by omega)]
      go_enter Try.func25, Try.ntmps25
      go_wp2_with fail
      all_goals first | omega | (go_ret; exact ⟨rfl, rfl⟩)
theorem rBounded_is (x : Int) (w : World) : Calls Try.prog 26 #[.int .i64 x] w (PureEnd (.int .i64 (bd x)) w) := by
  by_cases h0 : x < 0
  · rw [bd_low (by omega)]
    go_enter Try.func26, Try.ntmps26
    go_wp2_with fail
    go_ret
    exact ⟨rfl, rfl⟩
  · by_cases h1 : 1099511627776 < x
    · rw [bd_high (by omega)]
      go_enter Try.func26, Try.ntmps26
      go_wp2_with fail
      go_ret
      exact ⟨rfl, rfl⟩
    · rw [bd_in (by omega) (by omega)]
      go_enter Try.func26, Try.ntmps26
      go_wp2_with fail
      go_ret
      exact ⟨rfl, rfl⟩
theorem wr {x : Int} (h0 : -9223372036854775808 ≤ x) (h1 : x ≤ 9223372036854775807) : IntKind.i64.wrap x = x := IntWalk.i64_in _ (by omega)
theorem Sm_is (x y : Int) (w : World) : Calls Try.prog 27 #[.int .i64 1099511627776, .int .i64 x, .int .i64 y] w (PureEnd (.int .i64 (sm x y)) w) := by
  have hx := bd_le x
  have hy := bd_le y
  have K1 := Lib.hid (Bounded_is x w)
  have K2 := Lib.hid (Bounded_is y w)
  have K3 := Bounded_is (bd x + bd y) w
  rw [show bd (bd x + bd y) = sm x y from rfl] at K3
  replace K3 := Lib.hid K3
  have hw : IntKind.i64.wrap (bd x + bd y) = bd x + bd y := wr (by omega) (by omega)
  generalize bd x = a at *
  generalize bd y = b at *
  go_enter Try.func27, Try.ntmps27
  go_wp2_with fail
  refine K1.out.mono ?_
  rintro e w1 ⟨rfl, rfl⟩
  go_wp2_with fail
  refine K2.out.mono ?_
  rintro e w2 ⟨rfl, rfl⟩
  go_wp2_with fail
  refine K3.out.mono ?_
  rintro e w3 ⟨rfl, rfl⟩
  go_wp2_with fail
  go_ret
  exact ⟨rfl, rfl⟩
theorem Enough_is (x y : Int) (w : World) : Calls Try.prog 21 #[.int .i64 x, .int .i64 y] w (PureEnd (.bool (decide (0 ≤ y ∧ y ≤ x))) w) := by
  by_cases h0 : 0 ≤ y
  · by_cases h1 : y ≤ x
    · rw [decide_eq_true (show 0 ≤ y ∧ y ≤ x from ⟨h0, h1⟩)]
      go_enter Try.func21, Try.ntmps21
      go_wp2_with fail
      go_ret
      exact ⟨rfl, rfl⟩
    · rw [decide_eq_false (show ¬ (0 ≤ y ∧ y ≤ x) by omega)]
      go_enter Try.func21, Try.ntmps21
      go_wp2_with fail
      go_ret
      exact ⟨rfl, rfl⟩
  · rw [decide_eq_false (show ¬ (0 ≤ y ∧ y ≤ x) by omega)]
    go_enter Try.func21, Try.ntmps21
    go_wp2_with fail
    go_ret
    exact ⟨rfl, rfl⟩

/-- A product over the limit, and one below it. -/
theorem over {x n : Int} (hn : 0 < n) (hx : 0 ≤ x) (h : 1099511627776 / n < x) : 1099511627776 ≤ x * n := by
  have h1 : 1099511627776 / n + 1 ≤ x := by omega
  have h2 : (1099511627776 / n + 1) * n ≤ x * n := Int.mul_le_mul_of_nonneg_right h1 (by omega)
  have h3 := Int.lt_ediv_add_one_mul_self 1099511627776 hn
  omega
theorem under {x n : Int} (hn : 0 < n) (h : x ≤ 1099511627776 / n) : x * n ≤ 1099511627776 := by
  have h2 : x * n ≤ 1099511627776 / n * n := Int.mul_le_mul_of_nonneg_right h (by omega)
  have h3 := Int.ediv_mul_le 1099511627776 (show n ≠ 0 by omega)
  omega
theorem Pd_is (x n : Int) (w : World) : Calls Try.prog 23 #[.int .i64 1099511627776, .int .i64 x, .int .i64 n] w (PureEnd (.int .i64 (pd x n)) w) := by
  have hx := bd_le x
  have hy := bd_le n
  have K1 := Lib.hid (Bounded_is x w)
  have K2 := Lib.hid (Bounded_is n w)
  obtain ⟨v, hv⟩ : ∃ v, v = pd x n := ⟨_, rfl⟩
  rw [← hv]
  replace hv : v = bd (bd x * bd n) := hv
  generalize bd x = a at *
  generalize bd n = b at *
  by_cases hb : 0 < b
  · have hq : IntKind.i64.wrap ((1099511627776 : Int).tdiv b) = 1099511627776 / b := by
      rw [Int.tdiv_eq_ediv_of_nonneg (by omega)]
      have h1 : 0 ≤ 1099511627776 / b := Int.ediv_nonneg (by omega) (by omega)
      have h2 : 1099511627776 / b ≤ 1099511627776 := Int.ediv_le_self _ (by omega)
      exact wr (by omega) (by omega)
    have hb0 : b ≠ 0 := by omega
    by_cases hc : 1099511627776 / b < a
    · have hv2 : v = 1099511627776 := by rw [hv]; exact bd_high (over hb hx.1 hc)
      subst hv2
      clear hv
      generalize 1099511627776 / b = q at *
      go_enter Try.func23, Try.ntmps23
      go_wp2_with fail
      refine K1.out.mono ?_
      rintro e w1 ⟨rfl, rfl⟩
      go_wp2_with fail
      refine K2.out.mono ?_
      rintro e w2 ⟨rfl, rfl⟩
      go_wp2_with fail
      go_ret
      exact ⟨rfl, rfl⟩
    · have hp := under hb (show a ≤ 1099511627776 / b by omega)
      have hp0 : 0 ≤ a * b := Int.mul_nonneg hx.1 hy.1
      rw [bd_in hp0 hp] at hv
      have hw : IntKind.i64.wrap (a * b) = v := by rw [hv]; exact wr (by omega) (by omega)
      clear hv hp hp0
      generalize 1099511627776 / b = q at *
      go_enter Try.func23, Try.ntmps23
      go_wp2_with fail
      refine K1.out.mono ?_
      rintro e w1 ⟨rfl, rfl⟩
      go_wp2_with fail
      refine K2.out.mono ?_
      rintro e w2 ⟨rfl, rfl⟩
      go_wp2_with fail
      go_ret
      exact ⟨rfl, rfl⟩
  · obtain rfl : b = 0 := by omega
    obtain rfl : v = 0 := by rw [hv, Int.mul_zero, bd_low (by omega)]
    clear hv
    go_enter Try.func23, Try.ntmps23
    go_wp2_with fail
    refine K1.out.mono ?_
    rintro e w1 ⟨rfl, rfl⟩
    go_wp2_with fail
    refine K2.out.mono ?_
    rintro e w2 ⟨rfl, rfl⟩
    go_wp2_with fail
    go_ret
    exact ⟨rfl, rfl⟩
end Go.Proofs.Ytjjeikcmnngnjaa

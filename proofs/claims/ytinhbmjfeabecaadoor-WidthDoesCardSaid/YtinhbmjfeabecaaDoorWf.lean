import Derived.Test.YtinhbmjfeabecaaDoorProg
import Derived.WalkKit
import Derived.WalkSpells
import Derived.WalkLawsBesides
import Derived.Lib.Hide
import Derived.Laws.Rows
namespace Go.Proofs.YtinhbmjfeabecaaDoor
open Go.RowKit

/-- The five widths, as the table has them. -/
def wrow : Array Value := #[.int .i64 8, .int .i64 16, .int .i64 32, .int .i64 64, .int .i64 128]
def WTab (w : World) : Prop := ∃ t fr, w.heap[0]? = some (.cells wrow t fr)
theorem WTab.below {w w' : World} (h : WTab w) (hb : Below w.heap.size w w') : WTab w' := by
  obtain ⟨t, fr, h⟩ := h
  have hl : 0 < w.heap.size := by
    rcases Nat.lt_or_ge 0 w.heap.size with h' | h'
    · exact h'
    · simp [Array.getElem?_eq_none h'] at h
  exact ⟨t, fr, (hb.block _ hl).trans h⟩
def Fit (x w : Int) : Prop := (w = 8 ∧ -128 ≤ x ∧ x ≤ 127) ∨ (w = 16 ∧ -32768 ≤ x ∧ x ≤ 32767) ∨ (w = 32 ∧ -2147483648 ≤ x ∧ x ≤ 2147483647) ∨ (w = 64 ∧ -9223372036854775808 ≤ x ∧ x ≤ 9223372036854775807) ∨ w = 128
instance (x w : Int) : Decidable (Fit x w) := by unfold Fit; infer_instance
def FitsIs (x w : Int) (v : Bool) : Prop := ∀ W, WTab W → Calls Tryd.prog 12 #[.int .i64 x, .int .i64 w] W fun e W' => e = .returned (.bool v) ∧ W = W'

theorem index_w (W : World) (k : Nat) (hk : k < 5) : (Instr.index 43 (.agg wrow) (.int .i64 k)).run Tryd.prog W = .ok (wrow[k]'hk) W := by
  obtain rfl | rfl | rfl | rfl | rfl : k = 0 ∨ k = 1 ∨ k = 2 ∨ k = 3 ∨ k = 4 := by omega
  all_goals kernel_rfl
theorem ret_w {a b : Bool} (h : a = b) : Ending.returned (.bool a) = .returned (.bool b) := by rw [h]
set_option maxRecDepth 10000 in
theorem fits_any (x w : Int) (h0 : -9223372036854775808 ≤ x) (h1 : x ≤ 9223372036854775807) : FitsIs x w (decide (Fit x w)) := by
  rintro W ⟨tt, fr, hg⟩
  generalize hb : decide (Fit x w) = b
  have HB := Lib.hid hb
  clear hb
  have x0 : ∀ W, (Instr.index 43 (.agg wrow) (.int .i64 0)).run Tryd.prog W = .ok (.int .i64 8) W := fun W => index_w W 0 (by decide)
  have x1 : ∀ W, (Instr.index 43 (.agg wrow) (.int .i64 1)).run Tryd.prog W = .ok (.int .i64 16) W := fun W => index_w W 1 (by decide)
  have x2 : ∀ W, (Instr.index 43 (.agg wrow) (.int .i64 2)).run Tryd.prog W = .ok (.int .i64 32) W := fun W => index_w W 2 (by decide)
  have x3 : ∀ W, (Instr.index 43 (.agg wrow) (.int .i64 3)).run Tryd.prog W = .ok (.int .i64 64) W := fun W => index_w W 3 (by decide)
  have x4 : ∀ W, (Instr.index 43 (.agg wrow) (.int .i64 4)).run Tryd.prog W = .ok (.int .i64 128) W := fun W => index_w W 4 (by decide)
  go_enter Tryd.func12, Tryd.ntmps12
  go_wp2_with (refine wpList_load_row rfl 43 _ rfl 0 rfl tt wrow fr _ hg Tryd.underlying43 rfl (by kernel_rfl) ?_)
  go_loop [9] (fun i => (i = .int .i64 0) ∨ (i = .int .i64 1 ∧ w ≠ 8) ∨ (i = .int .i64 2 ∧ w ≠ 8 ∧ w ≠ 16) ∨ (i = .int .i64 3 ∧ w ≠ 8 ∧ w ≠ 16 ∧ w ≠ 32) ∨ (i = .int .i64 4 ∧ w ≠ 8 ∧ w ≠ 16 ∧ w ≠ 32 ∧ w ≠ 64) ∨ (i = .int .i64 5 ∧ w ≠ 8 ∧ w ≠ 16 ∧ w ≠ 32 ∧ w ≠ 64 ∧ w ≠ 128)) (fun i => 5 - (intOf i).toNat)
  case atStart => exact .inl rfl
  case round =>
    rcases hrel with rfl | ⟨rfl, a1⟩ | ⟨rfl, a1, a2⟩ | ⟨rfl, a1, a2, a3⟩ | ⟨rfl, a1, a2, a3, a4⟩ | ⟨rfl, a1, a2, a3, a4, a5⟩
    · by_cases c : w = 8
      · subst c
        go_wp2_with fail
        all_goals
          go_ret
          refine ⟨ret_w ?_, rfl⟩
          rw [← HB.out, Bool.eq_iff_iff]
          simp [Fit]
          try omega
      · go_wp2_with fail
        go_round
        case rel => exact .inr (.inl ⟨by go_num, c⟩)
        case measure => simp [intOf]
    · by_cases c : w = 16
      · subst c
        go_wp2_with fail
        all_goals
          go_ret
          refine ⟨ret_w ?_, rfl⟩
          rw [← HB.out, Bool.eq_iff_iff]
          simp [Fit]
          try omega
      · go_wp2_with fail
        go_round
        case rel => exact .inr (.inr (.inl ⟨by go_num, a1, c⟩))
        case measure => simp [intOf]
    · by_cases c : w = 32
      · subst c
        go_wp2_with fail
        all_goals
          go_ret
          refine ⟨ret_w ?_, rfl⟩
          rw [← HB.out, Bool.eq_iff_iff]
          simp [Fit]
          try omega
      · go_wp2_with fail
        go_round
        case rel => exact .inr (.inr (.inr (.inl ⟨by go_num, a1, a2, c⟩)))
        case measure => simp [intOf]
    · by_cases c : w = 64
      · subst c
        go_wp2_with fail
        all_goals
          go_ret
          refine ⟨ret_w ?_, rfl⟩
          rw [← HB.out, Bool.eq_iff_iff]
          simp [Fit]
          try omega
      · go_wp2_with fail
        go_round
        case rel => exact .inr (.inr (.inr (.inr (.inl ⟨by go_num, a1, a2, a3, c⟩))))
        case measure => simp [intOf]
    · by_cases c : w = 128
      · subst c
        go_wp2_with fail
        all_goals
          go_ret
          refine ⟨ret_w ?_, rfl⟩
          rw [← HB.out, Bool.eq_iff_iff]
          simp [Fit]
          try omega
      · go_wp2_with fail
        go_round
        case rel => exact .inr (.inr (.inr (.inr (.inr (⟨by go_num, a1, a2, a3, a4, c⟩)))))
        case measure => simp [intOf]
    · go_wp2_with fail
      go_ret
      refine ⟨ret_w ?_, rfl⟩
      rw [← HB.out]
      symm
      rw [decide_eq_false_iff_not]
      unfold Fit
      omega
end Go.Proofs.YtinhbmjfeabecaaDoor

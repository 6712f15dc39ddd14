import Derived.Test.YtinhbmjfeabecaaDoorWg
import Derived.Test.YtinhbmjfeabecaaDoorPint
namespace Go.Proofs.YtinhbmjfeabecaaDoor
open Go.RowKit

/-- The width behind one. -/
def nextW (w : Int) : Int := if w = 8 then 16 else if w = 16 then 32 else if w = 32 then 64 else 128
/-- The least width of an int64. -/
def leastW (x : Int) : Int := if Fit x 8 then 8 else if Fit x 16 then 16 else if Fit x 32 then 32 else if Fit x 64 then 64 else 128
theorem WTab.cell {W : World} (h : WTab W) (k : Nat) (hk : k < 5) : W.cell? ⟨0, k, none⟩ = some (wrow[k]'hk) := by
  obtain ⟨t, fr, hg⟩ := h
  rw [cell_of_row W _ k wrow t fr hg]
  exact Array.getElem?_eq_getElem hk
set_option maxRecDepth 10000 in
theorem Next_w (w : Int) (W : World) (ht : WTab W) : Calls Tryd.prog 16 #[.int .i64 w] W fun e W' => e = .returned (.int .i64 (nextW w)) ∧ W = W' := by
  generalize hn : nextW w = n
  have HN := Lib.hid hn
  clear hn
  have c0 : W.cell? ⟨0, 0, none⟩ = some (.int .i64 8) := ht.cell 0 (by decide)
  have c1 : W.cell? ⟨0, 1, none⟩ = some (.int .i64 16) := ht.cell 1 (by decide)
  have c2 : W.cell? ⟨0, 2, none⟩ = some (.int .i64 32) := ht.cell 2 (by decide)
  have c3 : W.cell? ⟨0, 3, none⟩ = some (.int .i64 64) := ht.cell 3 (by decide)
  have c4 : W.cell? ⟨0, 4, none⟩ = some (.int .i64 128) := ht.cell 4 (by decide)
  clear ht
  go_enter Tryd.func16, Tryd.ntmps16
  go_wp2_with fail
  go_loop [4] (fun i => (i = .int .i64 0) ∨ (i = .int .i64 1 ∧ w ≠ 8) ∨ (i = .int .i64 2 ∧ w ≠ 8 ∧ w ≠ 16) ∨ (i = .int .i64 3 ∧ w ≠ 8 ∧ w ≠ 16 ∧ w ≠ 32) ∨ (i = .int .i64 4 ∧ w ≠ 8 ∧ w ≠ 16 ∧ w ≠ 32 ∧ w ≠ 64)) (fun i => 4 - (intOf i).toNat)
  case atStart => exact .inl rfl
  case round =>
    rcases hrel with rfl | ⟨rfl, a1⟩ | ⟨rfl, a1, a2⟩ | ⟨rfl, a1, a2, a3⟩ | ⟨rfl, a1, a2, a3, a4⟩
    · by_cases c : w = 8
      · subst c
        go_wp2_with fail
        go_ret
        exact ⟨by rw [← HN.out]; rfl, rfl⟩
      · go_wp2_with fail
        go_round
        case rel => exact .inr (.inl ⟨by go_num, c⟩)
        case measure => simp [intOf]
    · by_cases c : w = 16
      · subst c
        go_wp2_with fail
        go_ret
        exact ⟨by rw [← HN.out]; rfl, rfl⟩
      · go_wp2_with fail
        go_round
        case rel => exact .inr (.inr (.inl ⟨by go_num, a1, c⟩))
        case measure => simp [intOf]
    · by_cases c : w = 32
      · subst c
        go_wp2_with fail
        go_ret
        exact ⟨by rw [← HN.out]; rfl, rfl⟩
      · go_wp2_with fail
        go_round
        case rel => exact .inr (.inr (.inr (.inl ⟨by go_num, a1, a2, c⟩)))
        case measure => simp [intOf]
    · by_cases c : w = 64
      · subst c
        go_wp2_with fail
        go_ret
        exact ⟨by rw [← HN.out]; rfl, rfl⟩
      · go_wp2_with fail
        go_round
        case rel => exact .inr (.inr (.inr (.inr (⟨by go_num, a1, a2, a3, c⟩))))
        case measure => simp [intOf]
    · have e : nextW w = 128 := by unfold nextW; rw [if_neg a1, if_neg a2, if_neg a3]
      go_wp2_with fail
      go_ret
      exact ⟨by rw [← HN.out, e]; rfl, rfl⟩
/-- What a text is as an int64, in a world that goes on. -/
def IntW (s : ByteArray) (x : Int) (v : Bool) (W : World) : Prop := Calls Tryd.prog 26 #[.string s] W fun e W' => e = .returned (.tuple #[.int .i64 x, .bool v]) ∧ Below W.heap.size W W'
set_option maxRecDepth 10000 in
theorem Of_no (s : ByteArray) (x : Int) (W : World) (hi : IntW s x false W) (ht : WTab W) : Calls Tryd.prog 10 #[.string s] W fun e W' => e = .returned (.int .i64 128) ∧ Below W.heap.size W W' := by
  have KI := Lib.hid hi
  clear hi
  have HT := Lib.hid ht
  clear ht
  have x0 : ∀ W, (Instr.index 43 (.agg wrow) (.int .i64 0)).run Tryd.prog W = .ok (.int .i64 8) W := fun W => index_w W 0 (by decide)
  have x1 : ∀ W, (Instr.index 43 (.agg wrow) (.int .i64 1)).run Tryd.prog W = .ok (.int .i64 16) W := fun W => index_w W 1 (by decide)
  have x2 : ∀ W, (Instr.index 43 (.agg wrow) (.int .i64 2)).run Tryd.prog W = .ok (.int .i64 32) W := fun W => index_w W 2 (by decide)
  have x3 : ∀ W, (Instr.index 43 (.agg wrow) (.int .i64 3)).run Tryd.prog W = .ok (.int .i64 64) W := fun W => index_w W 3 (by decide)
  have x4 : ∀ W, (Instr.index 43 (.agg wrow) (.int .i64 4)).run Tryd.prog W = .ok (.int .i64 128) W := fun W => index_w W 4 (by decide)
  go_enter Tryd.func10, Tryd.ntmps10
  go_wp2_with fail
  refine KI.out.mono ?_
  rintro e W1 ⟨rfl, hb⟩
  obtain ⟨tt, fr, hg⟩ := HT.out.below hb
  go_wp2_with (refine wpList_load_row rfl 43 _ rfl 0 rfl tt wrow fr _ hg Tryd.underlying43 rfl (by kernel_rfl) ?_)
  go_loop [13] (fun i => (i = .int .i64 0) ∨ (i = .int .i64 1) ∨ (i = .int .i64 2) ∨ (i = .int .i64 3) ∨ (i = .int .i64 4) ∨ (i = .int .i64 5)) (fun i => 5 - (intOf i).toNat)
  case atStart => exact .inl rfl
  case round =>
    rcases hrel with rfl | rfl | rfl | rfl | rfl | rfl
    · go_wp2_with fail
      go_round
      case rel => exact .inr (.inl (by go_num))
      case measure => simp [intOf]
    · go_wp2_with fail
      go_round
      case rel => exact .inr (.inr (.inl (by go_num)))
      case measure => simp [intOf]
    · go_wp2_with fail
      go_round
      case rel => exact .inr (.inr (.inr (.inl (by go_num))))
      case measure => simp [intOf]
    · go_wp2_with fail
      go_round
      case rel => exact .inr (.inr (.inr (.inr (.inl (by go_num)))))
      case measure => simp [intOf]
    · go_wp2_with fail
      go_round
      case rel => exact .inr (.inr (.inr (.inr (.inr ((by go_num))))))
      case measure => simp [intOf]
    · go_wp2_with fail
      go_ret
      exact ⟨rfl, hb⟩
set_option maxRecDepth 10000 in
theorem Of_yes (s : ByteArray) (x : Int) (h0 : -9223372036854775808 ≤ x) (h1 : x ≤ 9223372036854775807) (W : World) (hi : IntW s x true W) (ht : WTab W) : Calls Tryd.prog 10 #[.string s] W fun e W' => e = .returned (.int .i64 (leastW x)) ∧ Below W.heap.size W W' := by
  have KI := Lib.hid hi
  clear hi
  have HT := Lib.hid ht
  clear ht
  generalize hn : leastW x = n
  have HN := Lib.hid hn
  clear hn
  have x0 : ∀ W, (Instr.index 43 (.agg wrow) (.int .i64 0)).run Tryd.prog W = .ok (.int .i64 8) W := fun W => index_w W 0 (by decide)
  have F0 := Lib.hid (fits_any x 8 h0 h1)
  have x1 : ∀ W, (Instr.index 43 (.agg wrow) (.int .i64 1)).run Tryd.prog W = .ok (.int .i64 16) W := fun W => index_w W 1 (by decide)
  have F1 := Lib.hid (fits_any x 16 h0 h1)
  have x2 : ∀ W, (Instr.index 43 (.agg wrow) (.int .i64 2)).run Tryd.prog W = .ok (.int .i64 32) W := fun W => index_w W 2 (by decide)
  have F2 := Lib.hid (fits_any x 32 h0 h1)
  have x3 : ∀ W, (Instr.index 43 (.agg wrow) (.int .i64 3)).run Tryd.prog W = .ok (.int .i64 64) W := fun W => index_w W 3 (by decide)
  have F3 := Lib.hid (fits_any x 64 h0 h1)
  have x4 : ∀ W, (Instr.index 43 (.agg wrow) (.int .i64 4)).run Tryd.prog W = .ok (.int .i64 128) W := fun W => index_w W 4 (by decide)
  have F4 := Lib.hid (fits_any x 128 h0 h1)
  clear h0 h1
  go_enter Tryd.func10, Tryd.ntmps10
  go_wp2_with fail
  refine KI.out.mono ?_
  rintro e W1 ⟨rfl, hb⟩
  have HW := Lib.hid (HT.out.below hb)
  obtain ⟨tt, fr, hg⟩ := HW.out
  go_wp2_with (refine wpList_load_row rfl 43 _ rfl 0 rfl tt wrow fr _ hg Tryd.underlying43 rfl (by kernel_rfl) ?_)
  go_loop [13] (fun i => (i = .int .i64 0) ∨ (i = .int .i64 1 ∧ ¬ Fit x 8) ∨ (i = .int .i64 2 ∧ ¬ Fit x 8 ∧ ¬ Fit x 16) ∨ (i = .int .i64 3 ∧ ¬ Fit x 8 ∧ ¬ Fit x 16 ∧ ¬ Fit x 32) ∨ (i = .int .i64 4 ∧ ¬ Fit x 8 ∧ ¬ Fit x 16 ∧ ¬ Fit x 32 ∧ ¬ Fit x 64)) (fun i => 5 - (intOf i).toNat)
  case atStart => exact .inl rfl
  case round =>
    rcases hrel with rfl | ⟨rfl, a1⟩ | ⟨rfl, a1, a2⟩ | ⟨rfl, a1, a2, a3⟩ | ⟨rfl, a1, a2, a3, a4⟩
    · by_cases c : Fit x 8
      · have f := F0.out
        rw [decide_eq_true c] at f
        have K := Lib.hid f
        have e1 := Lib.hid (show leastW x = 8 by unfold leastW; rw [if_pos c])
        clear f
        go_wp2_with fail
        refine (K.out _ HW.out).mono ?_
        rintro e W2 ⟨rfl, rfl⟩
        go_wp2_with fail
        go_ret
        exact ⟨by rw [← HN.out, e1.out]; rfl, hb⟩
      · have f := F0.out
        rw [decide_eq_false c] at f
        have K := Lib.hid f
        clear f
        go_wp2_with fail
        refine (K.out _ HW.out).mono ?_
        rintro e W2 ⟨rfl, rfl⟩
        go_wp2_with fail
        go_round
        case rel => exact .inr (.inl ⟨by go_num, c⟩)
        case measure => simp [intOf]
    · by_cases c : Fit x 16
      · have f := F1.out
        rw [decide_eq_true c] at f
        have K := Lib.hid f
        have e1 := Lib.hid (show leastW x = 16 by unfold leastW; rw [if_neg a1, if_pos c])
        clear f
        go_wp2_with fail
        refine (K.out _ HW.out).mono ?_
        rintro e W2 ⟨rfl, rfl⟩
        go_wp2_with fail
        go_ret
        exact ⟨by rw [← HN.out, e1.out]; rfl, hb⟩
      · have f := F1.out
        rw [decide_eq_false c] at f
        have K := Lib.hid f
        clear f
        go_wp2_with fail
        refine (K.out _ HW.out).mono ?_
        rintro e W2 ⟨rfl, rfl⟩
        go_wp2_with fail
        go_round
        case rel => exact .inr (.inr (.inl ⟨by go_num, a1, c⟩))
        case measure => simp [intOf]
    · by_cases c : Fit x 32
      · have f := F2.out
        rw [decide_eq_true c] at f
        have K := Lib.hid f
        have e1 := Lib.hid (show leastW x = 32 by unfold leastW; rw [if_neg a1, if_neg a2, if_pos c])
        clear f
        go_wp2_with fail
        refine (K.out _ HW.out).mono ?_
        rintro e W2 ⟨rfl, rfl⟩
        go_wp2_with fail
        go_ret
        exact ⟨by rw [← HN.out, e1.out]; rfl, hb⟩
      · have f := F2.out
        rw [decide_eq_false c] at f
        have K := Lib.hid f
        clear f
        go_wp2_with fail
        refine (K.out _ HW.out).mono ?_
        rintro e W2 ⟨rfl, rfl⟩
        go_wp2_with fail
        go_round
        case rel => exact .inr (.inr (.inr (.inl ⟨by go_num, a1, a2, c⟩)))
        case measure => simp [intOf]
    · by_cases c : Fit x 64
      · have f := F3.out
        rw [decide_eq_true c] at f
        have K := Lib.hid f
        have e1 := Lib.hid (show leastW x = 64 by unfold leastW; rw [if_neg a1, if_neg a2, if_neg a3, if_pos c])
        clear f
        go_wp2_with fail
        refine (K.out _ HW.out).mono ?_
        rintro e W2 ⟨rfl, rfl⟩
        go_wp2_with fail
        go_ret
        exact ⟨by rw [← HN.out, e1.out]; rfl, hb⟩
      · have f := F3.out
        rw [decide_eq_false c] at f
        have K := Lib.hid f
        clear f
        go_wp2_with fail
        refine (K.out _ HW.out).mono ?_
        rintro e W2 ⟨rfl, rfl⟩
        go_wp2_with fail
        go_round
        case rel => exact .inr (.inr (.inr (.inr (⟨by go_num, a1, a2, a3, c⟩))))
        case measure => simp [intOf]
    · by_cases c : Fit x 128
      · have f := F4.out
        rw [decide_eq_true c] at f
        have K := Lib.hid f
        have e1 := Lib.hid (show leastW x = 128 by unfold leastW; rw [if_neg a1, if_neg a2, if_neg a3, if_neg a4])
        clear f
        go_wp2_with fail
        refine (K.out _ HW.out).mono ?_
        rintro e W2 ⟨rfl, rfl⟩
        go_wp2_with fail
        go_ret
        exact ⟨by rw [← HN.out, e1.out]; rfl, hb⟩
      · exact absurd (.inr (.inr (.inr (.inr rfl)))) c
end Go.Proofs.YtinhbmjfeabecaaDoor

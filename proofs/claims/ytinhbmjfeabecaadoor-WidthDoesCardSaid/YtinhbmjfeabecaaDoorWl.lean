import Derived.Test.YtinhbmjfeabecaaDoorWi
import Derived.BigQuiet
import Derived.Deep.QuietTactic
namespace Go.Proofs.YtinhbmjfeabecaaDoor
open Go.RowKit

def FitQ (x w : Int) (v : Bool) (W : World) : Prop := ∀ n, Calls Tryd.prog 12 #[.int .i64 x, .int .i64 w] (W.drewN n) fun e W' => e = .returned (.bool v) ∧ ∃ m, W' = W.drewN m
theorem fits_q {x w : Int} (hx : I64 x) {v : Bool} (hv : decide (Fit x w) = v) {W : World} (ht : WTab W) : FitQ x w v W := by
  intro n
  subst hv
  exact (fits_any x w hx.1 hx.2 (W.drewN n) (ht.below (Drawn.below ⟨_, rfl⟩))).mono fun e W' ⟨h1, h2⟩ => ⟨h1, n, h2.symm⟩
theorem least_cases {x : Int} (hx : I64 x) : (leastW x = 8 ∧ Fit x 8 ∧ Fit x 16 ∧ Fit x 32 ∧ Fit x 64) ∨ (leastW x = 16 ∧ ¬ Fit x 8 ∧ Fit x 16 ∧ Fit x 32 ∧ Fit x 64) ∨
    (leastW x = 32 ∧ ¬ Fit x 8 ∧ ¬ Fit x 16 ∧ Fit x 32 ∧ Fit x 64) ∨ (leastW x = 64 ∧ ¬ Fit x 8 ∧ ¬ Fit x 16 ∧ ¬ Fit x 32 ∧ Fit x 64) := by
  have h64 : Fit x 64 := by unfold I64 at hx; unfold Fit; omega
  by_cases h8 : Fit x 8
  · exact .inl ⟨by unfold leastW; rw [if_pos h8], h8, by unfold Fit at *; omega, by unfold Fit at *; omega, h64⟩
  · by_cases h16 : Fit x 16
    · exact .inr (.inl ⟨by unfold leastW; rw [if_neg h8, if_pos h16], h8, h16, by unfold Fit at *; omega, h64⟩)
    · by_cases h32 : Fit x 32
      · exact .inr (.inr (.inl ⟨by unfold leastW; rw [if_neg h8, if_neg h16, if_pos h32], h8, h16, h32, h64⟩))
      · exact .inr (.inr (.inr ⟨by unfold leastW; rw [if_neg h8, if_neg h16, if_neg h32, if_pos h64], h8, h16, h32, h64⟩))
theorem fit_big (x : Int) : Fit x 128 := .inr (.inr (.inr (.inr rfl)))
theorem row_at {w wr : World} {T : TypeId} (h : Below (w.heap.size + 1) (w.alloc (.cells wrow T)) wr) (k : Nat) (hk : k < 5) : wr.cell? ⟨w.heap.size, k, none⟩ = some (wrow[k]'hk) := by
  have hn : (w.alloc (.cells wrow T)).heap[w.heap.size]? = some (.cells wrow T (0, 0)) := by
    show (w.heap.push _)[w.heap.size]? = _
    simp
  have e := h.block w.heap.size (by omega)
  rw [hn] at e
  rw [cell_of_row wr _ k wrow T (0, 0) e]
  exact Array.getElem?_eq_getElem hk
set_option maxRecDepth 10000 in
set_option maxHeartbeats 3200000 in
theorem least_any (x : Int) (hx : I64 x) (W : World) (ht : WT W) : Calls Tryd.prog 6 #[.int .i64 x] W (TrueEnd W) := by
  have hO := Of_int x hx
  have hF := Of_any x hx.1 hx.2
  have KO := Lib.hid hO
  have KF := Lib.hid hF
  have KT := Lib.hid ht
  clear hO hF ht
  have Q4 := Lib.hid (fun W ht => fits_q (W := W) hx (decide_eq_true (fit_big x)) ht)
  have hc := least_cases hx
  generalize leastW x = m at hc KO
  generalize S x = s at KF KO
  rcases hc with ⟨rfl, h0, h1, h2, h3⟩ | ⟨rfl, h0, h1, h2, h3⟩ | ⟨rfl, h0, h1, h2, h3⟩ | ⟨rfl, h0, h1, h2, h3⟩
  all_goals
    have Q0 := Lib.hid (fun W ht => fits_q (W := W) hx (by first | exact decide_eq_true h0 | exact decide_eq_false h0) ht)
    have Q1 := Lib.hid (fun W ht => fits_q (W := W) hx (by first | exact decide_eq_true h1 | exact decide_eq_false h1) ht)
    have Q2 := Lib.hid (fun W ht => fits_q (W := W) hx (by first | exact decide_eq_true h2 | exact decide_eq_false h2) ht)
    have Q3 := Lib.hid (fun W ht => fits_q (W := W) hx (decide_eq_true h3) ht)
    clear h0 h1 h2 h3
    go_enter Tryd.func6, Tryd.ntmps6
    go_wp2_with fail
    refine (shown_w _ KT.out).mono ?_
    rintro e w1 ⟨rfl, hb1⟩
    go_wp2_with fail
    refine (KF.out _ (KT.out.below hb1).tab).mono ?_
    rintro e w2 ⟨rfl, hq⟩
    have hb2 := hb1.trans (hq.mono hb1.size)
    clear hb1 hq
    go_wp2_with fail
    refine (KO.out _ (KT.out.below hb2)).mono ?_
    rintro e w3 ⟨rfl, hq⟩
    have hb3 := hb2.trans (hq.mono hb2.size)
    clear hb2 hq
    go_wp2_with fail
    go_loopw [6] (fun i wr => (i = .int .i64 0 ∨ i = .int .i64 1 ∨ i = .int .i64 2 ∨ i = .int .i64 3 ∨ i = .int .i64 4 ∨ i = .int .i64 5) ∧ Below (w3.heap.size + 1) (w3.alloc (.cells wrow 3)) wr) (fun i _ => 5 - (intOf i).toNat)
    case atStart => exact ⟨.inl rfl, Below.refl _ _⟩
    case round =>
      obtain ⟨hi, hbr⟩ := hrel
      have hbw := (hb3.alloc hb3.size (.cells wrow 3)).trans (hbr.mono (by have := hb3.size; omega))
      have hwt := Lib.hid (KT.out.below hbw).wid
      rcases hi with rfl | rfl | rfl | rfl | rfl | rfl
      · have hc : wr.cell? ⟨w3.heap.size, 0, none⟩ = some (.int .i64 8) := row_at hbr 0 (by decide)
        have q := Lib.hid (Q0.out _ hwt.out)
        go_wp2_with fail
        go_quiet ((go_at_call 12; exact q.out _))
        go_wp2_with fail
        go_roundw
        case rel => exact ⟨.inr (.inl (by go_num)), hbr.trans (Drawn.below ⟨_, rfl⟩)⟩
        case measure => simp [intOf]
      · have hc : wr.cell? ⟨w3.heap.size, 1, none⟩ = some (.int .i64 16) := row_at hbr 1 (by decide)
        have q := Lib.hid (Q1.out _ hwt.out)
        go_wp2_with fail
        go_quiet ((go_at_call 12; exact q.out _))
        go_wp2_with fail
        go_roundw
        case rel => exact ⟨.inr (.inr (.inl (by go_num))), hbr.trans (Drawn.below ⟨_, rfl⟩)⟩
        case measure => simp [intOf]
      · have hc : wr.cell? ⟨w3.heap.size, 2, none⟩ = some (.int .i64 32) := row_at hbr 2 (by decide)
        have q := Lib.hid (Q2.out _ hwt.out)
        go_wp2_with fail
        go_quiet ((go_at_call 12; exact q.out _))
        go_wp2_with fail
        go_roundw
        case rel => exact ⟨.inr (.inr (.inr (.inl (by go_num)))), hbr.trans (Drawn.below ⟨_, rfl⟩)⟩
        case measure => simp [intOf]
      · have hc : wr.cell? ⟨w3.heap.size, 3, none⟩ = some (.int .i64 64) := row_at hbr 3 (by decide)
        have q := Lib.hid (Q3.out _ hwt.out)
        go_wp2_with fail
        go_quiet ((go_at_call 12; exact q.out _))
        go_wp2_with fail
        go_roundw
        case rel => exact ⟨.inr (.inr (.inr (.inr (.inl (by go_num))))), hbr.trans (Drawn.below ⟨_, rfl⟩)⟩
        case measure => simp [intOf]
      · have hc : wr.cell? ⟨w3.heap.size, 4, none⟩ = some (.int .i64 128) := row_at hbr 4 (by decide)
        have q := Lib.hid (Q4.out _ hwt.out)
        go_wp2_with fail
        go_quiet ((go_at_call 12; exact q.out _))
        go_wp2_with fail
        go_roundw
        case rel => exact ⟨.inr (.inr (.inr (.inr (.inr ((by go_num)))))), hbr.trans (Drawn.below ⟨_, rfl⟩)⟩
        case measure => simp [intOf]
      · go_wp2_with fail
        go_ret
        exact ⟨rfl, hbw⟩
end Go.Proofs.YtinhbmjfeabecaaDoor

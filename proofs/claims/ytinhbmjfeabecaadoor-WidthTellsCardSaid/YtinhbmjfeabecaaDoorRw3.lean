import Derived.Test.YtinhbmjfeabecaaDoorRw2
import Derived.Test.YtinhbmjfeabecaaDoorWo
namespace Go.Proofs.YtinhbmjfeabecaaDoor
open Go.RowKit

set_option maxRecDepth 10000 in
theorem rfits_main (x w : Int) (s : ByteArray) (v : Bool) (HO : ROfIs x s) (HI : RInIs s w v) (W : World) : Calls Tryd.prog 13 #[.int .i64 x, .int .i64 w] W fun e W' => e = .returned (.bool v) ∧ Below W.heap.size W W' := by
  unfold ROfIs StrEnd at HO
  have KO := Lib.hid HO
  have KI := Lib.hid HI
  clear HO HI
  go_enter Tryd.func13, Tryd.ntmps13
  go_wp2_with fail
  refine (KO.out _).mono ?_
  rintro e w1 ⟨rfl, hb⟩
  go_wp2_with fail
  refine (KI.out _).mono ?_
  rintro e w2 ⟨rfl, hq⟩
  go_wp2_with fail
  go_ret
  exact ⟨rfl, hb.trans (hq.mono hb.size)⟩
theorem rFits_any (x w : Int) (hx : I64 x) (W : World) : Calls Tryd.prog 13 #[.int .i64 x, .int .i64 w] W fun e W' => e = .returned (.bool (decide (Fit x w))) ∧ Below W.heap.size W W' :=
  rfits_main x w _ _ (rOf_any hx) (rin_any x w (i64_lim0 hx)) W
set_option maxRecDepth 10000 in
theorem rNext_any (w : Int) (W : World) : Calls Tryd.prog 17 #[.int .i64 w] W fun e W' => e = .returned (.int .i64 (nextW w)) ∧ W = W' := by
  by_cases h0 : w = 8
  · subst h0
    go_enter Tryd.func17, Tryd.ntmps17
    go_wp2_with fail
    go_ret
    exact ⟨rfl, rfl⟩
  have e0 : (w == 8) = false := beq_eq_false_iff_ne.2 h0
  by_cases h1 : w = 16
  · subst h1
    go_enter Tryd.func17, Tryd.ntmps17
    go_wp2_with fail
    go_ret
    exact ⟨rfl, rfl⟩
  have e1 : (w == 16) = false := beq_eq_false_iff_ne.2 h1
  by_cases h2 : w = 32
  · subst h2
    go_enter Tryd.func17, Tryd.ntmps17
    go_wp2_with fail
    go_ret
    exact ⟨rfl, rfl⟩
  have e2 : (w == 32) = false := beq_eq_false_iff_ne.2 h2
  have e : nextW w = 128 := by unfold nextW; rw [if_neg h0, if_neg h1, if_neg h2]
  rw [e]
  go_enter Tryd.func17, Tryd.ntmps17
  go_wp2_with fail
  go_ret
  exact ⟨rfl, rfl⟩
theorem four_at {w wr : World} {T : TypeId} (h : Below (w.heap.size + 1) (w.alloc (.cells #[.int .i64 8, .int .i64 16, .int .i64 32, .int .i64 64] T)) wr) (k : Nat) (v : Value) (hk : (#[.int .i64 8, .int .i64 16, .int .i64 32, .int .i64 64] : Array Value)[k]? = some v) : wr.cell? ⟨w.heap.size, k, none⟩ = some v := by
  have hn : (w.alloc (.cells #[.int .i64 8, .int .i64 16, .int .i64 32, .int .i64 64] T)).heap[w.heap.size]? = some (.cells #[.int .i64 8, .int .i64 16, .int .i64 32, .int .i64 64] T (0, 0)) := by
    show (w.heap.push _)[w.heap.size]? = _
    simp
  have e := h.block w.heap.size (by omega)
  rw [hn] at e
  rw [cell_of_row wr _ k _ T (0, 0) e]
  exact hk
set_option maxRecDepth 10000 in
set_option maxHeartbeats 1600000 in
theorem rof_no {s : ByteArray} (HM : RMayIs s false) (W : World) : Calls Tryd.prog 11 #[.string s] W fun e W' => e = .returned (.int .i64 128) ∧ Below W.heap.size W W' := by
  have KM := Lib.hid HM
  clear HM
  go_enter Tryd.func11, Tryd.ntmps11
  go_wp2_with fail
  go_loop [4] (fun i => (i = .int .i64 0) ∨ (i = .int .i64 1) ∨ (i = .int .i64 2) ∨ (i = .int .i64 3) ∨ (i = .int .i64 4)) (fun i => 4 - (intOf i).toNat)
  case atStart => exact .inl rfl
  case round =>
    rcases hrel with rfl | rfl | rfl | rfl | rfl
    · go_wp2_with fail
      refine (KM.out _).mono ?_
      rintro e w1 ⟨rfl, rfl⟩
      go_wp2_with fail
      go_round
      case rel => exact .inr (.inl (by go_num))
      case measure => simp [intOf]
    · go_wp2_with fail
      refine (KM.out _).mono ?_
      rintro e w1 ⟨rfl, rfl⟩
      go_wp2_with fail
      go_round
      case rel => exact .inr (.inr (.inl (by go_num)))
      case measure => simp [intOf]
    · go_wp2_with fail
      refine (KM.out _).mono ?_
      rintro e w1 ⟨rfl, rfl⟩
      go_wp2_with fail
      go_round
      case rel => exact .inr (.inr (.inr (.inl (by go_num))))
      case measure => simp [intOf]
    · go_wp2_with fail
      refine (KM.out _).mono ?_
      rintro e w1 ⟨rfl, rfl⟩
      go_wp2_with fail
      go_round
      case rel => exact .inr (.inr (.inr (.inr ((by go_num)))))
      case measure => simp [intOf]
    · go_wp2_with fail
      go_ret
      exact ⟨rfl, (Below.refl _ _).alloc (Nat.le_refl _) _⟩
set_option maxRecDepth 10000 in
set_option maxHeartbeats 3200000 in
theorem rof_yes {s : ByteArray} {x : Int} (HM : RMayIs s true) (HI : ∀ w, RInIs s w (decide (Fit x w))) (W : World) : Calls Tryd.prog 11 #[.string s] W fun e W' => e = .returned (.int .i64 (leastW x)) ∧ Below W.heap.size W W' := by
  have KM := Lib.hid HM
  generalize hn : leastW x = n
  have HN := Lib.hid hn
  have F0 := Lib.hid (HI 8)
  have F1 := Lib.hid (HI 16)
  have F2 := Lib.hid (HI 32)
  have F3 := Lib.hid (HI 64)
  clear HM HI hn
  go_enter Tryd.func11, Tryd.ntmps11
  go_wp2_with fail
  go_loopw [4] (fun i wr => ((i = .int .i64 0) ∨ (i = .int .i64 1 ∧ ¬ Fit x 8) ∨ (i = .int .i64 2 ∧ ¬ Fit x 8 ∧ ¬ Fit x 16) ∨ (i = .int .i64 3 ∧ ¬ Fit x 8 ∧ ¬ Fit x 16 ∧ ¬ Fit x 32) ∨ (i = .int .i64 4 ∧ ¬ Fit x 8 ∧ ¬ Fit x 16 ∧ ¬ Fit x 32 ∧ ¬ Fit x 64)) ∧ Below (W.heap.size + 1) (W.alloc (.cells #[.int .i64 8, .int .i64 16, .int .i64 32, .int .i64 64] 3)) wr) (fun i _ => 4 - (intOf i).toNat)
  case atStart => exact ⟨.inl rfl, Below.refl _ _⟩
  case round =>
    obtain ⟨hi, hbr⟩ := hrel
    have hbw := ((Below.refl W.heap.size W).alloc (Nat.le_refl _) (.cells #[.int .i64 8, .int .i64 16, .int .i64 32, .int .i64 64] 3)).trans (hbr.mono (Nat.le_succ _))
    have hsz : W.heap.size + 1 ≤ wr.heap.size := by have := hbr.size; have e : (W.alloc (.cells #[.int .i64 8, .int .i64 16, .int .i64 32, .int .i64 64] 3)).heap.size = W.heap.size + 1 := by { show (W.heap.push _).size = _; simp }; omega
    rcases hi with rfl | ⟨rfl, a1⟩ | ⟨rfl, a1, a2⟩ | ⟨rfl, a1, a2, a3⟩ | ⟨rfl, a1, a2, a3, a4⟩
    · have hc : wr.cell? ⟨W.heap.size, 0, none⟩ = some (.int .i64 8) := four_at hbr 0 _ rfl
      by_cases c : Fit x 8
      · have f := F0.out
        rw [decide_eq_true c] at f
        have K := Lib.hid f
        have e1 := Lib.hid (show leastW x = 8 by unfold leastW; rw [if_pos c])
        clear f
        go_wp2_with fail
        refine (KM.out _).mono ?_
        rintro e w1 ⟨rfl, rfl⟩
        go_wp2_with fail
        refine (K.out _).mono ?_
        rintro e w2 ⟨rfl, hq⟩
        have hc2 : w2.cell? ⟨W.heap.size, 0, none⟩ = some (.int .i64 8) := (hq.cell (show (⟨W.heap.size, 0, none⟩ : Addr).block < wr.heap.size from hsz)).trans hc
        have hbw2 := hbw.trans (hq.mono hbw.size)
        clear hq hc
        go_wp2_with fail
        go_ret
        exact ⟨by rw [← HN.out, e1.out]; rfl, hbw2⟩
      · have f := F0.out
        rw [decide_eq_false c] at f
        have K := Lib.hid f
        clear f
        go_wp2_with fail
        refine (KM.out _).mono ?_
        rintro e w1 ⟨rfl, rfl⟩
        go_wp2_with fail
        refine (K.out _).mono ?_
        rintro e w2 ⟨rfl, hq⟩
        have hbr2 := hbr.trans (hq.mono hsz)
        clear hq hc
        go_wp2_with fail
        go_roundw
        case rel => exact ⟨.inr (.inl ⟨by go_num, c⟩), hbr2⟩
        case measure => simp [intOf]
    · have hc : wr.cell? ⟨W.heap.size, 1, none⟩ = some (.int .i64 16) := four_at hbr 1 _ rfl
      by_cases c : Fit x 16
      · have f := F1.out
        rw [decide_eq_true c] at f
        have K := Lib.hid f
        have e1 := Lib.hid (show leastW x = 16 by unfold leastW; rw [if_neg a1, if_pos c])
        clear f
        go_wp2_with fail
        refine (KM.out _).mono ?_
        rintro e w1 ⟨rfl, rfl⟩
        go_wp2_with fail
        refine (K.out _).mono ?_
        rintro e w2 ⟨rfl, hq⟩
        have hc2 : w2.cell? ⟨W.heap.size, 1, none⟩ = some (.int .i64 16) := (hq.cell (show (⟨W.heap.size, 1, none⟩ : Addr).block < wr.heap.size from hsz)).trans hc
        have hbw2 := hbw.trans (hq.mono hbw.size)
        clear hq hc
        go_wp2_with fail
        go_ret
        exact ⟨by rw [← HN.out, e1.out]; rfl, hbw2⟩
      · have f := F1.out
        rw [decide_eq_false c] at f
        have K := Lib.hid f
        clear f
        go_wp2_with fail
        refine (KM.out _).mono ?_
        rintro e w1 ⟨rfl, rfl⟩
        go_wp2_with fail
        refine (K.out _).mono ?_
        rintro e w2 ⟨rfl, hq⟩
        have hbr2 := hbr.trans (hq.mono hsz)
        clear hq hc
        go_wp2_with fail
        go_roundw
        case rel => exact ⟨.inr (.inr (.inl ⟨by go_num, a1, c⟩)), hbr2⟩
        case measure => simp [intOf]
    · have hc : wr.cell? ⟨W.heap.size, 2, none⟩ = some (.int .i64 32) := four_at hbr 2 _ rfl
      by_cases c : Fit x 32
      · have f := F2.out
        rw [decide_eq_true c] at f
        have K := Lib.hid f
        have e1 := Lib.hid (show leastW x = 32 by unfold leastW; rw [if_neg a1, if_neg a2, if_pos c])
        clear f
        go_wp2_with fail
        refine (KM.out _).mono ?_
        rintro e w1 ⟨rfl, rfl⟩
        go_wp2_with fail
        refine (K.out _).mono ?_
        rintro e w2 ⟨rfl, hq⟩
        have hc2 : w2.cell? ⟨W.heap.size, 2, none⟩ = some (.int .i64 32) := (hq.cell (show (⟨W.heap.size, 2, none⟩ : Addr).block < wr.heap.size from hsz)).trans hc
        have hbw2 := hbw.trans (hq.mono hbw.size)
        clear hq hc
        go_wp2_with fail
        go_ret
        exact ⟨by rw [← HN.out, e1.out]; rfl, hbw2⟩
      · have f := F2.out
        rw [decide_eq_false c] at f
        have K := Lib.hid f
        clear f
        go_wp2_with fail
        refine (KM.out _).mono ?_
        rintro e w1 ⟨rfl, rfl⟩
        go_wp2_with fail
        refine (K.out _).mono ?_
        rintro e w2 ⟨rfl, hq⟩
        have hbr2 := hbr.trans (hq.mono hsz)
        clear hq hc
        go_wp2_with fail
        go_roundw
        case rel => exact ⟨.inr (.inr (.inr (.inl ⟨by go_num, a1, a2, c⟩))), hbr2⟩
        case measure => simp [intOf]
    · have hc : wr.cell? ⟨W.heap.size, 3, none⟩ = some (.int .i64 64) := four_at hbr 3 _ rfl
      by_cases c : Fit x 64
      · have f := F3.out
        rw [decide_eq_true c] at f
        have K := Lib.hid f
        have e1 := Lib.hid (show leastW x = 64 by unfold leastW; rw [if_neg a1, if_neg a2, if_neg a3, if_pos c])
        clear f
        go_wp2_with fail
        refine (KM.out _).mono ?_
        rintro e w1 ⟨rfl, rfl⟩
        go_wp2_with fail
        refine (K.out _).mono ?_
        rintro e w2 ⟨rfl, hq⟩
        have hc2 : w2.cell? ⟨W.heap.size, 3, none⟩ = some (.int .i64 64) := (hq.cell (show (⟨W.heap.size, 3, none⟩ : Addr).block < wr.heap.size from hsz)).trans hc
        have hbw2 := hbw.trans (hq.mono hbw.size)
        clear hq hc
        go_wp2_with fail
        go_ret
        exact ⟨by rw [← HN.out, e1.out]; rfl, hbw2⟩
      · have f := F3.out
        rw [decide_eq_false c] at f
        have K := Lib.hid f
        clear f
        go_wp2_with fail
        refine (KM.out _).mono ?_
        rintro e w1 ⟨rfl, rfl⟩
        go_wp2_with fail
        refine (K.out _).mono ?_
        rintro e w2 ⟨rfl, hq⟩
        have hbr2 := hbr.trans (hq.mono hsz)
        clear hq hc
        go_wp2_with fail
        go_roundw
        case rel => exact ⟨.inr (.inr (.inr (.inr (⟨by go_num, a1, a2, a3, c⟩)))), hbr2⟩
        case measure => simp [intOf]
    · have e1 := Lib.hid (show leastW x = 128 by unfold leastW; rw [if_neg a1, if_neg a2, if_neg a3, if_neg a4])
      go_wp2_with fail
      go_ret
      exact ⟨by rw [← HN.out, e1.out]; rfl, hbw⟩
theorem leastW_over {x : Int} (h : ¬ I64 x) : leastW x = 128 := by
  unfold leastW
  rw [if_neg (by unfold I64 at h; unfold Fit; omega), if_neg (by unfold I64 at h; unfold Fit; omega), if_neg (by unfold I64 at h; unfold Fit; omega), if_neg (by unfold I64 at h; unfold Fit; omega)]
theorem leastO_of (x : Int) : leastO (some x) = leastW x := by
  unfold leastO
  rw [intO_some]
  by_cases h : I64 x
  · rw [if_pos h]; rfl
  · rw [if_neg h, leastW_over h]; rfl
theorem rOf_opt2 {s : ByteArray} {o : Option Int} (h : Is s o) (W : World) : Calls Tryd.prog 11 #[.string s] W fun e W' => e = .returned (.int .i64 (leastO o)) ∧ Below W.heap.size W W' := by
  have hm := rMay_is h
  cases o with
  | none => exact rof_no hm W
  | some x => rw [leastO_of]; exact rof_yes hm (fun w => by rw [h.1]; exact rin_any x w h.2) W
/-- The greatest of some ints; 8 of none. -/
def maxI (l : List Int) : Int := if l.length = 0 then 8 else Lib.maxOf l
set_option maxRecDepth 10000 in
theorem rMax_none (a : Option Addr) (c : Nat) (W : World) : Calls Tryd.prog 15 #[.slice a 0 c] W fun e W' => e = .returned (.int .i64 8) ∧ W = W' := by
  go_enter Tryd.func15, Tryd.ntmps15
  go_wp2_with fail
  go_loop [3, 4] (fun m i => m = .int .i64 8 ∧ i = .int .i64 0) (fun _ _ => 0)
  case atStart => exact ⟨rfl, rfl⟩
  case round =>
    obtain ⟨rfl, rfl⟩ := hrel
    go_wp2_with fail
    go_ret
    exact ⟨rfl, rfl⟩
set_option maxRecDepth 10000 in
set_option maxHeartbeats 1600000 in
theorem rMax_some (b off n c : Nat) (l : List Int) (W : World) (h : IntsAt W b off n l) (hn : 0 < n) (hm : n ≤ maxLen) :
    Calls Tryd.prog 15 #[.slice (some ⟨b, off, none⟩) n c] W fun e W' => e = .returned (.int .i64 (Lib.maxOf l)) ∧ W = W' := by
  have hl := h.1
  have KH := Lib.hid h
  unfold maxLen at hm
  clear h
  go_enter Tryd.func15, Tryd.ntmps15
  go_wp2_with fail
  go_loop [3, 4] (fun m i => ∃ k : Nat, k ≤ n ∧ i = .int .i64 k ∧ m = .int .i64 (if k = 0 then 8 else Lib.maxOf (l.take k))) (fun _ i => n - (intOf i).toNat)
  case atStart => exact ⟨0, Nat.zero_le _, rfl, rfl⟩
  case round =>
    obtain ⟨k, hk, rfl, rfl⟩ := hrel
    by_cases hlt : k < n
    · have hc := KH.out.2 k hlt
      by_cases h0 : k = 0
      · subst h0
        rw [Nat.add_zero] at hc
        have e1 := Lib.hid (Lib.maxOf_one l)
        generalize l.getD 0 0 = v at hc e1
        rw [if_pos rfl]
        have hlt2 : (0 : Int) < n := by omega
        go_wp2_with fail
        go_round
        case rel => exact ⟨1, by omega, by go_num, by rw [if_neg (by decide), e1.out]⟩
        case measure => simp [intOf]; omega
      · have e1 := Lib.maxOf_step l k (by omega) (by omega)
        rw [if_neg h0]
        generalize l.getD k 0 = v at hc e1
        generalize Lib.maxOf (l.take k) = m at e1 ⊢
        have E := Lib.hid e1
        have e0 : ((k : Int) == 0) = false := beq_eq_false_iff_ne.2 (by omega)
        clear e1
        by_cases hv : m < v
        · go_wp2_with fail
          go_round
          case rel => exact ⟨k + 1, by omega, by go_num, by rw [if_neg (by omega), E.out]; exact congrArg (Value.int .i64) (by omega)⟩
          case measure => simp [intOf]; omega
        · go_wp2_with fail
          go_round
          case rel => exact ⟨k + 1, by omega, by go_num, by rw [if_neg (by omega), E.out]; exact congrArg (Value.int .i64) (by omega)⟩
          case measure => simp [intOf]; omega
    · have hke : k = n := by omega
      subst hke
      rw [if_neg (by omega), List.take_of_length_le (by omega)]
      go_wp2_with fail
      go_ret
      exact ⟨rfl, rfl⟩
end Go.Proofs.YtinhbmjfeabecaaDoor

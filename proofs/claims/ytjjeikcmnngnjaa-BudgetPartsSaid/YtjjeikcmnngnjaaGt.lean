/-
  Two budgets together; BudgetTimes at every budget.
-/
import Derived.Test.YtjjeikcmnngnjaaGg
namespace Go.Proofs.Ytjjeikcmnngnjaa
open Go.RowKit

/-- Two budgets in a row. -/
theorem Bs.two {w : World} {g : Nat} {x y u v : Int} {t : TypeId} {fr : Nat × Nat} (h : w.heap[g]? = some (.cells #[.int .i64 x, .int .i64 y, .int .i64 u, .int .i64 v] t fr)) :
    Bs w (some ⟨g, 0, none⟩) 2 (fun j => if j = 0 then x else u) (fun j => if j = 0 then y else v) := by
  intro _
  refine ⟨g, 0, rfl, fun j hj => ?_⟩
  rcases (show j = 0 ∨ j = 1 by omega) with rfl | rfl
  · exact ⟨by rw [cell_of_row _ _ _ _ _ _ h]; rfl, by rw [cell_of_row _ _ _ _ _ _ h]; rfl⟩
  · exact ⟨by rw [cell_of_row _ _ _ _ _ _ h]; rfl, by rw [cell_of_row _ _ _ _ _ _ h]; rfl⟩
theorem sums_two (x u : Int) : sums (fun j => if j = 0 then x else u) 2 = sm x u := by
  show bd (bd (bd (bd 0 + bd x)) + bd u) = bd (bd x + bd u)
  rw [show bd 0 = 0 by decide, Int.zero_add, bd_bd, bd_bd]
theorem Sum2_is {g c : Nat} {x y u v : Int} (w : World) {t : TypeId} {fr : Nat × Nat} (h : w.heap[g]? = some (.cells #[.int .i64 x, .int .i64 y, .int .i64 u, .int .i64 v] t fr)) :
    Calls Try.prog 19 #[.slice (some ⟨g, 0, none⟩) 2 c] w (AggEnd (.agg #[.int .i64 (sm x u), .int .i64 (sm y v)]) w) := by
  have := Sum_is (some ⟨g, 0, none⟩) 2 c _ _ w (Bs.two h) (by omega)
  rwa [sums_two, sums_two] at this
theorem sm_in {x u : Int} (h0 : 0 ≤ x) (h1 : 0 ≤ u) (h : x + u ≤ 1099511627776) : sm x u = x + u := by
  unfold sm; rw [bd_in h0 (by omega), bd_in h1 (by omega), bd_in (by omega) h]
theorem pd_low (x : Int) {n : Int} (h : n ≤ 0) : pd x n = 0 := by unfold pd; rw [bd_low h, Int.mul_zero]; rfl
theorem pd_one {x : Int} (h0 : 0 ≤ x) (h1 : x ≤ 1099511627776) : pd x 1 = x := by unfold pd; rw [show bd 1 = 1 by decide, Int.mul_one, bd_bd, bd_in h0 h1]
theorem pd_nat {x : Int} {k : Nat} (h0 : 0 ≤ x) (h1 : x ≤ 4294967295) (hk : k ≤ 255) : pd x k = x * k ∧ 0 ≤ x * (k : Int) ∧ x * (k : Int) ≤ 1095216660225 := by
  have h2 : 0 ≤ x * (k : Int) := Int.mul_nonneg h0 (by omega)
  have h3 : x * (k : Int) ≤ x * 255 := Int.mul_le_mul_of_nonneg_left (by omega) h0
  refine ⟨?_, h2, by omega⟩
  unfold pd; rw [bd_in h0 (by omega), bd_in (x := (k : Int)) (by omega) (by omega), bd_in h2 (by omega)]
theorem sm_nat {x : Int} {k : Nat} (h0 : 0 ≤ x) (h1 : x ≤ 4294967295) (hk : k < 255) : sm (x * k) x = x * ((k + 1 : Nat) : Int) := by
  have h2 := (pd_nat (k := k) h0 h1 (by omega)).2
  rw [sm_in h2.1 h0 (by omega), Int.natCast_add, Int.mul_add]
  omega

set_option maxRecDepth 10000 in
set_option maxHeartbeats 6400000 in
theorem times_any {a b : Int} {n : Nat} (W : World) (ha : 0 ≤ a ∧ a ≤ 4294967295) (hb' : 0 ≤ b ∧ b ≤ 4294967295) (hn : n ≤ 255) :
    Calls Try.prog 6 #[.int .u32 a, .int .u32 b, .int .u8 n] W (TrueEnd W) := by
  have K1 := fun w => New_is a b w
  rw [bd_in ha.1 (by omega), bd_in hb'.1 (by omega)] at K1
  have KA := Lib.hid ha
  have KB := Lib.hid hb'
  have T1 := fun w => Times_is a b n w
  rw [(pd_nat ha.1 ha.2 hn).1, (pd_nat hb'.1 hb'.2 hn).1] at T1
  have T2 := fun w => Times_is a b 0 w
  rw [pd_low a (by omega), pd_low b (by omega)] at T2
  have T3 := fun w => Times_is a b (-1) w
  rw [pd_low a (by omega), pd_low b (by omega)] at T3
  have T4 := fun w => Times_is a b 1 w
  rw [pd_one ha.1 (by omega), pd_one hb'.1 (by omega)] at T4
  replace K1 := Lib.hid K1
  replace T1 := Lib.hid T1
  replace T2 := Lib.hid T2
  replace T3 := Lib.hid T3
  replace T4 := Lib.hid T4
  have wa : IntKind.i64.wrap a = a := wr (by omega) (by omega)
  have wb : IntKind.i64.wrap b = b := wr (by omega) (by omega)
  have wn : IntKind.i64.wrap (n : Int) = n := wr (by omega) (by omega)
  clear ha hb'
  go_enter Try.func6, Try.ntmps6
  go_wp2_with fail
  refine (shown_is _).mono ?_
  rintro e w1 ⟨rfl, hb1⟩
  go_wp2_with fail
  refine (K1.out _).mono ?_
  rintro e w2 ⟨rfl, hb⟩
  have hbl := box_below w2 (.cells #[.int .i64 a, .int .i64 b] 25)
  have hA := (Bt.new 25 w2 a b).alloc (.cells #[.int .i64 0, .int .i64 0] 25)
  have s2 : (w2.alloc (.cells #[.int .i64 a, .int .i64 b] 25)).heap.size = w2.heap.size + 1 := by simp
  have hS := Bt.new' 25 (w2.alloc (.cells #[.int .i64 a, .int .i64 b] 25)) s2.symm 0 0
  have hb2 := ((hb1.trans (hb.mono hb1.size)).trans (hbl.mono (hb1.trans (hb.mono hb1.size)).size)).alloc (Nat.le_trans (hb1.trans (hb.mono hb1.size)).size hbl.size) (.cells #[.int .i64 0, .int .i64 0] 25)
  have hz := (hb1.trans (hb.mono hb1.size)).size
  clear hb1 hb hbl s2
  go_wp2_with fail
  generalize (w2.alloc (.cells #[.int .i64 a, .int .i64 b] 25)).alloc (.cells #[.int .i64 0, .int .i64 0] 25) = w3 at *
  generalize w2.heap.size = g at *
  go_loopw [10] (fun iv wr => ∃ k : Nat, iv = .int .i64 k ∧ k ≤ n ∧ Bt 25 wr g a b ∧ Bt 25 wr (g + 1) (a * k) (b * k) ∧ Below W.heap.size W wr) (fun iv _ => n - (intOf iv).toNat)
  case atStart => exact ⟨0, rfl, by omega, hA, by rw [show ((0 : Nat) : Int) = 0 from rfl, Int.mul_zero, Int.mul_zero]; exact hS, hb2⟩
  case round =>
    obtain ⟨k, rfl, hk, hA1, hS1, hb3⟩ := hrel
    clear hA hS hb2
    have x0 := hA1.c0
    have x1 := hA1.c1
    have y0 := hS1.c0
    have y1 := hS1.c1
    by_cases hlt : k < n
    · have e2 : (k : Int) < (n : Int) := by omega
      have HA := Lib.hid (sm_nat (k := k) KA.out.1 KA.out.2 (by omega))
      have HB := Lib.hid (sm_nat (k := k) KB.out.1 KB.out.2 (by omega))
      clear T1 T2 T3 T4 K1
      generalize a * (k : Int) = p at *
      generalize b * (k : Int) = q at *
      go_wp2_with fail
      have hrow := heap_alloc_new wr (.cells #[.int .i64 p, .int .i64 q, .int .i64 a, .int .i64 b] 25)
      refine (Sum2_is _ hrow).mono ?_
      rintro e w4 ⟨rfl, hb⟩
      have hbl := box_below wr (.cells #[.int .i64 p, .int .i64 q, .int .i64 a, .int .i64 b] 25)
      have hA2 := (hA1.on hbl).on hb
      have hS2 := (hS1.on hbl).on hb
      have hb4 := (hb3.trans (hbl.mono hb3.size)).trans (hb.mono (hb3.trans (hbl.mono hb3.size)).size)
      rw [HA.out, HB.out]
      clear hA1 hS1 hb3 x0 x1 y0 y1 hrow hb hbl
      have f0 := hS2.f 0
      have f1 := hS2.f 1
      have y0 := hS2.c0
      have y1 := hS2.c1
      obtain ⟨p2, hp2⟩ : ∃ z, z = a * ((k + 1 : Nat) : Int) := ⟨_, rfl⟩
      obtain ⟨q2, hq2⟩ : ∃ z, z = b * ((k + 1 : Nat) : Int) := ⟨_, rfl⟩
      rw [← hp2, ← hq2]
      have HP := Lib.hid hp2
      have HQ := Lib.hid hq2
      have hA3 := (hA2.setOther (p := ⟨g + 1, 0, none⟩) (show g ≠ g + 1 by omega) (.int .i64 p2)).setOther (p := ⟨g + 1, 1, none⟩) (show g ≠ g + 1 by omega) (.int .i64 q2)
      have hS3 := hS2.set p2 q2
      have hb5 := below_made hb4 (g := g + 1) (by omega) (.int .i64 p2) (.int .i64 q2)
      clear hA2 hS2 hb4 hp2 hq2 HA HB
      go_wp2_with fail
      go_roundw
      case rel => exact ⟨k + 1, by go_num, by omega, hA3, by rw [← HP.out, ← HQ.out]; exact hS3, hb5⟩
      case measure => simp [intOf]; omega
    · have e2 : ¬ (k : Int) < (n : Int) := by omega
      obtain rfl : k = n := by omega
      generalize a * (k : Int) = p at *
      generalize b * (k : Int) = q at *
      have l0 : g < wr.heap.size := hA1.lt
      have l1 : g + 1 < wr.heap.size := hS1.lt
      have KT1 := Lib.hid (fun w' (hb : Below wr.heap.size wr w') => calls_base hb (T1.out w'))
      have KT2 := Lib.hid (fun w' (hb : Below wr.heap.size wr w') => calls_base hb (T2.out w'))
      have KT3 := Lib.hid (fun w' (hb : Below wr.heap.size wr w') => calls_base hb (T3.out w'))
      have KT4 := Lib.hid (fun w' (hb : Below wr.heap.size wr w') => calls_base hb (T4.out w'))
      have hq : Below wr.heap.size wr wr := Below.refl _ _
      clear T1 T2 T3 T4 K1 hA1 hS1 KA KB
      go_upto_region 8 with fail
      go_region_held3 (fun w' => w'.cell? ⟨g, 0, none⟩ = some (.int .i64 a) ∧ w'.cell? ⟨g, 1, none⟩ = some (.int .i64 b) ∧ w'.cell? ⟨g + 1, 0, none⟩ = some (.int .i64 p) ∧ w'.cell? ⟨g + 1, 1, none⟩ = some (.int .i64 q))
        (first | exact ⟨(Below.cell (p := ⟨g, 0, none⟩) (by repeat' (first | exact hq | refine Below.drew ?_ | refine below_drewN ?_ _)) l0).trans x0, (Below.cell (p := ⟨g, 1, none⟩) (by repeat' (first | exact hq | refine Below.drew ?_ | refine below_drewN ?_ _)) l0).trans x1, (Below.cell (p := ⟨g + 1, 0, none⟩) (by repeat' (first | exact hq | refine Below.drew ?_ | refine below_drewN ?_ _)) l1).trans y0, (Below.cell (p := ⟨g + 1, 1, none⟩) (by repeat' (first | exact hq | refine Below.drew ?_ | refine below_drewN ?_ _)) l1).trans y1⟩ | fail)
        (first
          | (go_at_call 15; (with_reducible refine (KT1.out _ (by repeat' (first | exact hq | refine Below.drew ?_ | refine below_drewN ?_ _))).mono ?_); rintro e wa ⟨rfl, hq⟩)
          | (go_at_call 15; (with_reducible refine (KT2.out _ (by repeat' (first | exact hq | refine Below.drew ?_ | refine below_drewN ?_ _))).mono ?_); rintro e wa ⟨rfl, hq⟩)
          | (go_at_call 15; (with_reducible refine (KT3.out _ (by repeat' (first | exact hq | refine Below.drew ?_ | refine below_drewN ?_ _))).mono ?_); rintro e wa ⟨rfl, hq⟩)
          | (go_at_call 15; (with_reducible refine (KT4.out _ (by repeat' (first | exact hq | refine Below.drew ?_ | refine below_drewN ?_ _))).mono ?_); rintro e wa ⟨rfl, hq⟩))
      all_goals
        go_wp2_with fail
        go_ret
        exact ⟨rfl, hb3.trans (hq.mono hb3.size)⟩
theorem times_row {a b n : Int} (W : World) (ha : 0 ≤ a ∧ a ≤ 4294967295) (hb : 0 ≤ b ∧ b ≤ 4294967295) (hn : 0 ≤ n ∧ n ≤ 255) :
    Calls Try.prog 6 #[.int .u32 a, .int .u32 b, .int .u8 n] W (TrueEnd W) := by
  obtain ⟨k, rfl⟩ := Int.eq_ofNat_of_zero_le hn.1
  exact times_any W ha hb (by omega)
end Go.Proofs.Ytjjeikcmnngnjaa

/-
  A row of budgets of the call's own; BudgetSums at every slice of budgets.
-/
import Derived.Test.YtjjeikcmnngnjaaGf
import Derived.Laws.AppendOwn
import Derived.WideShapes
namespace Go.Proofs.Ytjjeikcmnngnjaa
open Go.RowKit

/-- The cells of the first k budgets in a row. -/
def bvs (x y : Nat → Int) : Nat → List Value
  | 0 => []
  | k + 1 => bvs x y k ++ [.int .i64 (x k), .int .i64 (y k)]
theorem bvs_len (x y : Nat → Int) : ∀ k, (bvs x y k).length = k * 2
  | 0 => by simp [bvs]
  | k + 1 => by
    show (bvs x y k ++ _).length = _
    rw [List.length_append, bvs_len x y k]; simp; omega
theorem bvs_get (x y : Nat → Int) : ∀ k j, j < k → (bvs x y k)[j * 2]? = some (.int .i64 (x j)) ∧ (bvs x y k)[j * 2 + 1]? = some (.int .i64 (y j))
  | 0, j, h => by omega
  | k + 1, j, h => by
    have hl := bvs_len x y k
    show (bvs x y k ++ _)[j * 2]? = _ ∧ (bvs x y k ++ _)[j * 2 + 1]? = _
    by_cases hj : j < k
    · rw [List.getElem?_append_left (by omega), List.getElem?_append_left (by omega)]
      exact bvs_get x y k j hj
    · obtain rfl : j = k := by omega
      rw [List.getElem?_append_right (by omega), List.getElem?_append_right (by omega), hl, Nat.sub_self, show j * 2 + 1 - j * 2 = 1 by omega]
      exact ⟨rfl, rfl⟩
theorem owns_bs {w : World} {base n : Nat} {v : Value} {x y : Nat → Int} (h : w.ownsRow base 25 2 v n (bvs x y n)) : ∃ a c, v = .slice a n c ∧ Bs w a n x y := by
  rcases h.2 with ⟨rfl, rfl⟩ | ⟨g, cap, cur, rfl, _, hg, h1, h2, h3, h4⟩
  · exact ⟨none, 0, rfl, fun h => by omega⟩
  · refine ⟨_, cap, rfl, fun _ => ⟨g, 0, rfl, fun j hj => ?_⟩⟩
    have hc := bvs_get x y n j hj
    rw [← h4, List.getElem?_take_of_lt (by omega), List.getElem?_take_of_lt (by omega), Array.getElem?_toList, Array.getElem?_toList] at hc
    rw [Nat.zero_add]
    exact ⟨by rw [cell_of_row _ _ _ _ _ _ hg]; exact hc.1, by rw [cell_of_row _ _ _ _ _ _ hg]; exact hc.2⟩
theorem own_below2 {w w' : World} {B n e : Nat} {v : Value} {xs : List Value} (h : w.ownsRow B e 2 v n xs) (hb : Below w.heap.size w w') : w'.ownsRow B e 2 v n xs := by
  refine ⟨h.1, ?_⟩
  rcases h.2 with h | ⟨g, cap, cur, hv, h1, h2, h3⟩
  · exact .inl h
  · exact .inr ⟨g, cap, cur, hv, h1, (hb.block g (Array.getElem?_eq_some_iff.1 h2).1).trans h2, h3⟩
theorem infoB : (Try.prog.info? 25).map (fun i => (i.zero, i.size, i.bytes)) = some (some (.agg #[.int .i64 0, .int .i64 0]), 2, 16) := by kernel_rfl

set_option maxRecDepth 10000 in
set_option maxHeartbeats 3200000 in
theorem budgets_any {a : Option Addr} {n c : Nat} {x y : Nat → Int} (W : World) (h : Bs W a n x y) (hm : n ≤ 9223372036854775807) :
    Calls Try.prog 4 #[.slice a n c] W (TrueEnd W) := by
  have HS := Lib.hid h
  by_cases hn : n ≤ 200
  · have e1 : ¬ (200 : Int) < (n : Int) := by omega
    clear h
    go_enter Try.func4, Try.ntmps4
    go_wp2_with fail
    refine (shown_is _).mono ?_
    rintro e w1 ⟨rfl, hb1⟩
    go_wp2_with fail
    go_loopw [4, 5] (fun kv iv wr => ∃ k : Nat, iv = .int .i64 k ∧ k ≤ n ∧ wr.ownsRow W.heap.size 25 2 kv k (bvs x y k) ∧ Below W.heap.size W wr) (fun _ iv _ => n - (intOf iv).toNat)
    case atStart => exact ⟨0, rfl, by omega, ⟨rfl, .inl ⟨rfl, rfl⟩⟩, hb1⟩
    case round =>
      obtain ⟨k, rfl, hk, ho, hb⟩ := hrel
      clear hb1
      by_cases hlt : k < n
      · have e2 : (k : Int) < (n : Int) := by omega
        obtain ⟨gb, off, rfl, hc⟩ := HS.out (by omega)
        have c0 := (hb.cell (p := ⟨gb, off + k * 2, none⟩) (World.block_lt_of_cell? W _ (hc k hlt).1)).trans (hc k hlt).1
        have c1 := (hb.cell (p := ⟨gb, off + k * 2 + 1, none⟩) (World.block_lt_of_cell? W _ (hc k hlt).2)).trans (hc k hlt).2
        clear hc
        have HX := Lib.hid (show bvs x y k ++ [.int .i64 (x k), .int .i64 (y k)] = bvs x y (k + 1) from rfl)
        generalize x k = xk at *
        generalize y k = yk at *
        generalize bvs x y k = xs at *
        go_wp2_with fail
        refine (Made_is xk yk _).mono ?_
        rintro e w2 ⟨rfl, hq⟩
        have hb2 := hb.trans (hq.mono hb.size)
        have ho2 := own_below2 ho hq
        clear ho hb hq c0 c1
        obtain ⟨i0, hi, hz0, hz1', hz2'⟩ := info_parts infoB
        go_wp2_with (at_builtin; refine wpList_append_own _ rfl (.tmp 17) (.tmp 23) 41 rfl W.heap.size 25 i0 (.agg #[.int .i64 0, .int .i64 0]) 2 16 Try.underlying41 hi hz0 hz1' hz2' rfl (by decide) _ _ _ rfl (ho2.alloc _) ⟨w2.heap.size, 0, none⟩ 1 1 [.int .i64 xk, .int .i64 yk] rfl rfl ?c1 ?c2 ?c3 ?c4 ?c5 ?_)
        case c1 =>
          intro j u hj
          have hrow := heap_alloc_new w2 (.cells #[.int .i64 xk, .int .i64 yk] 25)
          rw [Go.WideShapes.add_plain, Nat.zero_add, cell_of_row _ _ _ _ _ _ hrow, ← hj, ← Array.getElem?_toList]
        case c2 => intro u hu; simp at hu; rcases hu with rfl | rfl <;> rfl
        case c3 => unfold maxLen; omega
        case c4 => omega
        case c5 => have := hb2.size; simp; omega
        intro v' w3 hown' hgrow hnn
        have hb' : Below W.heap.size W w3 := (hb2.alloc hb2.size _).grown hgrow (by have := hb2.size; simp; omega) (fun k hk => (ho2.lt k hk).1)
        rw [HX.out] at hown'
        clear hgrow ho2 hb2 hnn
        go_wp2_with fail
        go_roundw
        case rel => exact ⟨k + 1, by go_num, by omega, hown', hb'⟩
        case measure => simp [intOf]; omega
      · have e2 : ¬ (k : Int) < (n : Int) := by omega
        obtain rfl : k = n := by omega
        obtain ⟨a1, c1, rfl, hB1⟩ := owns_bs ho
        have K1 := Lib.hid (fun w (hq : Below wr.heap.size wr w) => Sum_is a1 k c1 x y w (hB1.below hq) hm)
        have K2 := Lib.hid (fun w (hq : Below W.heap.size W w) => rSum_is a k c x y w (HS.out.below hq) hm)
        generalize sums x k = p at *
        generalize sums y k = q at *
        clear ho hB1
        go_wp2_with fail
        refine (K1.out _ (Below.refl _ _)).mono ?_
        rintro e w2 ⟨rfl, hq⟩
        have hb2 := hb.trans (hq.mono hb.size)
        clear hq
        go_wp2_with fail
        refine (Real_is p q _).mono ?_
        rintro e w3 ⟨rfl, hq⟩
        have hb3 := hb2.trans (hq.mono hb2.size)
        clear hq
        go_wp2_with fail
        refine (K2.out _ hb3).mono ?_
        rintro e w4 ⟨rfl, hq⟩
        have hb4 := hb3.trans (hq.mono hb3.size)
        clear hq
        go_wp2_with fail
        go_ret
        exact ⟨rfl, hb4⟩
  · have e1 : (200 : Int) < (n : Int) := by omega
    clear h HS
    go_enter Try.func4, Try.ntmps4
    go_wp2_with fail
    refine (shown_is _).mono ?_
    rintro e w1 ⟨rfl, hb1⟩
    go_wp2_with fail
    go_ret
    exact ⟨rfl, hb1⟩
end Go.Proofs.Ytjjeikcmnngnjaa

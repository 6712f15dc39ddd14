import Derived.Test.YtfgjfncmldnlcaaHn
namespace Go.Proofs.Ytfgjfncmldnlcaa
open Go.RowKit

theorem Sl.two {w : World} {g : Nat} {x y : Int} {t : TypeId} {fr : Nat × Nat} (h : w.heap[g]? = some (.cells #[.int .i64 x, .int .i64 y] t fr)) : Sl w (some ⟨g, 0, none⟩) 2 [x, y] := by
  refine ⟨rfl, fun _ => ⟨g, 0, rfl, fun j hj => ?_⟩⟩
  rw [Nat.zero_add, cell_of_row w g j _ t fr h]
  rcases j with _ | _ | j
  · rfl
  · rfl
  · omega
def TrueEnd (W : World) (e : Ending) (W' : World) : Prop := e = .returned (.bool true) ∧ Below W.heap.size W W'
set_option maxRecDepth 10000 in
theorem shown_is (W : World) : Calls Try.prog 9 #[] W (TrueEnd W) := by
  have KO := Lib.hid (fun w a1 a2 h1 h2 => Offset_is a1 a2 2 2 2 2 [2, 3] [1, 2] w h1 h2 (by decide))
  rw [show ofV [2, 3] [1, 2] = 5 by decide, show ofB [2, 3] [1, 2] = true by decide] at KO
  have KS := Lib.hid (fun w a1 h1 => Size_is a1 2 2 [2, 3] w h1)
  rw [show szV [2, 3] = 6 by decide, show szE [2, 3] = 0 by decide] at KS
  go_enter Try.func9, Try.ntmps9
  go_wp2_with fail
  have hA := heap_alloc_new W (.cells #[.int .i64 2, .int .i64 3] 3)
  have hB := heap_alloc_new (W.alloc (.cells #[.int .i64 2, .int .i64 3] 3)) (.cells #[.int .i64 1, .int .i64 2] 3)
  have hA2 := (Below.heap_alloc _ (.cells #[.int .i64 1, .int .i64 2] 3) W.heap.size (by simp)).trans hA
  have hb : Below W.heap.size W ((W.alloc (.cells #[.int .i64 2, .int .i64 3] 3)).alloc (.cells #[.int .i64 1, .int .i64 2] 3)) := ((Below.refl _ _).alloc (Nat.le_refl _) _).alloc (by simp) _
  have sz : (W.alloc (.cells #[.int .i64 2, .int .i64 3] 3)).heap.size = W.heap.size + 1 := by simp
  rw [sz] at hB
  refine (KO.out _ _ _ (Sl.two hA2) (Sl.two hB)).mono ?_
  rintro x w1 ⟨rfl, hd⟩
  have hb1 := hb.trans (hd.below.mono hb.size)
  clear hA hB hA2 hb sz hd
  go_wp2_with fail
  have hC := heap_alloc_new w1 (.cells #[.int .i64 2, .int .i64 3] 3)
  refine (KS.out _ _ (Sl.two hC)).mono ?_
  rintro x w2 ⟨rfl, rfl⟩
  have hb2 := hb1.alloc hb1.size (.cells #[.int .i64 2, .int .i64 3] 3)
  clear hC
  go_wp2_with fail
  go_ret
  exact ⟨rfl, hb2⟩

/-! ### The law: ShapeTells -/
set_option maxRecDepth 10000 in
set_option maxHeartbeats 1600000 in
theorem tells_any (a1 a2 : Option Addr) (n c m d : Nat) (l t : List Int) (k : Int) (W : World) (h1 : Sl W a1 n l) (h2 : Sl W a2 m t) (hk : k ≤ 9223372036854775807) :
    Calls Try.prog 3 #[.slice a1 n c, .slice a2 m d, .int .i64 k] W (TrueEnd W) := by
  by_cases g1 : 20 < n
  · clear h1 h2
    have e1 : (20 : Int) < n := by omega
    go_enter Try.func3, Try.ntmps3
    go_wp2_with fail
    refine (shown_is _).mono ?_
    rintro x w1 ⟨rfl, hb1⟩
    go_wp2_with fail
    go_ret
    exact ⟨rfl, hb1⟩
  by_cases g2 : 20 < m
  · clear h1 h2
    have e1 : ¬ (20 : Int) < n := by omega
    have e2 : (20 : Int) < m := by omega
    go_enter Try.func3, Try.ntmps3
    go_wp2_with fail
    refine (shown_is _).mono ?_
    rintro x w1 ⟨rfl, hb1⟩
    go_wp2_with fail
    go_ret
    exact ⟨rfl, hb1⟩
  have e1 : ¬ (20 : Int) < n := by omega
  have e2 : ¬ (20 : Int) < m := by omega
  have K1 := Lib.hid (fun w (hb : Below W.heap.size W w) => Size_is a1 n c l w (h1.below hb))
  have K2 := Lib.hid (fun w (hb : Below W.heap.size W w) => rSize_is a1 n c l w (h1.below hb))
  have K3 := Lib.hid (fun w (hb : Below W.heap.size W w) => Offset_is a1 a2 n c m d l t w (h1.below hb) (h2.below hb) (by omega))
  have K4 := Lib.hid (fun w (hb : Below W.heap.size W w) => rOffset_is a1 a2 n c m d l t w (h1.below hb) (h2.below hb) (by omega))
  have K5 := Lib.hid (fun w (hb : Below W.heap.size W w) => Place_is a1 n c l k w (h1.below hb) hk)
  have K6 := Lib.hid (fun w (hb : Below W.heap.size W w) => rPlace_is a1 n c l k w (h1.below hb) hk)
  have K7 := Lib.hid (fun w (hb : Below W.heap.size W w) => May_is a1 n c l w (h1.below hb) _ rfl)
  have K8 := Lib.hid (fun w (hb : Below W.heap.size W w) => rMay_is a1 n c l w (h1.below hb) _ rfl)
  clear h1 h2
  generalize (szE l == 0) = mb at K7 K8
  generalize szV l = v at K1 K2
  generalize szE l = e at K1 K2
  generalize ofV l t = o at K3 K4
  generalize ofB l t = ob at K3 K4
  generalize plB l k = pb at K5 K6
  generalize plO l k = p at K5 K6
  go_enter Try.func3, Try.ntmps3
  go_wp2_with fail
  refine (shown_is _).mono ?_
  rintro x w1 ⟨rfl, hb1⟩
  go_wp2_with fail
  refine (K1.out _ hb1).mono ?_
  rintro x w1 ⟨rfl, rfl⟩
  go_wp2_with fail
  refine (K2.out _ hb1).mono ?_
  rintro x w1 ⟨rfl, rfl⟩
  go_wp2_with fail
  refine (K3.out _ hb1).mono ?_
  rintro x w2 ⟨rfl, hd2⟩
  have hb2 := hb1.trans (hd2.below.mono hb1.size)
  clear hd2 hb1
  go_wp2_with fail
  refine (K4.out _ hb2).mono ?_
  rintro x w3 ⟨rfl, hd3⟩
  have hb3 := hb2.trans (hd3.below.mono hb2.size)
  clear hd3 hb2
  go_wp2_with fail
  refine (K5.out _ hb3).mono ?_
  rintro x w4 ⟨a4, n4, c4, rfl, hs4, hn4, hb4'⟩
  have hb4 := hb3.trans (hb4'.mono hb3.size)
  clear hb4' hb3
  have HS4 := Lib.hid hs4
  clear hs4
  go_wp2_with fail
  refine (K6.out _ hb4).mono ?_
  rintro x w5 ⟨a5, n5, c5, rfl, hs5, hn5, hb5'⟩
  have hb5 := hb4.trans (hb5'.mono hb4.size)
  have KS := Lib.hid (rSame_is a4 a5 n4 c4 n5 c5 p p w5 (HS4.out.below hb5') hs5 hn4 hn5 true (beq_self_eq_true p).symm)
  clear hb5' hb4 HS4 hs5
  go_wp2_with fail
  refine (K7.out _ hb5).mono ?_
  rintro x w6 ⟨rfl, rfl⟩
  go_wp2_with fail
  refine (K8.out _ hb5).mono ?_
  rintro x w6 ⟨rfl, rfl⟩
  go_wp2_with fail
  refine KS.out.mono ?_
  rintro x w6 ⟨rfl, hd6⟩
  have hb6 := hb5.trans (hd6.below.mono hb5.size)
  clear hd6 hb5
  go_wp2_with fail
  go_ret
  exact ⟨rfl, hb6⟩
end Go.Proofs.Ytfgjfncmldnlcaa

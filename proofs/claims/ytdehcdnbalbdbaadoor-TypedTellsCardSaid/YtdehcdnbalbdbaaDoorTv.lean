/-
  TypedTells at every typed array.
-/
import Derived.Test.YtdehcdnbalbdbaaDoorTu
import Derived.Test.YtdehcdnbalbdbaaDoorTl
import Derived.Deep.RegionHeld3
namespace Go.Proofs.YtdehcdnbalbdbaaDoor
open Go.RowKit

theorem rVSame_both {a1 b1 a2 b2 : Option Addr} {n1 n2 c1 m1 m2 d1 c2 d2 : Nat} {l : List Int} {es : List ByteArray} (W : World) (h1 : Vl W a1 n1 b1 m1 l es) (h2 : Vl W a2 n2 b2 m2 l es) (q1 : n1 ≤ 1000000) :
    Calls Tryd.prog 26 #[.agg #[.slice a1 n1 c1, .slice b1 m1 d1], .agg #[.slice a2 n2 c2, .slice b2 m2 d2]] W (BoolEnd true W) := by
  have e1 : n1 = n2 := h1.s.1.symm.trans h2.s.1
  have e2 : m1 = m2 := h1.t.1.symm.trans h2.t.1
  subst e1 e2
  exact rVSame_yes W h1 h2 q1
set_option maxRecDepth 10000 in
set_option maxHeartbeats 1600000 in
theorem tells_big {w i w2 : Int} {a : Option Addr} {n c : Nat} {s : ByteArray} (W : World) (ht : WT W) (hsm : s.size ≤ maxLen) (hn : n ≤ 9223372036854775807) (h : ¬ (s.size ≤ 2400 ∧ n ≤ 20)) :
    Calls Tryd.prog 4 #[.agg #[.int .i64 w, .slice a n c, .string s], .int .i64 i, .int .i64 w2] W (TrueEnd W) := by
  have KF := fun w' (hb : Below W.heap.size W w') => few_is (w := w) (a := a) (n := n) (c := c) w' hsm hn
  rw [show (decide (s.size ≤ 2400) && decide (n ≤ 20)) = false by rw [← Bool.decide_and]; exact decide_eq_false h] at KF
  replace KF := Lib.hid KF
  have HW := Lib.hid ht
  have hA := Tx.new 33 W w a n c s
  have hb0 := box_below W (.cells #[.int .i64 w, .slice a n c, .string s] 33)
  clear ht h hsm hn
  go_enter Tryd.func4, Tryd.ntmps4
  go_wp2_with fail
  refine (shown_is _ (HW.out.below hb0)).mono ?_
  rintro e w1 ⟨rfl, hb⟩
  have hA1 := hA.on hb
  have hb1 := hb0.trans (hb.mono hb0.size)
  clear hA hb0 hb
  have x0 := hA1.c0
  have x1 := hA1.c1
  have x2 := hA1.c2
  go_wp2_with fail
  refine (KF.out _ hb1).mono ?_
  rintro e w2 ⟨rfl, hb⟩
  go_wp2_with fail
  go_ret
  exact ⟨rfl, hb1.trans (hb.mono hb1.size)⟩
set_option maxRecDepth 10000 in
set_option maxHeartbeats 6400000 in
theorem tells_few {w i w2 : Int} {a : Option Addr} {n c : Nat} {l : List Int} {s : ByteArray} (W : World) (hl : Sl W a n l) (hn : n ≤ 20) (hs : s.size ≤ 2400) (ht : WT W) :
    Calls Tryd.prog 4 #[.agg #[.int .i64 w, .slice a n c, .string s], .int .i64 i, .int .i64 w2] W (TrueEnd W) := by
  have hsm : s.size ≤ maxLen := by unfold maxLen; omega
  have KF := fun w' (hb : Below W.heap.size W w') => few_is (w := w) (a := a) (n := n) (c := c) w' hsm (by omega)
  rw [decide_eq_true hs, decide_eq_true hn] at KF
  obtain ⟨va, pa, A1, A2⟩ := at_both (w := w) (i := i) (c := c) hl ht hs
  obtain ⟨vl, ve, pv, V1, V2⟩ := val_both (w := w) (c := c) hl hn ht hs
  obtain ⟨w', k', s', p', T1, T2⟩ := to_both (w := w) (w2 := w2) (c := c) hl hn ht hs
  have KY1 := fun z (hb : Below W.heap.size W z) => TMay_is (w := w) (c := c) (s := s) z (hl.below hb) (ht.below hb).wid hsm
  have KY2 := fun z (hb : Below W.heap.size W z) => rTMay_is (w := w) (c := c) (s := s) z (hl.below hb) (by omega)
  have KM1 := fun z (hb : Below W.heap.size W z) => TMany_is (w := w) (c := c) (s := s) z (hl.below hb) (ht.below hb).wid hsm
  have KM2 := fun z (hb : Below W.heap.size W z) => rTMany_is (w := w) (c := c) (s := s) z (hl.below hb) (by omega)
  generalize mayT w l s = my at KY1 KY2
  generalize tm w l s = tn at KM1 KM2
  replace KF := Lib.hid KF
  replace A1 := Lib.hid A1
  replace A2 := Lib.hid A2
  replace V1 := Lib.hid V1
  replace V2 := Lib.hid V2
  replace T1 := Lib.hid T1
  replace T2 := Lib.hid T2
  replace KY1 := Lib.hid KY1
  replace KY2 := Lib.hid KY2
  replace KM1 := Lib.hid KM1
  replace KM2 := Lib.hid KM2
  have HW := Lib.hid ht
  have ht0 := Tx.new 33 W w a n c s
  have hb0 := box_below W (.cells #[.int .i64 w, .slice a n c, .string s] 33)
  clear hl hn hs ht hsm
  go_enter Tryd.func4, Tryd.ntmps4
  go_wp2_with fail
  refine (shown_is _ (HW.out.below hb0)).mono ?_
  rintro e w1 ⟨rfl, hb⟩
  have ht1 := ht0.on hb
  have hb1 := hb0.trans (hb.mono hb0.size)
  clear ht0 hb0 hb
  have x0 := ht1.c0
  have x1 := ht1.c1
  have x2 := ht1.c2
  go_wp2_with fail
  refine (KF.out _ hb1).mono ?_
  rintro e w2' ⟨rfl, hb⟩
  have ht2 := ht1.on hb
  have hb2 := hb1.trans (hb.mono hb1.size)
  clear ht1 hb1 hb x0 x1 x2
  have x0 := ht2.c0
  have x1 := ht2.c1
  have x2 := ht2.c2
  go_wp2_with fail
  refine (made_is w2').mono ?_
  rintro e w3 ⟨rfl, hb⟩
  have hbl := box_below w3 (.cells #[.int .i64 w, .slice a n c, .string s] 29)
  have ht3 := (ht2.on hb).on hbl
  have hx3 := Tx.new 29 w3 w a n c s
  have hb3 := (hb2.trans (hb.mono hb2.size)).alloc (Nat.le_trans hb2.size hb.size) (.cells #[.int .i64 w, .slice a n c, .string s] 29)
  clear ht2 hb2 hb hbl x0 x1 x2
  go_wp2_with fail
  refine (A1.out _ hb3).mono ?_
  rintro e w4 ⟨rfl, hb⟩
  have ht4 := ht3.on hb
  have hx4 := hx3.on hb
  have hb4 := hb3.trans (hb.mono hb3.size)
  clear ht3 hx3 hb3 hb
  have x0 := ht4.c0
  have x1 := ht4.c1
  have x2 := ht4.c2
  go_wp2_with fail
  refine (A2.out _ hb4).mono ?_
  rintro e w5 ⟨rfl, hb⟩
  have ht5 := ht4.on hb
  have hx5 := hx4.on hb
  have hb5 := hb4.trans (hb.mono hb4.size)
  clear ht4 hx4 hb4 hb x0 x1 x2
  have x0 := hx5.c0
  have x1 := hx5.c1
  have x2 := hx5.c2
  go_wp2_with fail
  refine (V1.out _ hb5).mono ?_
  rintro e w6 ⟨a1, n1, c1, b1, m1, d1, rfl, hV, hn1, hb⟩
  have hbl := box_below w6 (.cells #[.slice a1 n1 c1, .slice b1 m1 d1] 25)
  have ht6 := (ht5.on hb).on hbl
  have hx6 := (hx5.on hb).on hbl
  have hv6 := Bx.new w6 a1 n1 c1 b1 m1 d1
  have hV6 := hV.below hbl
  have hb6 := (hb5.trans (hb.mono hb5.size)).alloc (Nat.le_trans hb5.size hb.size) (.cells #[.slice a1 n1 c1, .slice b1 m1 d1] 25)
  clear ht5 hx5 hb5 hb hbl hV x0 x1 x2
  have x0 := ht6.c0
  have x1 := ht6.c1
  have x2 := ht6.c2
  go_wp2_with fail
  refine (V2.out _ hb6).mono ?_
  rintro e w7 ⟨a2, n2, c2, b2, m2, d2, rfl, hU, hn2, hb⟩
  have hbl := box_below w7 (.cells #[.slice a2 n2 c2, .slice b2 m2 d2] 25)
  have ht7 := (ht6.on hb).on hbl
  have hx7 := (hx6.on hb).on hbl
  have hv7 := (hv6.below hb hv6.lt).below hbl (Nat.lt_of_lt_of_le hv6.lt hb.size)
  have hV7 := (hV6.below hb).below hbl
  have hu7 := Bx.new w7 a2 n2 c2 b2 m2 d2
  have hU7 := hU.below hbl
  have hb7 := (hb6.trans (hb.mono hb6.size)).alloc (Nat.le_trans hb6.size hb.size) (.cells #[.slice a2 n2 c2, .slice b2 m2 d2] 25)
  clear ht6 hx6 hv6 hV6 hb6 hb hbl hU x0 x1 x2
  have x0 := hx7.c0
  have x1 := hx7.c1
  have x2 := hx7.c2
  go_wp2_with fail
  refine (T1.out _ hb7).mono ?_
  rintro e w8 ⟨a3, n3, c3, rfl, hP, hn3, hb⟩
  have hbl := box_below w8 (.cells #[.int .i64 w', .slice a3 n3 c3, .string s'] 29)
  have ht8 := (ht7.on hb).on hbl
  have hx8 := (hx7.on hb).on hbl
  have hv8 := (hv7.below hb hv7.lt).below hbl (Nat.lt_of_lt_of_le hv7.lt hb.size)
  have hV8 := (hV7.below hb).below hbl
  have hu8 := (hu7.below hb hu7.lt).below hbl (Nat.lt_of_lt_of_le hu7.lt hb.size)
  have hU8 := (hU7.below hb).below hbl
  have hp8 := Tx.new 29 w8 w' a3 n3 c3 s'
  have hP8 := hP.below hbl
  have hb8 := (hb7.trans (hb.mono hb7.size)).alloc (Nat.le_trans hb7.size hb.size) (.cells #[.int .i64 w', .slice a3 n3 c3, .string s'] 29)
  clear ht7 hx7 hv7 hV7 hu7 hU7 hb7 hb hbl hP x0 x1 x2
  have x0 := ht8.c0
  have x1 := ht8.c1
  have x2 := ht8.c2
  go_wp2_with fail
  refine (T2.out _ hb8).mono ?_
  rintro e w9 ⟨a4, n4, c4, rfl, hR, hn4, hb⟩
  have hbl := box_below w9 (.cells #[.int .i64 w', .slice a4 n4 c4, .string s'] 33)
  have ht9 := (ht8.on hb).on hbl
  have hx9 := (hx8.on hb).on hbl
  have hv9 := (hv8.below hb hv8.lt).below hbl (Nat.lt_of_lt_of_le hv8.lt hb.size)
  have hV9 := (hV8.below hb).below hbl
  have hu9 := (hu8.below hb hu8.lt).below hbl (Nat.lt_of_lt_of_le hu8.lt hb.size)
  have hU9 := (hU8.below hb).below hbl
  have hp9 := (hp8.on hb).on hbl
  have hP9 := (hP8.below hb).below hbl
  have hr9 := Tx.new 33 w9 w' a4 n4 c4 s'
  have hR9 := hR.below hbl
  have hb9 := (hb8.trans (hb.mono hb8.size)).alloc (Nat.le_trans hb8.size hb.size) (.cells #[.int .i64 w', .slice a4 n4 c4, .string s'] 33)
  clear ht8 hx8 hv8 hV8 hu8 hU8 hp8 hP8 hb8 hb hbl hR x0 x1 x2
  go_upto_region 11 with fail
  generalize w9.alloc (.cells #[.int .i64 w', .slice a4 n4 c4, .string s'] 33) = wf at ht9 hx9 hv9 hV9 hu9 hU9 hp9 hP9 hr9 hR9 hb9 ⊢
  have Q1 := Lib.hid (fun z (hb : Below wf.heap.size wf z) => calls_base (v := .returned (.bool my)) hb (KY1.out z (hb9.trans (hb.mono hb9.size))))
  have Q2 := Lib.hid (fun z (hb : Below wf.heap.size wf z) => calls_base (v := .returned (.bool my)) hb (KY2.out z (hb9.trans (hb.mono hb9.size))))
  have Q3 := Lib.hid (fun z (hb : Below wf.heap.size wf z) => calls_base (v := .returned (.int .i64 tn)) hb (KM1.out z (hb9.trans (hb.mono hb9.size))))
  have Q4 := Lib.hid (fun z (hb : Below wf.heap.size wf z) => calls_base (v := .returned (.int .i64 tn)) hb (KM2.out z (hb9.trans (hb.mono hb9.size))))
  have Q5 := Lib.hid (fun z (hb : Below wf.heap.size wf z) => calls_base (v := .returned (.bool true)) hb (rVSame_both (c1 := c1) (d1 := d1) (c2 := c2) (d2 := d2) z (hV9.below hb) (hU9.below hb) (by omega)))
  have Q6 := Lib.hid (fun z (hb : Below wf.heap.size wf z) => calls_base (v := .returned (.bool true)) hb (same_yes (w := w') (c1 := c3) (c2 := c4) (s := s') z (hP9.below hb) (hR9.below hb) (by omega)))
  have t0 := ht9.c0
  have t1 := ht9.c1
  have t2 := ht9.c2
  have x0 := hx9.c0
  have x1 := hx9.c1
  have x2 := hx9.c2
  have v0 := hv9.c0
  have v1 := hv9.c1
  have u0 := hu9.c0
  have u1 := hu9.c1
  have p0 := hp9.c0
  have p1 := hp9.c1
  have p2 := hp9.c2
  have r0 := hr9.c0
  have r1 := hr9.c1
  have r2 := hr9.c2
  have lt : W.heap.size < wf.heap.size := ht9.lt
  have lx : w3.heap.size < wf.heap.size := hx9.lt
  have lv : w6.heap.size < wf.heap.size := hv9.lt
  have lu : w7.heap.size < wf.heap.size := hu9.lt
  have lp : w8.heap.size < wf.heap.size := hp9.lt
  have lr : w9.heap.size < wf.heap.size := hr9.lt
  have hq : Below wf.heap.size wf wf := Below.refl _ _
  clear KF A1 A2 V1 V2 T1 T2 KY1 KY2 KM1 KM2 HW ht9 hx9 hv9 hV9 hu9 hU9 hp9 hP9 hr9 hR9 hn1 hn2 hn3 hn4
  go_region_held3 (fun wz => wz.cell? ⟨W.heap.size, 0, none⟩ = some (.int .i64 w) ∧ wz.cell? ⟨W.heap.size, 1, none⟩ = some (.slice a n c) ∧ wz.cell? ⟨W.heap.size, 2, none⟩ = some (.string s) ∧ wz.cell? ⟨w3.heap.size, 0, none⟩ = some (.int .i64 w) ∧ wz.cell? ⟨w3.heap.size, 1, none⟩ = some (.slice a n c) ∧ wz.cell? ⟨w3.heap.size, 2, none⟩ = some (.string s) ∧ wz.cell? ⟨w6.heap.size, 0, none⟩ = some (.slice a1 n1 c1) ∧ wz.cell? ⟨w6.heap.size, 1, none⟩ = some (.slice b1 m1 d1) ∧ wz.cell? ⟨w7.heap.size, 0, none⟩ = some (.slice a2 n2 c2) ∧ wz.cell? ⟨w7.heap.size, 1, none⟩ = some (.slice b2 m2 d2) ∧ wz.cell? ⟨w8.heap.size, 0, none⟩ = some (.int .i64 w') ∧ wz.cell? ⟨w8.heap.size, 1, none⟩ = some (.slice a3 n3 c3) ∧ wz.cell? ⟨w8.heap.size, 2, none⟩ = some (.string s') ∧ wz.cell? ⟨w9.heap.size, 0, none⟩ = some (.int .i64 w') ∧ wz.cell? ⟨w9.heap.size, 1, none⟩ = some (.slice a4 n4 c4) ∧ wz.cell? ⟨w9.heap.size, 2, none⟩ = some (.string s'))
    (first | exact ⟨(Below.cell (p := ⟨W.heap.size, 0, none⟩) (by repeat' (first | exact hq | refine Below.drew ?_ | refine below_drewN ?_ _)) lt).trans t0, (Below.cell (p := ⟨W.heap.size, 1, none⟩) (by repeat' (first | exact hq | refine Below.drew ?_ | refine below_drewN ?_ _)) lt).trans t1, (Below.cell (p := ⟨W.heap.size, 2, none⟩) (by repeat' (first | exact hq | refine Below.drew ?_ | refine below_drewN ?_ _)) lt).trans t2, (Below.cell (p := ⟨w3.heap.size, 0, none⟩) (by repeat' (first | exact hq | refine Below.drew ?_ | refine below_drewN ?_ _)) lx).trans x0, (Below.cell (p := ⟨w3.heap.size, 1, none⟩) (by repeat' (first | exact hq | refine Below.drew ?_ | refine below_drewN ?_ _)) lx).trans x1, (Below.cell (p := ⟨w3.heap.size, 2, none⟩) (by repeat' (first | exact hq | refine Below.drew ?_ | refine below_drewN ?_ _)) lx).trans x2, (Below.cell (p := ⟨w6.heap.size, 0, none⟩) (by repeat' (first | exact hq | refine Below.drew ?_ | refine below_drewN ?_ _)) lv).trans v0, (Below.cell (p := ⟨w6.heap.size, 1, none⟩) (by repeat' (first | exact hq | refine Below.drew ?_ | refine below_drewN ?_ _)) lv).trans v1, (Below.cell (p := ⟨w7.heap.size, 0, none⟩) (by repeat' (first | exact hq | refine Below.drew ?_ | refine below_drewN ?_ _)) lu).trans u0, (Below.cell (p := ⟨w7.heap.size, 1, none⟩) (by repeat' (first | exact hq | refine Below.drew ?_ | refine below_drewN ?_ _)) lu).trans u1, (Below.cell (p := ⟨w8.heap.size, 0, none⟩) (by repeat' (first | exact hq | refine Below.drew ?_ | refine below_drewN ?_ _)) lp).trans p0, (Below.cell (p := ⟨w8.heap.size, 1, none⟩) (by repeat' (first | exact hq | refine Below.drew ?_ | refine below_drewN ?_ _)) lp).trans p1, (Below.cell (p := ⟨w8.heap.size, 2, none⟩) (by repeat' (first | exact hq | refine Below.drew ?_ | refine below_drewN ?_ _)) lp).trans p2, (Below.cell (p := ⟨w9.heap.size, 0, none⟩) (by repeat' (first | exact hq | refine Below.drew ?_ | refine below_drewN ?_ _)) lr).trans r0, (Below.cell (p := ⟨w9.heap.size, 1, none⟩) (by repeat' (first | exact hq | refine Below.drew ?_ | refine below_drewN ?_ _)) lr).trans r1, (Below.cell (p := ⟨w9.heap.size, 2, none⟩) (by repeat' (first | exact hq | refine Below.drew ?_ | refine below_drewN ?_ _)) lr).trans r2⟩ | fail)
    (first
      | (go_at_call 22; (with_reducible refine (Q1.out _ (by repeat' (first | exact hq | refine Below.drew ?_ | refine below_drewN ?_ _))).mono ?_); rintro e wq ⟨rfl, hq⟩)
      | (go_at_call 23; (with_reducible refine (Q2.out _ (by repeat' (first | exact hq | refine Below.drew ?_ | refine below_drewN ?_ _))).mono ?_); rintro e wq ⟨rfl, hq⟩)
      | (go_at_call 24; (with_reducible refine (Q3.out _ (by repeat' (first | exact hq | refine Below.drew ?_ | refine below_drewN ?_ _))).mono ?_); rintro e wq ⟨rfl, hq⟩)
      | (go_at_call 25; (with_reducible refine (Q4.out _ (by repeat' (first | exact hq | refine Below.drew ?_ | refine below_drewN ?_ _))).mono ?_); rintro e wq ⟨rfl, hq⟩)
      | (go_at_call 26; (with_reducible refine (Q5.out _ (by repeat' (first | exact hq | refine Below.drew ?_ | refine below_drewN ?_ _))).mono ?_); rintro e wq ⟨rfl, hq⟩)
      | (go_at_call 13; (with_reducible refine (Q6.out _ (by repeat' (first | exact hq | refine Below.drew ?_ | refine below_drewN ?_ _))).mono ?_); rintro e wq ⟨rfl, hq⟩))
  go_wp2_with fail
  go_ret
  exact ⟨by simp, hb9.trans (hq.mono hb9.size)⟩
theorem tells_any {w i w2 : Int} {a : Option Addr} {n c : Nat} {l : List Int} {s : ByteArray} (W : World) (hl : Sl W a n l) (hnm : n ≤ 9223372036854775807) (hsm : s.size ≤ maxLen) (ht : WT W) :
    Calls Tryd.prog 4 #[.agg #[.int .i64 w, .slice a n c, .string s], .int .i64 i, .int .i64 w2] W (TrueEnd W) := by
  by_cases hfew : s.size ≤ 2400 ∧ n ≤ 20
  · exact tells_few W hl hfew.2 hfew.1 ht
  · exact tells_big W ht hsm hnm hfew
end Go.Proofs.YtdehcdnbalbdbaaDoor

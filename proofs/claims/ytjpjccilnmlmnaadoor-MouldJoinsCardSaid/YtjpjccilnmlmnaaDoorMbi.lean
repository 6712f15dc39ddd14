import Derived.Test.YtjpjccilnmlmnaaDoorMbh
/-
  MouldJoins at every three arrays.
-/
namespace Go.Proofs.YtjpjccilnmlmnaaDoor
set_option linter.unusedVariables false
set_option linter.unusedSimpArgs false
open Go.RowKit

theorem lw_three {a1 b1 a2 b2 a3 b3 : Option Addr} {n1 c1 m1 d1 n2 c2 m2 d2 n3 c3 m3 d3 : Nat} {l1 l2 l3 : List Int} {es1 es2 es3 : List ByteArray} {o1 o2 o3 : Option Ar} (W : World) (h1 : Av W a1 n1 c1 b1 m1 d1 l1 es1 o1) (h2 : Av W a2 n2 c2 b2 m2 d2 l2 es2 o2) (h3 : Av W a3 n3 c3 b3 m3 d3 l3 es3 o3) :
    Lv (fun w => Bx w (W.heap.size + 1 + 1) a3 n3 c3 b3 m3 d3 ∧ Av w a3 n3 c3 b3 m3 d3 l3 es3 o3 ∧ Bx w (W.heap.size + 1) a2 n2 c2 b2 m2 d2 ∧ Av w a2 n2 c2 b2 m2 d2 l2 es2 o2 ∧ Bx w W.heap.size a1 n1 c1 b1 m1 d1 ∧ Av w a1 n1 c1 b1 m1 d1 l1 es1 o1 ∧ Below W.heap.size W w)
      (((W.alloc (.cells #[.slice a1 n1 c1, .slice b1 m1 d1] 25)).alloc (.cells #[.slice a2 n2 c2, .slice b2 m2 d2] 25)).alloc (.cells #[.slice a3 n3 c3, .slice b3 m3 d3] 25)) := by
  have k1 := lw_one W h1
  have k2 := lw_box k1 (h2.on ((Below.refl _ _).alloc (Nat.le_refl _) (.cells #[.slice a1 n1 c1, .slice b1 m1 d1] 25)))
  have k3 := lw_box k2 (h3.on (((Below.refl _ _).alloc (Nat.le_refl _) (.cells #[.slice a1 n1 c1, .slice b1 m1 d1] 25)).alloc (by simp) (.cells #[.slice a2 n2 c2, .slice b2 m2 d2] 25)))
  simp only [World.size_alloc] at k3
  exact k3
theorem Av.nts {W : World} {a b : Option Addr} {n c m d : Nat} {o : Option Ar} (h : Av W a n c b m d (TS o).1 (TS o).2 o) : n ≤ 1000000 := by
  cases o with
  | none => have := h.v.s.1; simp [TS] at this; omega
  | some q => have := h.n3; omega
theorem jn_some {o p u : Option Ar} (h : jnM o p = (u, 0)) : ∃ v w z, o = some v ∧ p = some w ∧ u = some z := by
  cases o with
  | none => cases h
  | some v =>
  cases p with
  | none => cases h
  | some w =>
  cases u with
  | some z => exact ⟨v, w, z, rfl, rfl, rfl⟩
  | none =>
    simp only [jnM] at h
    split at h
    · cases h
    · split at h
      · cases h
      · split at h
        · rename_i hz
          simp only [Prod.mk.injEq] at h
          exact absurd h.2 hz
        · cases h
theorem jn_none {o p u : Option Ar} {e : Int} (h : jnM o p = (u, e)) (he : e ≠ 0) : u = none := by
  cases o with
  | none => cases h; rfl
  | some v =>
  cases p with
  | none => cases h; rfl
  | some w =>
    simp only [jnM] at h
    split at h
    · cases h; rfl
    · split at h
      · cases h; rfl
      · split at h
        · cases h; rfl
        · cases h; exact absurd rfl he
set_option maxRecDepth 100000 in
set_option maxHeartbeats 6400000 in
theorem mj_few1 {a1 b1 a2 b2 a3 b3 : Option Addr} {n1 c1 m1 d1 n2 c2 m2 d2 n3 c3 m3 d3 : Nat} {l1 l2 l3 : List Int} {es1 es2 es3 : List ByteArray} {o1 o2 o3 : Option Ar} (W : World) (hW : WT W) (h1 : Av W a1 n1 c1 b1 m1 d1 l1 es1 o1) (h2 : Av W a2 n2 c2 b2 m2 d2 l2 es2 o2) (h3 : Av W a3 n3 c3 b3 m3 d3 l3 es3 o3) (f1 : fewB l1 es1 = false) :
    Calls Tryd.prog 6 #[.agg #[.slice a1 n1 c1, .slice b1 m1 d1], .agg #[.slice a2 n2 c2, .slice b2 m2 d2], .agg #[.slice a3 n3 c3, .slice b3 m3 d3]] W (TrueEnd W) := by
  have KW := Lib.hid (fun w (hb : Below W.heap.size W w) => hW.below hb)
  have KS := Lib.hid (fun w (hb : Below W.heap.size W w) => mshown_is w (hW.below hb))
  have KF1 := fun w (hb : Below W.heap.size W w) => Few_is (c := c1) (d := d1) w (h1.v.below hb) h1.z
  rw [f1] at KF1
  replace KF1 := Lib.hid KF1
  have h := lw_three W h1 h2 h3
  clear hW h1 h2 h3 f1
  go_enter Tryd.func6, Tryd.ntmps6
  go_wp2_with fail
  with_reducible refine (lw h (KS.out _ h.out.2.2.2.2.2.2)).mono ?_
  clear h
  rintro e w ⟨rfl, h⟩
  have xa := h.out.2.2.2.2.1.c0
  have ya := h.out.2.2.2.2.1.c1
  go_wp2_with fail
  with_reducible refine (lw h (KF1.out _ h.out.2.2.2.2.2.2)).mono ?_
  clear h xa ya
  rintro e w ⟨rfl, h⟩
  go_wp2_with fail
  go_ret
  exact ⟨rfl, h.out.2.2.2.2.2.2⟩
set_option maxRecDepth 100000 in
set_option maxHeartbeats 6400000 in
theorem mj_few2 {a1 b1 a2 b2 a3 b3 : Option Addr} {n1 c1 m1 d1 n2 c2 m2 d2 n3 c3 m3 d3 : Nat} {l1 l2 l3 : List Int} {es1 es2 es3 : List ByteArray} {o1 o2 o3 : Option Ar} (W : World) (hW : WT W) (h1 : Av W a1 n1 c1 b1 m1 d1 l1 es1 o1) (h2 : Av W a2 n2 c2 b2 m2 d2 l2 es2 o2) (h3 : Av W a3 n3 c3 b3 m3 d3 l3 es3 o3) (f1 : fewB l1 es1 = true) (f2 : fewB l2 es2 = false) :
    Calls Tryd.prog 6 #[.agg #[.slice a1 n1 c1, .slice b1 m1 d1], .agg #[.slice a2 n2 c2, .slice b2 m2 d2], .agg #[.slice a3 n3 c3, .slice b3 m3 d3]] W (TrueEnd W) := by
  have KW := Lib.hid (fun w (hb : Below W.heap.size W w) => hW.below hb)
  have KS := Lib.hid (fun w (hb : Below W.heap.size W w) => mshown_is w (hW.below hb))
  have KF1 := fun w (hb : Below W.heap.size W w) => Few_is (c := c1) (d := d1) w (h1.v.below hb) h1.z
  rw [f1] at KF1
  replace KF1 := Lib.hid KF1
  have KF2 := fun w (hb : Below W.heap.size W w) => Few_is (c := c2) (d := d2) w (h2.v.below hb) h2.z
  rw [f2] at KF2
  replace KF2 := Lib.hid KF2
  have h := lw_three W h1 h2 h3
  clear hW h1 h2 h3 f1 f2
  go_enter Tryd.func6, Tryd.ntmps6
  go_wp2_with fail
  with_reducible refine (lw h (KS.out _ h.out.2.2.2.2.2.2)).mono ?_
  clear h
  rintro e w ⟨rfl, h⟩
  have xa := h.out.2.2.2.2.1.c0
  have ya := h.out.2.2.2.2.1.c1
  go_wp2_with fail
  with_reducible refine (lw h (KF1.out _ h.out.2.2.2.2.2.2)).mono ?_
  clear h xa ya
  rintro e w ⟨rfl, h⟩
  have xb := h.out.2.2.1.c0
  have yb := h.out.2.2.1.c1
  go_wp2_with fail
  with_reducible refine (lw h (KF2.out _ h.out.2.2.2.2.2.2)).mono ?_
  clear h xb yb
  rintro e w ⟨rfl, h⟩
  go_wp2_with fail
  go_ret
  exact ⟨rfl, h.out.2.2.2.2.2.2⟩
set_option maxRecDepth 100000 in
set_option maxHeartbeats 6400000 in
theorem mj_few3 {a1 b1 a2 b2 a3 b3 : Option Addr} {n1 c1 m1 d1 n2 c2 m2 d2 n3 c3 m3 d3 : Nat} {l1 l2 l3 : List Int} {es1 es2 es3 : List ByteArray} {o1 o2 o3 : Option Ar} (W : World) (hW : WT W) (h1 : Av W a1 n1 c1 b1 m1 d1 l1 es1 o1) (h2 : Av W a2 n2 c2 b2 m2 d2 l2 es2 o2) (h3 : Av W a3 n3 c3 b3 m3 d3 l3 es3 o3) (f1 : fewB l1 es1 = true) (f2 : fewB l2 es2 = true) (f3 : fewB l3 es3 = false) :
    Calls Tryd.prog 6 #[.agg #[.slice a1 n1 c1, .slice b1 m1 d1], .agg #[.slice a2 n2 c2, .slice b2 m2 d2], .agg #[.slice a3 n3 c3, .slice b3 m3 d3]] W (TrueEnd W) := by
  have KW := Lib.hid (fun w (hb : Below W.heap.size W w) => hW.below hb)
  have KS := Lib.hid (fun w (hb : Below W.heap.size W w) => mshown_is w (hW.below hb))
  have KF1 := fun w (hb : Below W.heap.size W w) => Few_is (c := c1) (d := d1) w (h1.v.below hb) h1.z
  rw [f1] at KF1
  replace KF1 := Lib.hid KF1
  have KF2 := fun w (hb : Below W.heap.size W w) => Few_is (c := c2) (d := d2) w (h2.v.below hb) h2.z
  rw [f2] at KF2
  replace KF2 := Lib.hid KF2
  have KF3 := fun w (hb : Below W.heap.size W w) => Few_is (c := c3) (d := d3) w (h3.v.below hb) h3.z
  rw [f3] at KF3
  replace KF3 := Lib.hid KF3
  have h := lw_three W h1 h2 h3
  clear hW h1 h2 h3 f1 f2 f3
  go_enter Tryd.func6, Tryd.ntmps6
  go_wp2_with fail
  with_reducible refine (lw h (KS.out _ h.out.2.2.2.2.2.2)).mono ?_
  clear h
  rintro e w ⟨rfl, h⟩
  have xa := h.out.2.2.2.2.1.c0
  have ya := h.out.2.2.2.2.1.c1
  go_wp2_with fail
  with_reducible refine (lw h (KF1.out _ h.out.2.2.2.2.2.2)).mono ?_
  clear h xa ya
  rintro e w ⟨rfl, h⟩
  have xb := h.out.2.2.1.c0
  have yb := h.out.2.2.1.c1
  go_wp2_with fail
  with_reducible refine (lw h (KF2.out _ h.out.2.2.2.2.2.2)).mono ?_
  clear h xb yb
  rintro e w ⟨rfl, h⟩
  have xc := h.out.1.c0
  have yc := h.out.1.c1
  go_wp2_with fail
  with_reducible refine (lw h (KF3.out _ h.out.2.2.2.2.2.2)).mono ?_
  clear h xc yc
  rintro e w ⟨rfl, h⟩
  go_wp2_with fail
  go_ret
  exact ⟨rfl, h.out.2.2.2.2.2.2⟩
set_option maxRecDepth 100000 in
set_option maxHeartbeats 6400000 in
theorem mj_1 {a1 b1 a2 b2 a3 b3 : Option Addr} {n1 c1 m1 d1 n2 c2 m2 d2 n3 c3 m3 d3 : Nat} {l1 l2 l3 : List Int} {es1 es2 es3 : List ByteArray} {o1 o2 o3 x y p q : Option Ar} {e1 e2 e3 e4 : Int} (W : World) (hW : WT W) (h1 : Av W a1 n1 c1 b1 m1 d1 l1 es1 o1) (h2 : Av W a2 n2 c2 b2 m2 d2 l2 es2 o2) (h3 : Av W a3 n3 c3 b3 m3 d3 l3 es3 o3) (f1 : fewB l1 es1 = true) (f2 : fewB l2 es2 = true) (f3 : fewB l3 es3 = true) (q1 : jnM o1 o2 = (x, e1)) (q2 : jnM o2 o3 = (y, e2)) (q3 : jnM x o3 = (p, e3)) (q4 : jnM o1 y = (q, e4)) (n1' : e1 ≠ 0) :
    Calls Tryd.prog 6 #[.agg #[.slice a1 n1 c1, .slice b1 m1 d1], .agg #[.slice a2 n2 c2, .slice b2 m2 d2], .agg #[.slice a3 n3 c3, .slice b3 m3 d3]] W (TrueEnd W) := by
  have KW := Lib.hid (fun w (hb : Below W.heap.size W w) => hW.below hb)
  have KS := Lib.hid (fun w (hb : Below W.heap.size W w) => mshown_is w (hW.below hb))
  have KF1 := fun w (hb : Below W.heap.size W w) => Few_is (c := c1) (d := d1) w (h1.v.below hb) h1.z
  rw [f1] at KF1
  replace KF1 := Lib.hid KF1
  have KF2 := fun w (hb : Below W.heap.size W w) => Few_is (c := c2) (d := d2) w (h2.v.below hb) h2.z
  rw [f2] at KF2
  replace KF2 := Lib.hid KF2
  have KF3 := fun w (hb : Below W.heap.size W w) => Few_is (c := c3) (d := d3) w (h3.v.below hb) h3.z
  rw [f3] at KF3
  replace KF3 := Lib.hid KF3
  have Q1 := Lib.hid q1
  have Q2 := Lib.hid q2
  have Q3 := Lib.hid q3
  have Q4 := Lib.hid q4
  have hx := jn_none q1 n1'
  have g1 : (e1 != 0) = true := by simpa using n1'
  have k1 : (e1 == 0) = false := beq_eq_false_iff_ne.2 n1'
  have HXN := Lib.hid (show (TS x).1 = [] ∧ (TS x).2 = [] by rw [hx]; exact ⟨rfl, rfl⟩)
  have h := lw_three W h1 h2 h3
  clear hW h1 h2 h3 f1 f2 f3 q1 q2 q3 q4 hx n1'
  go_enter Tryd.func6, Tryd.ntmps6
  go_wp2_with fail
  with_reducible refine (lw h (KS.out _ h.out.2.2.2.2.2.2)).mono ?_
  clear h
  rintro e w ⟨rfl, h⟩
  have xa := h.out.2.2.2.2.1.c0
  have ya := h.out.2.2.2.2.1.c1
  go_wp2_with fail
  with_reducible refine (lw h (KF1.out _ h.out.2.2.2.2.2.2)).mono ?_
  clear h xa ya
  rintro e w ⟨rfl, h⟩
  have xb := h.out.2.2.1.c0
  have yb := h.out.2.2.1.c1
  go_wp2_with fail
  with_reducible refine (lw h (KF2.out _ h.out.2.2.2.2.2.2)).mono ?_
  clear h xb yb
  rintro e w ⟨rfl, h⟩
  have xc := h.out.1.c0
  have yc := h.out.1.c1
  go_wp2_with fail
  with_reducible refine (lw h (KF3.out _ h.out.2.2.2.2.2.2)).mono ?_
  clear h xc yc
  rintro e w ⟨rfl, h⟩
  have xa := h.out.2.2.2.2.1.c0
  have ya := h.out.2.2.2.2.1.c1
  have xb := h.out.2.2.1.c0
  have yb := h.out.2.2.1.c1
  go_wp2_with fail
  have HX := MJoin_is h.out.2.2.2.2.2.1 h.out.2.2.2.1
  rw [Q1.out] at HX
  with_reducible refine (lw_M h HX).mono ?_
  clear h HX xa ya xb yb
  rintro e wx ⟨ax, nx, cx, bx, mx, dx, rfl, h⟩
  have xb := h.out.2.2.2.2.1.c0
  have yb := h.out.2.2.2.2.1.c1
  have xc := h.out.2.2.1.c0
  have yc := h.out.2.2.1.c1
  go_wp2_with fail
  have HX := MJoin_is h.out.2.2.2.2.2.1 h.out.2.2.2.1
  rw [Q2.out] at HX
  with_reducible refine (lw_M h HX).mono ?_
  clear h HX xb yb xc yc
  rintro e we ⟨ae, ne, ce, be, me, de, rfl, h⟩
  have xx := h.out.2.2.1.c0
  have yx := h.out.2.2.1.c1
  have xc := h.out.2.2.2.2.1.c0
  have yc := h.out.2.2.2.2.1.c1
  go_wp2_with fail
  have HX := MJoin_is h.out.2.2.2.1 h.out.2.2.2.2.2.1
  rw [Q3.out] at HX
  with_reducible refine (lw_M h HX).mono ?_
  clear h HX xx yx xc yc
  rintro e wp ⟨ap, np, cp, bp, mp, dp, rfl, h⟩
  have xa := h.out.2.2.2.2.2.2.2.2.2.2.1.c0
  have ya := h.out.2.2.2.2.2.2.2.2.2.2.1.c1
  have xe := h.out.2.2.1.c0
  have ye := h.out.2.2.1.c1
  go_wp2_with fail
  have HX := MJoin_is h.out.2.2.2.2.2.2.2.2.2.2.2.1 h.out.2.2.2.1
  rw [Q4.out] at HX
  with_reducible refine (lw_M h HX).mono ?_
  clear h HX xa ya xe ye
  rintro e wq ⟨aq, nq, cq, bq, mq, dq, rfl, h⟩
  have xx := h.out.2.2.2.2.2.2.1.c0
  have yx := h.out.2.2.2.2.2.2.1.c1
  go_wp2_with fail
  with_reducible refine (lw h (VSame_av h.out.2.2.2.2.2.2.2.1.v (Vl.none_ _) h.out.2.2.2.2.2.2.2.1.nts (by omega) HXN.out.1 HXN.out.2)).mono ?_
  clear h xx yx
  rintro e w ⟨rfl, h⟩
  go_wp2_with fail
  go_ret
  exact ⟨rfl, h.out.2.2.2.2.2.2.2.2.2.2.2.2.2.2⟩
set_option maxRecDepth 100000 in
set_option maxHeartbeats 6400000 in
theorem mj_2 {a1 b1 a2 b2 a3 b3 : Option Addr} {n1 c1 m1 d1 n2 c2 m2 d2 n3 c3 m3 d3 : Nat} {l1 l2 l3 : List Int} {es1 es2 es3 : List ByteArray} {o1 o2 o3 x y p q : Option Ar} {e1 e2 e3 e4 : Int} (W : World) (hW : WT W) (h1 : Av W a1 n1 c1 b1 m1 d1 l1 es1 o1) (h2 : Av W a2 n2 c2 b2 m2 d2 l2 es2 o2) (h3 : Av W a3 n3 c3 b3 m3 d3 l3 es3 o3) (f1 : fewB l1 es1 = true) (f2 : fewB l2 es2 = true) (f3 : fewB l3 es3 = true) (q1 : jnM o1 o2 = (x, 0)) (q2 : jnM o2 o3 = (y, e2)) (q3 : jnM x o3 = (p, e3)) (q4 : jnM o1 y = (q, e4)) (n2' : e2 ≠ 0) :
    Calls Tryd.prog 6 #[.agg #[.slice a1 n1 c1, .slice b1 m1 d1], .agg #[.slice a2 n2 c2, .slice b2 m2 d2], .agg #[.slice a3 n3 c3, .slice b3 m3 d3]] W (TrueEnd W) := by
  have KW := Lib.hid (fun w (hb : Below W.heap.size W w) => hW.below hb)
  have KS := Lib.hid (fun w (hb : Below W.heap.size W w) => mshown_is w (hW.below hb))
  have KF1 := fun w (hb : Below W.heap.size W w) => Few_is (c := c1) (d := d1) w (h1.v.below hb) h1.z
  rw [f1] at KF1
  replace KF1 := Lib.hid KF1
  have KF2 := fun w (hb : Below W.heap.size W w) => Few_is (c := c2) (d := d2) w (h2.v.below hb) h2.z
  rw [f2] at KF2
  replace KF2 := Lib.hid KF2
  have KF3 := fun w (hb : Below W.heap.size W w) => Few_is (c := c3) (d := d3) w (h3.v.below hb) h3.z
  rw [f3] at KF3
  replace KF3 := Lib.hid KF3
  have Q1 := Lib.hid q1
  have Q2 := Lib.hid q2
  have Q3 := Lib.hid q3
  have Q4 := Lib.hid q4
  have g2 : (e2 != 0) = true := by simpa using n2'
  have k2 : (e2 == 0) = false := beq_eq_false_iff_ne.2 n2'
  have h := lw_three W h1 h2 h3
  clear hW h1 h2 h3 f1 f2 f3 q1 q2 q3 q4 n2'
  go_enter Tryd.func6, Tryd.ntmps6
  go_wp2_with fail
  with_reducible refine (lw h (KS.out _ h.out.2.2.2.2.2.2)).mono ?_
  clear h
  rintro e w ⟨rfl, h⟩
  have xa := h.out.2.2.2.2.1.c0
  have ya := h.out.2.2.2.2.1.c1
  go_wp2_with fail
  with_reducible refine (lw h (KF1.out _ h.out.2.2.2.2.2.2)).mono ?_
  clear h xa ya
  rintro e w ⟨rfl, h⟩
  have xb := h.out.2.2.1.c0
  have yb := h.out.2.2.1.c1
  go_wp2_with fail
  with_reducible refine (lw h (KF2.out _ h.out.2.2.2.2.2.2)).mono ?_
  clear h xb yb
  rintro e w ⟨rfl, h⟩
  have xc := h.out.1.c0
  have yc := h.out.1.c1
  go_wp2_with fail
  with_reducible refine (lw h (KF3.out _ h.out.2.2.2.2.2.2)).mono ?_
  clear h xc yc
  rintro e w ⟨rfl, h⟩
  have xa := h.out.2.2.2.2.1.c0
  have ya := h.out.2.2.2.2.1.c1
  have xb := h.out.2.2.1.c0
  have yb := h.out.2.2.1.c1
  go_wp2_with fail
  have HX := MJoin_is h.out.2.2.2.2.2.1 h.out.2.2.2.1
  rw [Q1.out] at HX
  with_reducible refine (lw_M h HX).mono ?_
  clear h HX xa ya xb yb
  rintro e wx ⟨ax, nx, cx, bx, mx, dx, rfl, h⟩
  have xb := h.out.2.2.2.2.1.c0
  have yb := h.out.2.2.2.2.1.c1
  have xc := h.out.2.2.1.c0
  have yc := h.out.2.2.1.c1
  go_wp2_with fail
  have HX := MJoin_is h.out.2.2.2.2.2.1 h.out.2.2.2.1
  rw [Q2.out] at HX
  with_reducible refine (lw_M h HX).mono ?_
  clear h HX xb yb xc yc
  rintro e we ⟨ae, ne, ce, be, me, de, rfl, h⟩
  have xx := h.out.2.2.1.c0
  have yx := h.out.2.2.1.c1
  have xc := h.out.2.2.2.2.1.c0
  have yc := h.out.2.2.2.2.1.c1
  go_wp2_with fail
  have HX := MJoin_is h.out.2.2.2.1 h.out.2.2.2.2.2.1
  rw [Q3.out] at HX
  with_reducible refine (lw_M h HX).mono ?_
  clear h HX xx yx xc yc
  rintro e wp ⟨ap, np, cp, bp, mp, dp, rfl, h⟩
  have xa := h.out.2.2.2.2.2.2.2.2.2.2.1.c0
  have ya := h.out.2.2.2.2.2.2.2.2.2.2.1.c1
  have xe := h.out.2.2.1.c0
  have ye := h.out.2.2.1.c1
  go_wp2_with fail
  have HX := MJoin_is h.out.2.2.2.2.2.2.2.2.2.2.2.1 h.out.2.2.2.1
  rw [Q4.out] at HX
  with_reducible refine (lw_M h HX).mono ?_
  clear h HX xa ya xe ye
  rintro e wq ⟨aq, nq, cq, bq, mq, dq, rfl, h⟩
  go_wp2_with fail
  go_ret
  exact ⟨rfl, h.out.2.2.2.2.2.2.2.2.2.2.2.2.2.2⟩
set_option maxRecDepth 100000 in
set_option maxHeartbeats 6400000 in
theorem mj_3 {a1 b1 a2 b2 a3 b3 : Option Addr} {n1 c1 m1 d1 n2 c2 m2 d2 n3 c3 m3 d3 : Nat} {l1 l2 l3 : List Int} {es1 es2 es3 : List ByteArray} {o1 o2 o3 x y p q : Option Ar} {e1 e2 e3 e4 : Int} (W : World) (hW : WT W) (h1 : Av W a1 n1 c1 b1 m1 d1 l1 es1 o1) (h2 : Av W a2 n2 c2 b2 m2 d2 l2 es2 o2) (h3 : Av W a3 n3 c3 b3 m3 d3 l3 es3 o3) (f1 : fewB l1 es1 = true) (f2 : fewB l2 es2 = true) (f3 : fewB l3 es3 = true) (q1 : jnM o1 o2 = (x, 0)) (q2 : jnM o2 o3 = (y, 0)) (q3 : jnM x o3 = (p, e3)) (q4 : jnM o1 y = (q, e4)) (n3' : e3 ≠ 0) :
    Calls Tryd.prog 6 #[.agg #[.slice a1 n1 c1, .slice b1 m1 d1], .agg #[.slice a2 n2 c2, .slice b2 m2 d2], .agg #[.slice a3 n3 c3, .slice b3 m3 d3]] W (TrueEnd W) := by
  have KW := Lib.hid (fun w (hb : Below W.heap.size W w) => hW.below hb)
  have KS := Lib.hid (fun w (hb : Below W.heap.size W w) => mshown_is w (hW.below hb))
  have KF1 := fun w (hb : Below W.heap.size W w) => Few_is (c := c1) (d := d1) w (h1.v.below hb) h1.z
  rw [f1] at KF1
  replace KF1 := Lib.hid KF1
  have KF2 := fun w (hb : Below W.heap.size W w) => Few_is (c := c2) (d := d2) w (h2.v.below hb) h2.z
  rw [f2] at KF2
  replace KF2 := Lib.hid KF2
  have KF3 := fun w (hb : Below W.heap.size W w) => Few_is (c := c3) (d := d3) w (h3.v.below hb) h3.z
  rw [f3] at KF3
  replace KF3 := Lib.hid KF3
  have Q1 := Lib.hid q1
  have Q2 := Lib.hid q2
  have Q3 := Lib.hid q3
  have Q4 := Lib.hid q4
  have g3 : (e3 != 0) = true := by simpa using n3'
  have k3 : (e3 == 0) = false := beq_eq_false_iff_ne.2 n3'
  have h := lw_three W h1 h2 h3
  clear hW h1 h2 h3 f1 f2 f3 q1 q2 q3 q4 n3'
  go_enter Tryd.func6, Tryd.ntmps6
  go_wp2_with fail
  with_reducible refine (lw h (KS.out _ h.out.2.2.2.2.2.2)).mono ?_
  clear h
  rintro e w ⟨rfl, h⟩
  have xa := h.out.2.2.2.2.1.c0
  have ya := h.out.2.2.2.2.1.c1
  go_wp2_with fail
  with_reducible refine (lw h (KF1.out _ h.out.2.2.2.2.2.2)).mono ?_
  clear h xa ya
  rintro e w ⟨rfl, h⟩
  have xb := h.out.2.2.1.c0
  have yb := h.out.2.2.1.c1
  go_wp2_with fail
  with_reducible refine (lw h (KF2.out _ h.out.2.2.2.2.2.2)).mono ?_
  clear h xb yb
  rintro e w ⟨rfl, h⟩
  have xc := h.out.1.c0
  have yc := h.out.1.c1
  go_wp2_with fail
  with_reducible refine (lw h (KF3.out _ h.out.2.2.2.2.2.2)).mono ?_
  clear h xc yc
  rintro e w ⟨rfl, h⟩
  have xa := h.out.2.2.2.2.1.c0
  have ya := h.out.2.2.2.2.1.c1
  have xb := h.out.2.2.1.c0
  have yb := h.out.2.2.1.c1
  go_wp2_with fail
  have HX := MJoin_is h.out.2.2.2.2.2.1 h.out.2.2.2.1
  rw [Q1.out] at HX
  with_reducible refine (lw_M h HX).mono ?_
  clear h HX xa ya xb yb
  rintro e wx ⟨ax, nx, cx, bx, mx, dx, rfl, h⟩
  have xb := h.out.2.2.2.2.1.c0
  have yb := h.out.2.2.2.2.1.c1
  have xc := h.out.2.2.1.c0
  have yc := h.out.2.2.1.c1
  go_wp2_with fail
  have HX := MJoin_is h.out.2.2.2.2.2.1 h.out.2.2.2.1
  rw [Q2.out] at HX
  with_reducible refine (lw_M h HX).mono ?_
  clear h HX xb yb xc yc
  rintro e we ⟨ae, ne, ce, be, me, de, rfl, h⟩
  have xx := h.out.2.2.1.c0
  have yx := h.out.2.2.1.c1
  have xc := h.out.2.2.2.2.1.c0
  have yc := h.out.2.2.2.2.1.c1
  go_wp2_with fail
  have HX := MJoin_is h.out.2.2.2.1 h.out.2.2.2.2.2.1
  rw [Q3.out] at HX
  with_reducible refine (lw_M h HX).mono ?_
  clear h HX xx yx xc yc
  rintro e wp ⟨ap, np, cp, bp, mp, dp, rfl, h⟩
  have xa := h.out.2.2.2.2.2.2.2.2.2.2.1.c0
  have ya := h.out.2.2.2.2.2.2.2.2.2.2.1.c1
  have xe := h.out.2.2.1.c0
  have ye := h.out.2.2.1.c1
  go_wp2_with fail
  have HX := MJoin_is h.out.2.2.2.2.2.2.2.2.2.2.2.1 h.out.2.2.2.1
  rw [Q4.out] at HX
  with_reducible refine (lw_M h HX).mono ?_
  clear h HX xa ya xe ye
  rintro e wq ⟨aq, nq, cq, bq, mq, dq, rfl, h⟩
  go_wp2_with fail
  go_ret
  exact ⟨rfl, h.out.2.2.2.2.2.2.2.2.2.2.2.2.2.2⟩
set_option maxRecDepth 100000 in
set_option maxHeartbeats 6400000 in
theorem mj_4 {a1 b1 a2 b2 a3 b3 : Option Addr} {n1 c1 m1 d1 n2 c2 m2 d2 n3 c3 m3 d3 : Nat} {l1 l2 l3 : List Int} {es1 es2 es3 : List ByteArray} {o1 o2 o3 x y p q : Option Ar} {e1 e2 e3 e4 : Int} (W : World) (hW : WT W) (h1 : Av W a1 n1 c1 b1 m1 d1 l1 es1 o1) (h2 : Av W a2 n2 c2 b2 m2 d2 l2 es2 o2) (h3 : Av W a3 n3 c3 b3 m3 d3 l3 es3 o3) (f1 : fewB l1 es1 = true) (f2 : fewB l2 es2 = true) (f3 : fewB l3 es3 = true) (q1 : jnM o1 o2 = (x, 0)) (q2 : jnM o2 o3 = (y, 0)) (q3 : jnM x o3 = (p, 0)) (q4 : jnM o1 y = (q, e4)) (n4' : e4 ≠ 0) :
    Calls Tryd.prog 6 #[.agg #[.slice a1 n1 c1, .slice b1 m1 d1], .agg #[.slice a2 n2 c2, .slice b2 m2 d2], .agg #[.slice a3 n3 c3, .slice b3 m3 d3]] W (TrueEnd W) := by
  have KW := Lib.hid (fun w (hb : Below W.heap.size W w) => hW.below hb)
  have KS := Lib.hid (fun w (hb : Below W.heap.size W w) => mshown_is w (hW.below hb))
  have KF1 := fun w (hb : Below W.heap.size W w) => Few_is (c := c1) (d := d1) w (h1.v.below hb) h1.z
  rw [f1] at KF1
  replace KF1 := Lib.hid KF1
  have KF2 := fun w (hb : Below W.heap.size W w) => Few_is (c := c2) (d := d2) w (h2.v.below hb) h2.z
  rw [f2] at KF2
  replace KF2 := Lib.hid KF2
  have KF3 := fun w (hb : Below W.heap.size W w) => Few_is (c := c3) (d := d3) w (h3.v.below hb) h3.z
  rw [f3] at KF3
  replace KF3 := Lib.hid KF3
  have Q1 := Lib.hid q1
  have Q2 := Lib.hid q2
  have Q3 := Lib.hid q3
  have Q4 := Lib.hid q4
  have g4 : (e4 != 0) = true := by simpa using n4'
  have k4 : (e4 == 0) = false := beq_eq_false_iff_ne.2 n4'
  have h := lw_three W h1 h2 h3
  clear hW h1 h2 h3 f1 f2 f3 q1 q2 q3 q4 n4'
  go_enter Tryd.func6, Tryd.ntmps6
  go_wp2_with fail
  with_reducible refine (lw h (KS.out _ h.out.2.2.2.2.2.2)).mono ?_
  clear h
  rintro e w ⟨rfl, h⟩
  have xa := h.out.2.2.2.2.1.c0
  have ya := h.out.2.2.2.2.1.c1
  go_wp2_with fail
  with_reducible refine (lw h (KF1.out _ h.out.2.2.2.2.2.2)).mono ?_
  clear h xa ya
  rintro e w ⟨rfl, h⟩
  have xb := h.out.2.2.1.c0
  have yb := h.out.2.2.1.c1
  go_wp2_with fail
  with_reducible refine (lw h (KF2.out _ h.out.2.2.2.2.2.2)).mono ?_
  clear h xb yb
  rintro e w ⟨rfl, h⟩
  have xc := h.out.1.c0
  have yc := h.out.1.c1
  go_wp2_with fail
  with_reducible refine (lw h (KF3.out _ h.out.2.2.2.2.2.2)).mono ?_
  clear h xc yc
  rintro e w ⟨rfl, h⟩
  have xa := h.out.2.2.2.2.1.c0
  have ya := h.out.2.2.2.2.1.c1
  have xb := h.out.2.2.1.c0
  have yb := h.out.2.2.1.c1
  go_wp2_with fail
  have HX := MJoin_is h.out.2.2.2.2.2.1 h.out.2.2.2.1
  rw [Q1.out] at HX
  with_reducible refine (lw_M h HX).mono ?_
  clear h HX xa ya xb yb
  rintro e wx ⟨ax, nx, cx, bx, mx, dx, rfl, h⟩
  have xb := h.out.2.2.2.2.1.c0
  have yb := h.out.2.2.2.2.1.c1
  have xc := h.out.2.2.1.c0
  have yc := h.out.2.2.1.c1
  go_wp2_with fail
  have HX := MJoin_is h.out.2.2.2.2.2.1 h.out.2.2.2.1
  rw [Q2.out] at HX
  with_reducible refine (lw_M h HX).mono ?_
  clear h HX xb yb xc yc
  rintro e we ⟨ae, ne, ce, be, me, de, rfl, h⟩
  have xx := h.out.2.2.1.c0
  have yx := h.out.2.2.1.c1
  have xc := h.out.2.2.2.2.1.c0
  have yc := h.out.2.2.2.2.1.c1
  go_wp2_with fail
  have HX := MJoin_is h.out.2.2.2.1 h.out.2.2.2.2.2.1
  rw [Q3.out] at HX
  with_reducible refine (lw_M h HX).mono ?_
  clear h HX xx yx xc yc
  rintro e wp ⟨ap, np, cp, bp, mp, dp, rfl, h⟩
  have xa := h.out.2.2.2.2.2.2.2.2.2.2.1.c0
  have ya := h.out.2.2.2.2.2.2.2.2.2.2.1.c1
  have xe := h.out.2.2.1.c0
  have ye := h.out.2.2.1.c1
  go_wp2_with fail
  have HX := MJoin_is h.out.2.2.2.2.2.2.2.2.2.2.2.1 h.out.2.2.2.1
  rw [Q4.out] at HX
  with_reducible refine (lw_M h HX).mono ?_
  clear h HX xa ya xe ye
  rintro e wq ⟨aq, nq, cq, bq, mq, dq, rfl, h⟩
  go_wp2_with fail
  go_ret
  exact ⟨rfl, h.out.2.2.2.2.2.2.2.2.2.2.2.2.2.2⟩
set_option maxRecDepth 100000 in
set_option maxHeartbeats 6400000 in
theorem mj_5 {a1 b1 a2 b2 a3 b3 : Option Addr} {n1 c1 m1 d1 n2 c2 m2 d2 n3 c3 m3 d3 : Nat} {l1 l2 l3 : List Int} {es1 es2 es3 : List ByteArray} {u v w x y p : Ar} (W : World) (hW : WT W) (h1 : Av W a1 n1 c1 b1 m1 d1 l1 es1 (some u)) (h2 : Av W a2 n2 c2 b2 m2 d2 l2 es2 (some v)) (h3 : Av W a3 n3 c3 b3 m3 d3 l3 es3 (some w)) (f1 : fewB l1 es1 = true) (f2 : fewB l2 es2 = true) (f3 : fewB l3 es3 = true) (q1 : jnM (some u) (some v) = (some x, 0)) (q2 : jnM (some v) (some w) = (some y, 0)) (q3 : jnM (some x) (some w) = (some p, 0)) (q4 : jnM (some u) (some y) = (some p, 0)) (hs : maM p.1 = maM u.1 + maM v.1 + maM w.1) :
    Calls Tryd.prog 6 #[.agg #[.slice a1 n1 c1, .slice b1 m1 d1], .agg #[.slice a2 n2 c2, .slice b2 m2 d2], .agg #[.slice a3 n3 c3, .slice b3 m3 d3]] W (TrueEnd W) := by
  have KW := Lib.hid (fun w (hb : Below W.heap.size W w) => hW.below hb)
  have KS := Lib.hid (fun w (hb : Below W.heap.size W w) => mshown_is w (hW.below hb))
  have KF1 := fun w (hb : Below W.heap.size W w) => Few_is (c := c1) (d := d1) w (h1.v.below hb) h1.z
  rw [f1] at KF1
  replace KF1 := Lib.hid KF1
  have KF2 := fun w (hb : Below W.heap.size W w) => Few_is (c := c2) (d := d2) w (h2.v.below hb) h2.z
  rw [f2] at KF2
  replace KF2 := Lib.hid KF2
  have KF3 := fun w (hb : Below W.heap.size W w) => Few_is (c := c3) (d := d3) w (h3.v.below hb) h3.z
  rw [f3] at KF3
  replace KF3 := Lib.hid KF3
  have Q1 := Lib.hid q1
  have Q2 := Lib.hid q2
  have Q3 := Lib.hid q3
  have Q4 := Lib.hid q4
  have HS := Lib.hid (show itV p.1 = itV l1 + itV l2 + itV l3 by rw [← h1.fst, ← h2.fst, ← h3.fst]; exact hs)
  have h := lw_three W h1 h2 h3
  clear hW h1 h2 h3 f1 f2 f3 q1 q2 q3 q4 hs
  go_enter Tryd.func6, Tryd.ntmps6
  go_wp2_with fail
  with_reducible refine (lw h (KS.out _ h.out.2.2.2.2.2.2)).mono ?_
  clear h
  rintro e w ⟨rfl, h⟩
  have xa := h.out.2.2.2.2.1.c0
  have ya := h.out.2.2.2.2.1.c1
  go_wp2_with fail
  with_reducible refine (lw h (KF1.out _ h.out.2.2.2.2.2.2)).mono ?_
  clear h xa ya
  rintro e w ⟨rfl, h⟩
  have xb := h.out.2.2.1.c0
  have yb := h.out.2.2.1.c1
  go_wp2_with fail
  with_reducible refine (lw h (KF2.out _ h.out.2.2.2.2.2.2)).mono ?_
  clear h xb yb
  rintro e w ⟨rfl, h⟩
  have xc := h.out.1.c0
  have yc := h.out.1.c1
  go_wp2_with fail
  with_reducible refine (lw h (KF3.out _ h.out.2.2.2.2.2.2)).mono ?_
  clear h xc yc
  rintro e w ⟨rfl, h⟩
  have xa := h.out.2.2.2.2.1.c0
  have ya := h.out.2.2.2.2.1.c1
  have xb := h.out.2.2.1.c0
  have yb := h.out.2.2.1.c1
  go_wp2_with fail
  have HX := MJoin_is h.out.2.2.2.2.2.1 h.out.2.2.2.1
  rw [Q1.out] at HX
  with_reducible refine (lw_M h HX).mono ?_
  clear h HX xa ya xb yb
  rintro e wx ⟨ax, nx, cx, bx, mx, dx, rfl, h⟩
  have xb := h.out.2.2.2.2.1.c0
  have yb := h.out.2.2.2.2.1.c1
  have xc := h.out.2.2.1.c0
  have yc := h.out.2.2.1.c1
  go_wp2_with fail
  have HX := MJoin_is h.out.2.2.2.2.2.1 h.out.2.2.2.1
  rw [Q2.out] at HX
  with_reducible refine (lw_M h HX).mono ?_
  clear h HX xb yb xc yc
  rintro e we ⟨ae, ne, ce, be, me, de, rfl, h⟩
  have xx := h.out.2.2.1.c0
  have yx := h.out.2.2.1.c1
  have xc := h.out.2.2.2.2.1.c0
  have yc := h.out.2.2.2.2.1.c1
  go_wp2_with fail
  have HX := MJoin_is h.out.2.2.2.1 h.out.2.2.2.2.2.1
  rw [Q3.out] at HX
  with_reducible refine (lw_M h HX).mono ?_
  clear h HX xx yx xc yc
  rintro e wp ⟨ap, np, cp, bp, mp, dp, rfl, h⟩
  have xa := h.out.2.2.2.2.2.2.2.2.2.2.1.c0
  have ya := h.out.2.2.2.2.2.2.2.2.2.2.1.c1
  have xe := h.out.2.2.1.c0
  have ye := h.out.2.2.1.c1
  go_wp2_with fail
  have HX := MJoin_is h.out.2.2.2.2.2.2.2.2.2.2.2.1 h.out.2.2.2.1
  rw [Q4.out] at HX
  with_reducible refine (lw_M h HX).mono ?_
  clear h HX xa ya xe ye
  rintro e wq ⟨aq, nq, cq, bq, mq, dq, rfl, h⟩
  go_upto_region 8 with fail
  generalize hwz : wq.alloc (.cells #[.slice aq nq cq, .slice bq mq dq] 25) = wz at *
  go_upto_region 10 with fail
  have up := h.out.2.2.1.c0
  have vp := h.out.2.2.1.c1
  have ltp := h.out.2.2.1.lt
  have uq := h.out.1.c0
  have vq := h.out.1.c1
  have ltq := h.out.1.lt
  have ua := h.out.2.2.2.2.2.2.2.2.2.2.2.2.1.c0
  have va := h.out.2.2.2.2.2.2.2.2.2.2.2.2.1.c1
  have lta := h.out.2.2.2.2.2.2.2.2.2.2.2.2.1.lt
  have ub := h.out.2.2.2.2.2.2.2.2.2.2.1.c0
  have vb := h.out.2.2.2.2.2.2.2.2.2.2.1.c1
  have ltb := h.out.2.2.2.2.2.2.2.2.2.2.1.lt
  have uc := h.out.2.2.2.2.2.2.2.2.1.c0
  have vc := h.out.2.2.2.2.2.2.2.2.1.c1
  have ltc := h.out.2.2.2.2.2.2.2.2.1.lt
  have hq : Below wz.heap.size wz wz := Below.refl _ _
  have hqz := hq.size
  have T1 : Hid (∀ z, Below wz.heap.size wz z → Calls Tryd.prog 16 #[.agg #[.slice ap np cp, .slice bp mp dp], .agg #[.slice aq nq cq, .slice bq mq dq]] z fun e w' => e = .returned (.bool true) ∧ Below wz.heap.size wz w') := Lib.hid fun z hz => (VSame_av (h.out.2.2.2.1.v.below hz) (h.out.2.1.v.below hz) h.out.2.2.2.1.nts h.out.2.1.nts rfl rfl).mono fun e w' h => ⟨h.1, hz.trans (h.2.mono hz.size)⟩
  have Zp := h.out.2.2.2.1.items
  obtain ⟨Np, hNp⟩ : ∃ N, N = mN (TS (some p)).1 := ⟨_, rfl⟩
  rw [← hNp] at Zp
  have T2 : Hid (∀ z, Below wz.heap.size wz z → Calls Tryd.prog 10 #[.agg #[.slice ap np cp, .slice bp mp dp]] z fun e w' => e = .returned (.int .i64 (Np : Int)) ∧ Below wz.heap.size wz w') := Lib.hid fun z hz => by
    have k := VMany_av (h.out.2.2.2.1.below hz)
    rw [← hNp] at k
    exact k.mono fun e w' h => ⟨h.1, hz.trans (h.2.mono hz.size)⟩
  have Za := h.out.2.2.2.2.2.2.2.2.2.2.2.2.2.1.items
  obtain ⟨Na, hNa⟩ : ∃ N, N = mN l1 := ⟨_, rfl⟩
  rw [← hNa] at Za
  have T3 : Hid (∀ z, Below wz.heap.size wz z → Calls Tryd.prog 10 #[.agg #[.slice a1 n1 c1, .slice b1 m1 d1]] z fun e w' => e = .returned (.int .i64 (Na : Int)) ∧ Below wz.heap.size wz w') := Lib.hid fun z hz => by
    have k := VMany_av (h.out.2.2.2.2.2.2.2.2.2.2.2.2.2.1.below hz)
    rw [← hNa] at k
    exact k.mono fun e w' h => ⟨h.1, hz.trans (h.2.mono hz.size)⟩
  have Zb := h.out.2.2.2.2.2.2.2.2.2.2.2.1.items
  obtain ⟨Nbb, hNb⟩ : ∃ N, N = mN l2 := ⟨_, rfl⟩
  rw [← hNb] at Zb
  have T4 : Hid (∀ z, Below wz.heap.size wz z → Calls Tryd.prog 10 #[.agg #[.slice a2 n2 c2, .slice b2 m2 d2]] z fun e w' => e = .returned (.int .i64 (Nbb : Int)) ∧ Below wz.heap.size wz w') := Lib.hid fun z hz => by
    have k := VMany_av (h.out.2.2.2.2.2.2.2.2.2.2.2.1.below hz)
    rw [← hNb] at k
    exact k.mono fun e w' h => ⟨h.1, hz.trans (h.2.mono hz.size)⟩
  have Zc := h.out.2.2.2.2.2.2.2.2.2.1.items
  obtain ⟨Nc, hNc⟩ : ∃ N, N = mN l3 := ⟨_, rfl⟩
  rw [← hNc] at Zc
  have T5 : Hid (∀ z, Below wz.heap.size wz z → Calls Tryd.prog 10 #[.agg #[.slice a3 n3 c3, .slice b3 m3 d3]] z fun e w' => e = .returned (.int .i64 (Nc : Int)) ∧ Below wz.heap.size wz w') := Lib.hid fun z hz => by
    have k := VMany_av (h.out.2.2.2.2.2.2.2.2.2.1.below hz)
    rw [← hNc] at k
    exact k.mono fun e w' h => ⟨h.1, hz.trans (h.2.mono hz.size)⟩
  have T6 : Hid (∀ z, Below wz.heap.size wz z → Calls Tryd.prog 9 #[.agg #[.slice ap np cp, .slice bp mp dp]] z fun e w' => e = .returned (.bool true) ∧ Below wz.heap.size wz w') := Lib.hid fun z hz => (VMay_av (h.out.2.2.2.1.below hz)).mono fun e w' h => ⟨h.1, hz.trans (h.2.mono hz.size)⟩
  have hsum : (Np : Int) = (Na : Int) + (Nbb : Int) + (Nc : Int) := by
    have := HS.out
    rw [Zp.2.1, Za.2.1, Zb.2.1, Zc.2.1]
    exact this
  obtain ⟨Nu, hNu⟩ : ∃ Nu, Nu = Na + Nbb := ⟨_, rfl⟩
  have hw1 : IntKind.i64.wrap ((Na : Int) + (Nbb : Int)) = (Nu : Int) := by rw [show (Na : Int) + (Nbb : Int) = (Nu : Int) by omega]; exact IntWalk.i64_in _ (by have := Za.2.2.1; have := Zb.2.2.1; omega)
  have hw2 : IntKind.i64.wrap ((Nu : Int) + (Nc : Int)) = (Np : Int) := by rw [show (Nu : Int) + (Nc : Int) = (Np : Int) by omega]; exact IntWalk.i64_in _ (by have := Zp.2.2.1; omega)
  have hb := h.out.2.2.2.2.2.2.2.2.2.2.2.2.2.2
  clear hsum hNu Za Zb Zc Zp hNa hNb hNc hNp h hwz
  go_region_held3 (fun w' => w'.cell? ⟨wp.heap.size, 0, none⟩ = some (.slice ap np cp) ∧ w'.cell? ⟨wp.heap.size, 1, none⟩ = some (.slice bp mp dp) ∧ w'.cell? ⟨wq.heap.size, 0, none⟩ = some (.slice aq nq cq) ∧ w'.cell? ⟨wq.heap.size, 1, none⟩ = some (.slice bq mq dq) ∧ w'.cell? ⟨W.heap.size, 0, none⟩ = some (.slice a1 n1 c1) ∧ w'.cell? ⟨W.heap.size, 1, none⟩ = some (.slice b1 m1 d1) ∧ w'.cell? ⟨W.heap.size + 1, 0, none⟩ = some (.slice a2 n2 c2) ∧ w'.cell? ⟨W.heap.size + 1, 1, none⟩ = some (.slice b2 m2 d2) ∧ w'.cell? ⟨W.heap.size + 1 + 1, 0, none⟩ = some (.slice a3 n3 c3) ∧ w'.cell? ⟨W.heap.size + 1 + 1, 1, none⟩ = some (.slice b3 m3 d3))
    (first | exact ⟨(Below.cell (p := ⟨wp.heap.size, 0, none⟩) (by repeat' (first | exact hq | refine Below.drew ?_ | refine below_drewN ?_ _ | refine Below.alloc ?_ ?_ _ | refine Below.setCell ?_ ?_ _ | exact hqz | exact Nat.le_refl _ | omega | (simp; done) | (simp; omega))) ltp).trans up, (Below.cell (p := ⟨wp.heap.size, 1, none⟩) (by repeat' (first | exact hq | refine Below.drew ?_ | refine below_drewN ?_ _ | refine Below.alloc ?_ ?_ _ | refine Below.setCell ?_ ?_ _ | exact hqz | exact Nat.le_refl _ | omega | (simp; done) | (simp; omega))) ltp).trans vp, (Below.cell (p := ⟨wq.heap.size, 0, none⟩) (by repeat' (first | exact hq | refine Below.drew ?_ | refine below_drewN ?_ _ | refine Below.alloc ?_ ?_ _ | refine Below.setCell ?_ ?_ _ | exact hqz | exact Nat.le_refl _ | omega | (simp; done) | (simp; omega))) ltq).trans uq, (Below.cell (p := ⟨wq.heap.size, 1, none⟩) (by repeat' (first | exact hq | refine Below.drew ?_ | refine below_drewN ?_ _ | refine Below.alloc ?_ ?_ _ | refine Below.setCell ?_ ?_ _ | exact hqz | exact Nat.le_refl _ | omega | (simp; done) | (simp; omega))) ltq).trans vq, (Below.cell (p := ⟨W.heap.size, 0, none⟩) (by repeat' (first | exact hq | refine Below.drew ?_ | refine below_drewN ?_ _ | refine Below.alloc ?_ ?_ _ | refine Below.setCell ?_ ?_ _ | exact hqz | exact Nat.le_refl _ | omega | (simp; done) | (simp; omega))) lta).trans ua, (Below.cell (p := ⟨W.heap.size, 1, none⟩) (by repeat' (first | exact hq | refine Below.drew ?_ | refine below_drewN ?_ _ | refine Below.alloc ?_ ?_ _ | refine Below.setCell ?_ ?_ _ | exact hqz | exact Nat.le_refl _ | omega | (simp; done) | (simp; omega))) lta).trans va, (Below.cell (p := ⟨W.heap.size + 1, 0, none⟩) (by repeat' (first | exact hq | refine Below.drew ?_ | refine below_drewN ?_ _ | refine Below.alloc ?_ ?_ _ | refine Below.setCell ?_ ?_ _ | exact hqz | exact Nat.le_refl _ | omega | (simp; done) | (simp; omega))) ltb).trans ub, (Below.cell (p := ⟨W.heap.size + 1, 1, none⟩) (by repeat' (first | exact hq | refine Below.drew ?_ | refine below_drewN ?_ _ | refine Below.alloc ?_ ?_ _ | refine Below.setCell ?_ ?_ _ | exact hqz | exact Nat.le_refl _ | omega | (simp; done) | (simp; omega))) ltb).trans vb, (Below.cell (p := ⟨W.heap.size + 1 + 1, 0, none⟩) (by repeat' (first | exact hq | refine Below.drew ?_ | refine below_drewN ?_ _ | refine Below.alloc ?_ ?_ _ | refine Below.setCell ?_ ?_ _ | exact hqz | exact Nat.le_refl _ | omega | (simp; done) | (simp; omega))) ltc).trans uc, (Below.cell (p := ⟨W.heap.size + 1 + 1, 1, none⟩) (by repeat' (first | exact hq | refine Below.drew ?_ | refine below_drewN ?_ _ | refine Below.alloc ?_ ?_ _ | refine Below.setCell ?_ ?_ _ | exact hqz | exact Nat.le_refl _ | omega | (simp; done) | (simp; omega))) ltc).trans vc⟩ | fail)
    (first
      | (go_at_call 16; (with_reducible refine (T1.out _ (by repeat' (first | exact hq | refine Below.drew ?_ | refine below_drewN ?_ _ | refine Below.alloc ?_ ?_ _ | refine Below.setCell ?_ ?_ _ | exact hqz | exact Nat.le_refl _ | omega | (simp; done) | (simp; omega)))).mono ?_); rintro e wv ⟨rfl, hq⟩; have hqz := hq.size)
      | (go_at_call 10; (with_reducible refine (T2.out _ (by repeat' (first | exact hq | refine Below.drew ?_ | refine below_drewN ?_ _ | refine Below.alloc ?_ ?_ _ | refine Below.setCell ?_ ?_ _ | exact hqz | exact Nat.le_refl _ | omega | (simp; done) | (simp; omega)))).mono ?_); rintro e wv ⟨rfl, hq⟩; have hqz := hq.size)
      | (go_at_call 10; (with_reducible refine (T3.out _ (by repeat' (first | exact hq | refine Below.drew ?_ | refine below_drewN ?_ _ | refine Below.alloc ?_ ?_ _ | refine Below.setCell ?_ ?_ _ | exact hqz | exact Nat.le_refl _ | omega | (simp; done) | (simp; omega)))).mono ?_); rintro e wv ⟨rfl, hq⟩; have hqz := hq.size)
      | (go_at_call 10; (with_reducible refine (T4.out _ (by repeat' (first | exact hq | refine Below.drew ?_ | refine below_drewN ?_ _ | refine Below.alloc ?_ ?_ _ | refine Below.setCell ?_ ?_ _ | exact hqz | exact Nat.le_refl _ | omega | (simp; done) | (simp; omega)))).mono ?_); rintro e wv ⟨rfl, hq⟩; have hqz := hq.size)
      | (go_at_call 10; (with_reducible refine (T5.out _ (by repeat' (first | exact hq | refine Below.drew ?_ | refine below_drewN ?_ _ | refine Below.alloc ?_ ?_ _ | refine Below.setCell ?_ ?_ _ | exact hqz | exact Nat.le_refl _ | omega | (simp; done) | (simp; omega)))).mono ?_); rintro e wv ⟨rfl, hq⟩; have hqz := hq.size)
      | (go_at_call 9; (with_reducible refine (T6.out _ (by repeat' (first | exact hq | refine Below.drew ?_ | refine below_drewN ?_ _ | refine Below.alloc ?_ ?_ _ | refine Below.setCell ?_ ?_ _ | exact hqz | exact Nat.le_refl _ | omega | (simp; done) | (simp; omega)))).mono ?_); rintro e wv ⟨rfl, hq⟩; have hqz := hq.size)
      | fail)
  go_wp2_with fail
  go_ret
  exact ⟨rfl, hb.trans (hq.mono hb.size)⟩
theorem mj_any {a1 b1 a2 b2 a3 b3 : Option Addr} {n1 c1 m1 d1 n2 c2 m2 d2 n3 c3 m3 d3 : Nat} {l1 l2 l3 : List Int} {es1 es2 es3 : List ByteArray} (W : World) (hW : WT W) (hV1 : Vl W a1 n1 b1 m1 l1 es1) (hC1 : Cp n1 c1 m1 d1) (hZ1 : ∀ j, j < m1 → (es1.getD j ByteArray.empty).size ≤ maxLen) (hV2 : Vl W a2 n2 b2 m2 l2 es2) (hC2 : Cp n2 c2 m2 d2) (hZ2 : ∀ j, j < m2 → (es2.getD j ByteArray.empty).size ≤ maxLen) (hV3 : Vl W a3 n3 b3 m3 l3 es3) (hC3 : Cp n3 c3 m3 d3) (hZ3 : ∀ j, j < m3 → (es3.getD j ByteArray.empty).size ≤ maxLen) :
    Calls Tryd.prog 6 #[.agg #[.slice a1 n1 c1, .slice b1 m1 d1], .agg #[.slice a2 n2 c2, .slice b2 m2 d2], .agg #[.slice a3 n3 c3, .slice b3 m3 d3]] W (TrueEnd W) := by
  obtain ⟨o1, i1⟩ := ais_ex l1 es1
  obtain ⟨o2, i2⟩ := ais_ex l2 es2
  obtain ⟨o3, i3⟩ := ais_ex l3 es3
  have h1 : Av W a1 n1 c1 b1 m1 d1 l1 es1 o1 := ⟨hV1, hC1, hZ1, i1⟩
  have h2 : Av W a2 n2 c2 b2 m2 d2 l2 es2 o2 := ⟨hV2, hC2, hZ2, i2⟩
  have h3 : Av W a3 n3 c3 b3 m3 d3 l3 es3 o3 := ⟨hV3, hC3, hZ3, i3⟩
  rcases Bool.eq_false_or_eq_true (fewB l1 es1) with f1 | f1
  · rcases Bool.eq_false_or_eq_true (fewB l2 es2) with f2 | f2
    · rcases Bool.eq_false_or_eq_true (fewB l3 es3) with f3 | f3
      · obtain ⟨x, e1, q1⟩ : ∃ x e, jnM o1 o2 = (x, e) := ⟨_, _, rfl⟩
        obtain ⟨y, e2, q2⟩ : ∃ x e, jnM o2 o3 = (x, e) := ⟨_, _, rfl⟩
        obtain ⟨p, e3, q3⟩ : ∃ p e, jnM x o3 = (p, e) := ⟨_, _, rfl⟩
        obtain ⟨q, e4, q4⟩ : ∃ p e, jnM o1 y = (p, e) := ⟨_, _, rfl⟩
        by_cases g1 : e1 = 0
        · subst g1
          by_cases g2 : e2 = 0
          · subst g2
            by_cases g3 : e3 = 0
            · subst g3
              by_cases g4 : e4 = 0
              · subst g4
                obtain ⟨u, v, x, rfl, rfl, rfl⟩ := jn_some q1
                obtain ⟨_, w, y, _, rfl, rfl⟩ := jn_some q2
                obtain ⟨_, _, p, _, _, rfl⟩ := jn_some q3
                obtain ⟨_, _, q, _, _, rfl⟩ := jn_some q4
                obtain ⟨rfl, hs⟩ := jn_three q1 q2 q3 q4
                exact mj_5 W hW h1 h2 h3 f1 f2 f3 q1 q2 q3 q4 hs
              · exact mj_4 (e1 := 0) (e2 := 0) (e3 := 0) W hW h1 h2 h3 f1 f2 f3 q1 q2 q3 q4 g4
            · exact mj_3 (e1 := 0) (e2 := 0) W hW h1 h2 h3 f1 f2 f3 q1 q2 q3 q4 g3
          · exact mj_2 (e1 := 0) W hW h1 h2 h3 f1 f2 f3 q1 q2 q3 q4 g2
        · exact mj_1 W hW h1 h2 h3 f1 f2 f3 q1 q2 q3 q4 g1
      · exact mj_few3 W hW h1 h2 h3 f1 f2 f3
    · exact mj_few2 W hW h1 h2 h3 f1 f2
  · exact mj_few1 W hW h1 h2 h3 f1
end Go.Proofs.YtjpjccilnmlmnaaDoor

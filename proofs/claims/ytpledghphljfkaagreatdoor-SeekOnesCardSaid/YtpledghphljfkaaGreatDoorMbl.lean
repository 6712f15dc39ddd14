import Derived.Test.YtpledghphljfkaaGreatDoorMbk
/-
  SeekOnes at every array; SeekTwos at every three.
-/
namespace Go.Proofs.YtpledghphljfkaaGreatDoor
set_option linter.unusedVariables false
set_option linter.unusedSimpArgs false
open Go.RowKit

set_option maxRecDepth 100000 in
set_option maxHeartbeats 6400000 in
theorem sones_few {a1 b1 : Option Addr} {n1 c1 m1 d1 : Nat} {l : List Int} {es : List ByteArray} {o : Option Ar} (W : World) (hW : WT W) (h1 : Av W a1 n1 c1 b1 m1 d1 l es o) (hf1 : fewB l es = false) :
    Calls Tryz.prog 3 #[.agg #[.slice a1 n1 c1, .slice b1 m1 d1]] W (TrueEnd W) := by
  have KS := Lib.hid (fun w (hb : Below W.heap.size W w) => kshown_is w (hW.below hb))
  have KF1 := fun w (hb : Below W.heap.size W w) => Few_is (c := c1) (d := d1) w (h1.v.below hb) h1.z
  rw [hf1] at KF1
  replace KF1 := Lib.hid KF1
  have h := lw_one W h1
  clear hW h1 hf1
  go_enter Tryz.func3, Tryz.ntmps3
  go_wp2_with fail
  with_reducible refine (lw h (KS.out _ h.out.2.2)).mono ?_
  clear h
  rintro e w ⟨rfl, h⟩
  have xv := h.out.1.c0
  have yv := h.out.1.c1
  go_wp2_with fail
  with_reducible refine (lw h (KF1.out _ h.out.2.2)).mono ?_
  clear h xv yv
  rintro e w ⟨rfl, h⟩
  go_wp2_with fail
  go_ret
  exact ⟨rfl, h.out.2.2⟩
set_option maxRecDepth 100000 in
set_option maxHeartbeats 6400000 in
theorem stwos_few1 {a1 b1 a2 b2 a3 b3 : Option Addr} {n1 c1 m1 d1 n2 c2 m2 d2 n3 c3 m3 d3 : Nat} {l m k : List Int} {es fs gs : List ByteArray} {o p u : Option Ar} (W : World) (hW : WT W) (h1 : Av W a1 n1 c1 b1 m1 d1 l es o) (h2 : Av W a2 n2 c2 b2 m2 d2 m fs p) (h3 : Av W a3 n3 c3 b3 m3 d3 k gs u) (hf1 : fewB l es = false) :
    Calls Tryz.prog 4 #[.agg #[.slice a1 n1 c1, .slice b1 m1 d1], .agg #[.slice a2 n2 c2, .slice b2 m2 d2], .agg #[.slice a3 n3 c3, .slice b3 m3 d3]] W (TrueEnd W) := by
  have KS := Lib.hid (fun w (hb : Below W.heap.size W w) => kshown_is w (hW.below hb))
  have KF1 := fun w (hb : Below W.heap.size W w) => Few_is (c := c1) (d := d1) w (h1.v.below hb) h1.z
  rw [hf1] at KF1
  replace KF1 := Lib.hid KF1
  have h := lw_three W h1 h2 h3
  clear hW h1 h2 h3 hf1
  go_enter Tryz.func4, Tryz.ntmps4
  go_wp2_with fail
  with_reducible refine (lw h (KS.out _ h.out.2.2.2.2.2.2)).mono ?_
  clear h
  rintro e w ⟨rfl, h⟩
  have xv := h.out.2.2.2.2.1.c0
  have yv := h.out.2.2.2.2.1.c1
  go_wp2_with fail
  with_reducible refine (lw h (KF1.out _ h.out.2.2.2.2.2.2)).mono ?_
  clear h xv yv
  rintro e w ⟨rfl, h⟩
  go_wp2_with fail
  go_ret
  exact ⟨rfl, h.out.2.2.2.2.2.2⟩
set_option maxRecDepth 100000 in
set_option maxHeartbeats 6400000 in
theorem stwos_few2 {a1 b1 a2 b2 a3 b3 : Option Addr} {n1 c1 m1 d1 n2 c2 m2 d2 n3 c3 m3 d3 : Nat} {l m k : List Int} {es fs gs : List ByteArray} {o p u : Option Ar} (W : World) (hW : WT W) (h1 : Av W a1 n1 c1 b1 m1 d1 l es o) (h2 : Av W a2 n2 c2 b2 m2 d2 m fs p) (h3 : Av W a3 n3 c3 b3 m3 d3 k gs u) (hf1 : fewB l es = true) (hf2 : fewB m fs = false) :
    Calls Tryz.prog 4 #[.agg #[.slice a1 n1 c1, .slice b1 m1 d1], .agg #[.slice a2 n2 c2, .slice b2 m2 d2], .agg #[.slice a3 n3 c3, .slice b3 m3 d3]] W (TrueEnd W) := by
  have KS := Lib.hid (fun w (hb : Below W.heap.size W w) => kshown_is w (hW.below hb))
  have KF1 := fun w (hb : Below W.heap.size W w) => Few_is (c := c1) (d := d1) w (h1.v.below hb) h1.z
  rw [hf1] at KF1
  replace KF1 := Lib.hid KF1
  have KF2 := fun w (hb : Below W.heap.size W w) => Few_is (c := c2) (d := d2) w (h2.v.below hb) h2.z
  rw [hf2] at KF2
  replace KF2 := Lib.hid KF2
  have h := lw_three W h1 h2 h3
  clear hW h1 h2 h3 hf1 hf2
  go_enter Tryz.func4, Tryz.ntmps4
  go_wp2_with fail
  with_reducible refine (lw h (KS.out _ h.out.2.2.2.2.2.2)).mono ?_
  clear h
  rintro e w ⟨rfl, h⟩
  have xv := h.out.2.2.2.2.1.c0
  have yv := h.out.2.2.2.2.1.c1
  go_wp2_with fail
  with_reducible refine (lw h (KF1.out _ h.out.2.2.2.2.2.2)).mono ?_
  clear h xv yv
  rintro e w ⟨rfl, h⟩
  have xw := h.out.2.2.1.c0
  have yw := h.out.2.2.1.c1
  go_wp2_with fail
  with_reducible refine (lw h (KF2.out _ h.out.2.2.2.2.2.2)).mono ?_
  clear h xw yw
  rintro e w ⟨rfl, h⟩
  go_wp2_with fail
  go_ret
  exact ⟨rfl, h.out.2.2.2.2.2.2⟩
set_option maxRecDepth 100000 in
set_option maxHeartbeats 6400000 in
theorem stwos_few3 {a1 b1 a2 b2 a3 b3 : Option Addr} {n1 c1 m1 d1 n2 c2 m2 d2 n3 c3 m3 d3 : Nat} {l m k : List Int} {es fs gs : List ByteArray} {o p u : Option Ar} (W : World) (hW : WT W) (h1 : Av W a1 n1 c1 b1 m1 d1 l es o) (h2 : Av W a2 n2 c2 b2 m2 d2 m fs p) (h3 : Av W a3 n3 c3 b3 m3 d3 k gs u) (hf1 : fewB l es = true) (hf2 : fewB m fs = true) (hf3 : fewB k gs = false) :
    Calls Tryz.prog 4 #[.agg #[.slice a1 n1 c1, .slice b1 m1 d1], .agg #[.slice a2 n2 c2, .slice b2 m2 d2], .agg #[.slice a3 n3 c3, .slice b3 m3 d3]] W (TrueEnd W) := by
  have KS := Lib.hid (fun w (hb : Below W.heap.size W w) => kshown_is w (hW.below hb))
  have KF1 := fun w (hb : Below W.heap.size W w) => Few_is (c := c1) (d := d1) w (h1.v.below hb) h1.z
  rw [hf1] at KF1
  replace KF1 := Lib.hid KF1
  have KF2 := fun w (hb : Below W.heap.size W w) => Few_is (c := c2) (d := d2) w (h2.v.below hb) h2.z
  rw [hf2] at KF2
  replace KF2 := Lib.hid KF2
  have KF3 := fun w (hb : Below W.heap.size W w) => Few_is (c := c3) (d := d3) w (h3.v.below hb) h3.z
  rw [hf3] at KF3
  replace KF3 := Lib.hid KF3
  have h := lw_three W h1 h2 h3
  clear hW h1 h2 h3 hf1 hf2 hf3
  go_enter Tryz.func4, Tryz.ntmps4
  go_wp2_with fail
  with_reducible refine (lw h (KS.out _ h.out.2.2.2.2.2.2)).mono ?_
  clear h
  rintro e w ⟨rfl, h⟩
  have xv := h.out.2.2.2.2.1.c0
  have yv := h.out.2.2.2.2.1.c1
  go_wp2_with fail
  with_reducible refine (lw h (KF1.out _ h.out.2.2.2.2.2.2)).mono ?_
  clear h xv yv
  rintro e w ⟨rfl, h⟩
  have xw := h.out.2.2.1.c0
  have yw := h.out.2.2.1.c1
  go_wp2_with fail
  with_reducible refine (lw h (KF2.out _ h.out.2.2.2.2.2.2)).mono ?_
  clear h xw yw
  rintro e w ⟨rfl, h⟩
  have xx := h.out.1.c0
  have yx := h.out.1.c1
  go_wp2_with fail
  with_reducible refine (lw h (KF3.out _ h.out.2.2.2.2.2.2)).mono ?_
  clear h xx yx
  rintro e w ⟨rfl, h⟩
  go_wp2_with fail
  go_ret
  exact ⟨rfl, h.out.2.2.2.2.2.2⟩
set_option maxRecDepth 100000 in
set_option maxHeartbeats 6400000 in
theorem sones_yes {a1 b1 : Option Addr} {n1 c1 m1 d1 : Nat} {l : List Int} {es : List ByteArray} {o : Option Ar} (W : World) (hW : WT W) (h1 : Av W a1 n1 c1 b1 m1 d1 l es o) (hf1 : fewB l es = true) :
    Calls Tryz.prog 3 #[.agg #[.slice a1 n1 c1, .slice b1 m1 d1]] W (TrueEnd W) := by
  have KS := Lib.hid (fun w (hb : Below W.heap.size W w) => kshown_is w (hW.below hb))
  have KF1 := fun w (hb : Below W.heap.size W w) => Few_is (c := c1) (d := d1) w (h1.v.below hb) h1.z
  rw [hf1] at KF1
  replace KF1 := Lib.hid KF1
  have P0 := fun w (hb : Below W.heap.size W w) => SUp_is (h1.below hb) (hW.below hb)
  have R0 := fun w (hb : Below W.heap.size W w) => rUp_is (h1.below hb)
  generalize upK 1 o = t0 at P0 R0
  obtain ⟨x0, k0⟩ := t0
  replace P0 := Lib.hid P0
  replace R0 := Lib.hid R0
  have P1 := fun w (hb : Below W.heap.size W w) => SDown_is (h1.below hb) (hW.below hb)
  have R1 := fun w (hb : Below W.heap.size W w) => rDown_is (h1.below hb)
  generalize upK (-1) o = t1 at P1 R1
  obtain ⟨x1, k1⟩ := t1
  replace P1 := Lib.hid P1
  replace R1 := Lib.hid R1
  have P2 := fun w (hb : Below W.heap.size W w) => SWhere_is (h1.below hb) (hW.below hb)
  have R2 := fun w (hb : Below W.heap.size W w) => rWhere_is (h1.below hb)
  generalize whK o = t2 at P2 R2
  obtain ⟨x2, k2⟩ := t2
  replace P2 := Lib.hid P2
  replace R2 := Lib.hid R2
  have P3 := fun w (hb : Below W.heap.size W w) => SUnique_is (h1.below hb) (hW.below hb)
  have R3 := fun w (hb : Below W.heap.size W w) => rUnique_is (h1.below hb)
  generalize unK o = t3 at P3 R3
  obtain ⟨x3, k3⟩ := t3
  replace P3 := Lib.hid P3
  replace R3 := Lib.hid R3
  have h := lw_one W h1
  clear hW h1 hf1
  go_enter Tryz.func3, Tryz.ntmps3
  go_wp2_with fail
  with_reducible refine (lw h (KS.out _ h.out.2.2)).mono ?_
  clear h
  rintro e w ⟨rfl, h⟩
  have xv := h.out.1.c0
  have yv := h.out.1.c1
  go_wp2_with fail
  with_reducible refine (lw h (KF1.out _ h.out.2.2)).mono ?_
  clear h xv yv
  rintro e w ⟨rfl, h⟩
  have xv := h.out.1.c0
  have yv := h.out.1.c1
  go_wp2_with fail
  with_reducible refine (lw_M h (P0.out _ h.out.2.2)).mono ?_
  clear h xv yv
  rintro e w ⟨aep, nep, cep, bep, mep, dep, rfl, h⟩
  have xv := h.out.2.2.1.c0
  have yv := h.out.2.2.1.c1
  go_wp2_with fail
  with_reducible refine (lw_M h (R0.out _ h.out.2.2.2.2)).mono ?_
  clear h xv yv
  rintro e w ⟨aer, ner, cer, ber, mer, der, rfl, h⟩
  have xv := h.out.2.2.2.2.1.c0
  have yv := h.out.2.2.2.2.1.c1
  go_wp2_with fail
  with_reducible refine (lw_M h (P1.out _ h.out.2.2.2.2.2.2)).mono ?_
  clear h xv yv
  rintro e w ⟨afp, nfp, cfp, bfp, mfp, dfp, rfl, h⟩
  have xv := h.out.2.2.2.2.2.2.1.c0
  have yv := h.out.2.2.2.2.2.2.1.c1
  go_wp2_with fail
  with_reducible refine (lw_M h (R1.out _ h.out.2.2.2.2.2.2.2.2)).mono ?_
  clear h xv yv
  rintro e w ⟨afr, nfr, cfr, bfr, mfr, dfr, rfl, h⟩
  have xv := h.out.2.2.2.2.2.2.2.2.1.c0
  have yv := h.out.2.2.2.2.2.2.2.2.1.c1
  go_wp2_with fail
  with_reducible refine (lw_M h (P2.out _ h.out.2.2.2.2.2.2.2.2.2.2)).mono ?_
  clear h xv yv
  rintro e w ⟨agp, ngp, cgp, bgp, mgp, dgp, rfl, h⟩
  have xv := h.out.2.2.2.2.2.2.2.2.2.2.1.c0
  have yv := h.out.2.2.2.2.2.2.2.2.2.2.1.c1
  go_wp2_with fail
  with_reducible refine (lw_M h (R2.out _ h.out.2.2.2.2.2.2.2.2.2.2.2.2)).mono ?_
  clear h xv yv
  rintro e w ⟨agr, ngr, cgr, bgr, mgr, dgr, rfl, h⟩
  have xv := h.out.2.2.2.2.2.2.2.2.2.2.2.2.1.c0
  have yv := h.out.2.2.2.2.2.2.2.2.2.2.2.2.1.c1
  go_wp2_with fail
  with_reducible refine (lw_M h (P3.out _ h.out.2.2.2.2.2.2.2.2.2.2.2.2.2.2)).mono ?_
  clear h xv yv
  rintro e w ⟨ajp, njp, cjp, bjp, mjp, djp, rfl, h⟩
  have xv := h.out.2.2.2.2.2.2.2.2.2.2.2.2.2.2.1.c0
  have yv := h.out.2.2.2.2.2.2.2.2.2.2.2.2.2.2.1.c1
  go_wp2_with fail
  with_reducible refine (lw_M h (R3.out _ h.out.2.2.2.2.2.2.2.2.2.2.2.2.2.2.2.2)).mono ?_
  clear h xv yv
  rintro e w ⟨ajr, njr, cjr, bjr, mjr, djr, rfl, h⟩
  have xep := h.out.2.2.2.2.2.2.2.2.2.2.2.2.2.2.1.c0
  have yep := h.out.2.2.2.2.2.2.2.2.2.2.2.2.2.2.1.c1
  have xer := h.out.2.2.2.2.2.2.2.2.2.2.2.2.1.c0
  have yer := h.out.2.2.2.2.2.2.2.2.2.2.2.2.1.c1
  go_wp2_with fail
  with_reducible refine (lw h (VSame_av h.out.2.2.2.2.2.2.2.2.2.2.2.2.2.2.2.1.v h.out.2.2.2.2.2.2.2.2.2.2.2.2.2.1.v h.out.2.2.2.2.2.2.2.2.2.2.2.2.2.2.2.1.ntt h.out.2.2.2.2.2.2.2.2.2.2.2.2.2.1.ntt rfl rfl)).mono ?_
  clear h xep yep xer yer
  rintro e w ⟨rfl, h⟩
  have xfp := h.out.2.2.2.2.2.2.2.2.2.2.1.c0
  have yfp := h.out.2.2.2.2.2.2.2.2.2.2.1.c1
  have xfr := h.out.2.2.2.2.2.2.2.2.1.c0
  have yfr := h.out.2.2.2.2.2.2.2.2.1.c1
  go_wp2_with fail
  with_reducible refine (lw h (VSame_av h.out.2.2.2.2.2.2.2.2.2.2.2.1.v h.out.2.2.2.2.2.2.2.2.2.1.v h.out.2.2.2.2.2.2.2.2.2.2.2.1.ntt h.out.2.2.2.2.2.2.2.2.2.1.ntt rfl rfl)).mono ?_
  clear h xfp yfp xfr yfr
  rintro e w ⟨rfl, h⟩
  have xgp := h.out.2.2.2.2.2.2.1.c0
  have ygp := h.out.2.2.2.2.2.2.1.c1
  have xgr := h.out.2.2.2.2.1.c0
  have ygr := h.out.2.2.2.2.1.c1
  go_wp2_with fail
  with_reducible refine (lw h (VSame_av h.out.2.2.2.2.2.2.2.1.v h.out.2.2.2.2.2.1.v h.out.2.2.2.2.2.2.2.1.ntt h.out.2.2.2.2.2.1.ntt rfl rfl)).mono ?_
  clear h xgp ygp xgr ygr
  rintro e w ⟨rfl, h⟩
  have xjp := h.out.2.2.1.c0
  have yjp := h.out.2.2.1.c1
  have xjr := h.out.1.c0
  have yjr := h.out.1.c1
  go_wp2_with fail
  with_reducible refine (lw h (VSame_av h.out.2.2.2.1.v h.out.2.1.v h.out.2.2.2.1.ntt h.out.2.1.ntt rfl rfl)).mono ?_
  clear h xjp yjp xjr yjr
  rintro e w ⟨rfl, h⟩
  go_wp2_with fail
  go_ret
  exact ⟨rfl, h.out.2.2.2.2.2.2.2.2.2.2.2.2.2.2.2.2.2.2⟩
set_option maxRecDepth 100000 in
set_option maxHeartbeats 6400000 in
theorem stwos_yes {a1 b1 a2 b2 a3 b3 : Option Addr} {n1 c1 m1 d1 n2 c2 m2 d2 n3 c3 m3 d3 : Nat} {l m k : List Int} {es fs gs : List ByteArray} {o p u : Option Ar} (W : World) (hW : WT W) (h1 : Av W a1 n1 c1 b1 m1 d1 l es o) (h2 : Av W a2 n2 c2 b2 m2 d2 m fs p) (h3 : Av W a3 n3 c3 b3 m3 d3 k gs u) (hf1 : fewB l es = true) (hf2 : fewB m fs = true) (hf3 : fewB k gs = true) :
    Calls Tryz.prog 4 #[.agg #[.slice a1 n1 c1, .slice b1 m1 d1], .agg #[.slice a2 n2 c2, .slice b2 m2 d2], .agg #[.slice a3 n3 c3, .slice b3 m3 d3]] W (TrueEnd W) := by
  have KS := Lib.hid (fun w (hb : Below W.heap.size W w) => kshown_is w (hW.below hb))
  have KF1 := fun w (hb : Below W.heap.size W w) => Few_is (c := c1) (d := d1) w (h1.v.below hb) h1.z
  rw [hf1] at KF1
  replace KF1 := Lib.hid KF1
  have KF2 := fun w (hb : Below W.heap.size W w) => Few_is (c := c2) (d := d2) w (h2.v.below hb) h2.z
  rw [hf2] at KF2
  replace KF2 := Lib.hid KF2
  have KF3 := fun w (hb : Below W.heap.size W w) => Few_is (c := c3) (d := d3) w (h3.v.below hb) h3.z
  rw [hf3] at KF3
  replace KF3 := Lib.hid KF3
  have P0 := fun w (hb : Below W.heap.size W w) => SFind_is (h1.below hb) (h2.below hb) (hW.below hb)
  have R0 := fun w (hb : Below W.heap.size W w) => rFind_is (h1.below hb) (h2.below hb)
  generalize fdK o p = t0 at P0 R0
  obtain ⟨x0, k0⟩ := t0
  replace P0 := Lib.hid P0
  replace R0 := Lib.hid R0
  have P1 := fun w (hb : Below W.heap.size W w) => SIndex_is (h1.below hb) (h2.below hb) (hW.below hb)
  have R1 := fun w (hb : Below W.heap.size W w) => rIndex_is (h1.below hb) (h2.below hb)
  generalize ixK o p = t1 at P1 R1
  obtain ⟨x1, k1⟩ := t1
  replace P1 := Lib.hid P1
  replace R1 := Lib.hid R1
  have P2 := fun w (hb : Below W.heap.size W w) => SAmend_is (h1.below hb) (h2.below hb) (h3.below hb) (hW.below hb)
  have R2 := fun w (hb : Below W.heap.size W w) => rAmend_is (h1.below hb) (h2.below hb) (h3.below hb)
  generalize amK o p u = t2 at P2 R2
  obtain ⟨x2, k2⟩ := t2
  replace P2 := Lib.hid P2
  replace R2 := Lib.hid R2
  have h := lw_three W h1 h2 h3
  clear hW h1 h2 h3 hf1 hf2 hf3
  go_enter Tryz.func4, Tryz.ntmps4
  go_wp2_with fail
  with_reducible refine (lw h (KS.out _ h.out.2.2.2.2.2.2)).mono ?_
  clear h
  rintro e w ⟨rfl, h⟩
  have xv := h.out.2.2.2.2.1.c0
  have yv := h.out.2.2.2.2.1.c1
  go_wp2_with fail
  with_reducible refine (lw h (KF1.out _ h.out.2.2.2.2.2.2)).mono ?_
  clear h xv yv
  rintro e w ⟨rfl, h⟩
  have xw := h.out.2.2.1.c0
  have yw := h.out.2.2.1.c1
  go_wp2_with fail
  with_reducible refine (lw h (KF2.out _ h.out.2.2.2.2.2.2)).mono ?_
  clear h xw yw
  rintro e w ⟨rfl, h⟩
  have xx := h.out.1.c0
  have yx := h.out.1.c1
  go_wp2_with fail
  with_reducible refine (lw h (KF3.out _ h.out.2.2.2.2.2.2)).mono ?_
  clear h xx yx
  rintro e w ⟨rfl, h⟩
  have xv := h.out.2.2.2.2.1.c0
  have yv := h.out.2.2.2.2.1.c1
  have xw := h.out.2.2.1.c0
  have yw := h.out.2.2.1.c1
  go_wp2_with fail
  with_reducible refine (lw_M h (P0.out _ h.out.2.2.2.2.2.2)).mono ?_
  clear h xv yv xw yw
  rintro e w ⟨aep, nep, cep, bep, mep, dep, rfl, h⟩
  have xv := h.out.2.2.2.2.2.2.1.c0
  have yv := h.out.2.2.2.2.2.2.1.c1
  have xw := h.out.2.2.2.2.1.c0
  have yw := h.out.2.2.2.2.1.c1
  go_wp2_with fail
  with_reducible refine (lw_M h (R0.out _ h.out.2.2.2.2.2.2.2.2)).mono ?_
  clear h xv yv xw yw
  rintro e w ⟨aer, ner, cer, ber, mer, der, rfl, h⟩
  have xv := h.out.2.2.2.2.2.2.2.2.1.c0
  have yv := h.out.2.2.2.2.2.2.2.2.1.c1
  have xw := h.out.2.2.2.2.2.2.1.c0
  have yw := h.out.2.2.2.2.2.2.1.c1
  go_wp2_with fail
  with_reducible refine (lw_M h (P1.out _ h.out.2.2.2.2.2.2.2.2.2.2)).mono ?_
  clear h xv yv xw yw
  rintro e w ⟨afp, nfp, cfp, bfp, mfp, dfp, rfl, h⟩
  have xv := h.out.2.2.2.2.2.2.2.2.2.2.1.c0
  have yv := h.out.2.2.2.2.2.2.2.2.2.2.1.c1
  have xw := h.out.2.2.2.2.2.2.2.2.1.c0
  have yw := h.out.2.2.2.2.2.2.2.2.1.c1
  go_wp2_with fail
  with_reducible refine (lw_M h (R1.out _ h.out.2.2.2.2.2.2.2.2.2.2.2.2)).mono ?_
  clear h xv yv xw yw
  rintro e w ⟨afr, nfr, cfr, bfr, mfr, dfr, rfl, h⟩
  have xv := h.out.2.2.2.2.2.2.2.2.2.2.2.2.1.c0
  have yv := h.out.2.2.2.2.2.2.2.2.2.2.2.2.1.c1
  have xw := h.out.2.2.2.2.2.2.2.2.2.2.1.c0
  have yw := h.out.2.2.2.2.2.2.2.2.2.2.1.c1
  have xx := h.out.2.2.2.2.2.2.2.2.1.c0
  have yx := h.out.2.2.2.2.2.2.2.2.1.c1
  go_wp2_with fail
  with_reducible refine (lw_M h (P2.out _ h.out.2.2.2.2.2.2.2.2.2.2.2.2.2.2)).mono ?_
  clear h xv yv xw yw xx yx
  rintro e w ⟨agp, ngp, cgp, bgp, mgp, dgp, rfl, h⟩
  have xv := h.out.2.2.2.2.2.2.2.2.2.2.2.2.2.2.1.c0
  have yv := h.out.2.2.2.2.2.2.2.2.2.2.2.2.2.2.1.c1
  have xw := h.out.2.2.2.2.2.2.2.2.2.2.2.2.1.c0
  have yw := h.out.2.2.2.2.2.2.2.2.2.2.2.2.1.c1
  have xx := h.out.2.2.2.2.2.2.2.2.2.2.1.c0
  have yx := h.out.2.2.2.2.2.2.2.2.2.2.1.c1
  go_wp2_with fail
  with_reducible refine (lw_M h (R2.out _ h.out.2.2.2.2.2.2.2.2.2.2.2.2.2.2.2.2)).mono ?_
  clear h xv yv xw yw xx yx
  rintro e w ⟨agr, ngr, cgr, bgr, mgr, dgr, rfl, h⟩
  have xep := h.out.2.2.2.2.2.2.2.2.2.2.1.c0
  have yep := h.out.2.2.2.2.2.2.2.2.2.2.1.c1
  have xer := h.out.2.2.2.2.2.2.2.2.1.c0
  have yer := h.out.2.2.2.2.2.2.2.2.1.c1
  go_wp2_with fail
  with_reducible refine (lw h (VSame_av h.out.2.2.2.2.2.2.2.2.2.2.2.1.v h.out.2.2.2.2.2.2.2.2.2.1.v h.out.2.2.2.2.2.2.2.2.2.2.2.1.ntt h.out.2.2.2.2.2.2.2.2.2.1.ntt rfl rfl)).mono ?_
  clear h xep yep xer yer
  rintro e w ⟨rfl, h⟩
  have xfp := h.out.2.2.2.2.2.2.1.c0
  have yfp := h.out.2.2.2.2.2.2.1.c1
  have xfr := h.out.2.2.2.2.1.c0
  have yfr := h.out.2.2.2.2.1.c1
  go_wp2_with fail
  with_reducible refine (lw h (VSame_av h.out.2.2.2.2.2.2.2.1.v h.out.2.2.2.2.2.1.v h.out.2.2.2.2.2.2.2.1.ntt h.out.2.2.2.2.2.1.ntt rfl rfl)).mono ?_
  clear h xfp yfp xfr yfr
  rintro e w ⟨rfl, h⟩
  have xgp := h.out.2.2.1.c0
  have ygp := h.out.2.2.1.c1
  have xgr := h.out.1.c0
  have ygr := h.out.1.c1
  go_wp2_with fail
  with_reducible refine (lw h (VSame_av h.out.2.2.2.1.v h.out.2.1.v h.out.2.2.2.1.ntt h.out.2.1.ntt rfl rfl)).mono ?_
  clear h xgp ygp xgr ygr
  rintro e w ⟨rfl, h⟩
  go_wp2_with fail
  go_ret
  exact ⟨rfl, h.out.2.2.2.2.2.2.2.2.2.2.2.2.2.2.2.2.2.2⟩
theorem sones_any {a1 b1 : Option Addr} {n1 c1 m1 d1 : Nat} {l : List Int} {es : List ByteArray} (W : World) (hW : WT W) (hV : Vl W a1 n1 b1 m1 l es) (hC : Cp n1 c1 m1 d1) (hZ : ∀ j, j < m1 → (es.getD j ByteArray.empty).size ≤ maxLen) :
    Calls Tryz.prog 3 #[.agg #[.slice a1 n1 c1, .slice b1 m1 d1]] W (TrueEnd W) := by
  obtain ⟨o, ho⟩ := ais_ex l es
  rcases Bool.eq_false_or_eq_true (fewB l es) with h | h
  · exact sones_yes W hW ⟨hV, hC, hZ, ho⟩ h
  · exact sones_few W hW ⟨hV, hC, hZ, ho⟩ h
theorem stwos_any {a1 b1 a2 b2 a3 b3 : Option Addr} {n1 c1 m1 d1 n2 c2 m2 d2 n3 c3 m3 d3 : Nat} {l m k : List Int} {es fs gs : List ByteArray} (W : World) (hW : WT W) (hV : Vl W a1 n1 b1 m1 l es) (hC : Cp n1 c1 m1 d1) (hZ : ∀ j, j < m1 → (es.getD j ByteArray.empty).size ≤ maxLen) (hV2 : Vl W a2 n2 b2 m2 m fs) (hC2 : Cp n2 c2 m2 d2) (hZ2 : ∀ j, j < m2 → (fs.getD j ByteArray.empty).size ≤ maxLen) (hV3 : Vl W a3 n3 b3 m3 k gs) (hC3 : Cp n3 c3 m3 d3) (hZ3 : ∀ j, j < m3 → (gs.getD j ByteArray.empty).size ≤ maxLen) :
    Calls Tryz.prog 4 #[.agg #[.slice a1 n1 c1, .slice b1 m1 d1], .agg #[.slice a2 n2 c2, .slice b2 m2 d2], .agg #[.slice a3 n3 c3, .slice b3 m3 d3]] W (TrueEnd W) := by
  obtain ⟨o, ho⟩ := ais_ex l es
  obtain ⟨p, hp⟩ := ais_ex m fs
  obtain ⟨u, hu⟩ := ais_ex k gs
  rcases Bool.eq_false_or_eq_true (fewB l es) with h | h
  · rcases Bool.eq_false_or_eq_true (fewB m fs) with g | g
    · rcases Bool.eq_false_or_eq_true (fewB k gs) with f | f
      · exact stwos_yes W hW ⟨hV, hC, hZ, ho⟩ ⟨hV2, hC2, hZ2, hp⟩ ⟨hV3, hC3, hZ3, hu⟩ h g f
      · exact stwos_few3 W hW ⟨hV, hC, hZ, ho⟩ ⟨hV2, hC2, hZ2, hp⟩ ⟨hV3, hC3, hZ3, hu⟩ h g f
    · exact stwos_few2 W hW ⟨hV, hC, hZ, ho⟩ ⟨hV2, hC2, hZ2, hp⟩ ⟨hV3, hC3, hZ3, hu⟩ h g
  · exact stwos_few1 W hW ⟨hV, hC, hZ, ho⟩ ⟨hV2, hC2, hZ2, hp⟩ ⟨hV3, hC3, hZ3, hu⟩ h
end Go.Proofs.YtpledghphljfkaaGreatDoor

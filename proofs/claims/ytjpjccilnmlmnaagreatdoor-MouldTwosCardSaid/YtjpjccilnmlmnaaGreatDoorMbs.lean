import Derived.Test.YtjpjccilnmlmnaaGreatDoorMbg
import Derived.Test.YtjpjccilnmlmnaaGreatDoorMbo
import Derived.Test.YtjpjccilnmlmnaaGreatDoorMbp
import Derived.Test.YtjpjccilnmlmnaaGreatDoorMbq
import Derived.Test.YtjpjccilnmlmnaaGreatDoorMbr
/-
  MouldOnes at every array; MouldTwos at every two.
-/
namespace Go.Proofs.YtjpjccilnmlmnaaGreatDoor
set_option linter.unusedVariables false
set_option linter.unusedSimpArgs false
open Go.RowKit

theorem Av.ntt {W : World} {a b : Option Addr} {n c m d : Nat} {o : Option Ar} (h : Av W a n c b m d (TS o).1 (TS o).2 o) : n ≤ 1000000 := by
  cases o with
  | none => have := h.v.s.1; simp [TS] at this; omega
  | some q => have := h.n3; omega
theorem lw_two {a1 b1 a2 b2 : Option Addr} {n1 c1 m1 d1 n2 c2 m2 d2 : Nat} {l1 l2 : List Int} {es1 es2 : List ByteArray} {o1 o2 : Option Ar} (W : World) (h1 : Av W a1 n1 c1 b1 m1 d1 l1 es1 o1) (h2 : Av W a2 n2 c2 b2 m2 d2 l2 es2 o2) :
    Lv (fun w => Bx w (W.heap.size + 1) a2 n2 c2 b2 m2 d2 ∧ Av w a2 n2 c2 b2 m2 d2 l2 es2 o2 ∧ Bx w W.heap.size a1 n1 c1 b1 m1 d1 ∧ Av w a1 n1 c1 b1 m1 d1 l1 es1 o1 ∧ Below W.heap.size W w)
      ((W.alloc (.cells #[.slice a1 n1 c1, .slice b1 m1 d1] 25)).alloc (.cells #[.slice a2 n2 c2, .slice b2 m2 d2] 25)) := by
  have k2 := lw_box (lw_one W h1) (h2.on ((Below.refl _ _).alloc (Nat.le_refl _) (.cells #[.slice a1 n1 c1, .slice b1 m1 d1] 25)))
  simp only [World.size_alloc] at k2
  exact k2
set_option maxRecDepth 100000 in
set_option maxHeartbeats 6400000 in
theorem mones_few {a1 b1 : Option Addr} {n1 c1 m1 d1 : Nat} {l : List Int} {es : List ByteArray} {o : Option Ar} (W : World) (hW : WT W) (h1 : Av W a1 n1 c1 b1 m1 d1 l es o) (hf : fewB l es = false) :
    Calls Tryz.prog 3 #[.agg #[.slice a1 n1 c1, .slice b1 m1 d1]] W (TrueEnd W) := by
  have KS := Lib.hid (fun w (hb : Below W.heap.size W w) => mshown_is w (hW.below hb))
  have KF := fun w (hb : Below W.heap.size W w) => Few_is (c := c1) (d := d1) w (h1.v.below hb) h1.z
  rw [hf] at KF
  replace KF := Lib.hid KF
  have h := lw_one W h1
  clear hW h1 hf
  go_enter Tryz.func3, Tryz.ntmps3
  go_wp2_with fail
  with_reducible refine (lw h (KS.out _ h.out.2.2)).mono ?_
  clear h
  rintro e w ⟨rfl, h⟩
  have xv := h.out.1.c0
  have yv := h.out.1.c1
  go_wp2_with fail
  with_reducible refine (lw h (KF.out _ h.out.2.2)).mono ?_
  clear h xv yv
  rintro e w ⟨rfl, h⟩
  go_wp2_with fail
  go_ret
  exact ⟨rfl, h.out.2.2⟩
set_option maxRecDepth 100000 in
set_option maxHeartbeats 6400000 in
theorem mtwos_few1 {a1 b1 a2 b2 : Option Addr} {n1 c1 m1 d1 n2 c2 m2 d2 : Nat} {l m : List Int} {es fs : List ByteArray} {o p : Option Ar} (W : World) (hW : WT W) (h1 : Av W a1 n1 c1 b1 m1 d1 l es o) (h2 : Av W a2 n2 c2 b2 m2 d2 m fs p) (hf : fewB l es = false) :
    Calls Tryz.prog 4 #[.agg #[.slice a1 n1 c1, .slice b1 m1 d1], .agg #[.slice a2 n2 c2, .slice b2 m2 d2]] W (TrueEnd W) := by
  have KS := Lib.hid (fun w (hb : Below W.heap.size W w) => mshown_is w (hW.below hb))
  have KF := fun w (hb : Below W.heap.size W w) => Few_is (c := c1) (d := d1) w (h1.v.below hb) h1.z
  rw [hf] at KF
  replace KF := Lib.hid KF
  have h := lw_two W h1 h2
  clear hW h1 h2 hf
  go_enter Tryz.func4, Tryz.ntmps4
  go_wp2_with fail
  with_reducible refine (lw h (KS.out _ h.out.2.2.2.2)).mono ?_
  clear h
  rintro e w ⟨rfl, h⟩
  have xv := h.out.2.2.1.c0
  have yv := h.out.2.2.1.c1
  go_wp2_with fail
  with_reducible refine (lw h (KF.out _ h.out.2.2.2.2)).mono ?_
  clear h xv yv
  rintro e w ⟨rfl, h⟩
  go_wp2_with fail
  go_ret
  exact ⟨rfl, h.out.2.2.2.2⟩
set_option maxRecDepth 100000 in
set_option maxHeartbeats 6400000 in
theorem mtwos_few2 {a1 b1 a2 b2 : Option Addr} {n1 c1 m1 d1 n2 c2 m2 d2 : Nat} {l m : List Int} {es fs : List ByteArray} {o p : Option Ar} (W : World) (hW : WT W) (h1 : Av W a1 n1 c1 b1 m1 d1 l es o) (h2 : Av W a2 n2 c2 b2 m2 d2 m fs p) (hf : fewB l es = true) (hf2 : fewB m fs = false) :
    Calls Tryz.prog 4 #[.agg #[.slice a1 n1 c1, .slice b1 m1 d1], .agg #[.slice a2 n2 c2, .slice b2 m2 d2]] W (TrueEnd W) := by
  have KS := Lib.hid (fun w (hb : Below W.heap.size W w) => mshown_is w (hW.below hb))
  have KF := fun w (hb : Below W.heap.size W w) => Few_is (c := c1) (d := d1) w (h1.v.below hb) h1.z
  rw [hf] at KF
  replace KF := Lib.hid KF
  have KG := fun w (hb : Below W.heap.size W w) => Few_is (c := c2) (d := d2) w (h2.v.below hb) h2.z
  rw [hf2] at KG
  replace KG := Lib.hid KG
  have h := lw_two W h1 h2
  clear hW h1 h2 hf hf2
  go_enter Tryz.func4, Tryz.ntmps4
  go_wp2_with fail
  with_reducible refine (lw h (KS.out _ h.out.2.2.2.2)).mono ?_
  clear h
  rintro e w ⟨rfl, h⟩
  have xv := h.out.2.2.1.c0
  have yv := h.out.2.2.1.c1
  go_wp2_with fail
  with_reducible refine (lw h (KF.out _ h.out.2.2.2.2)).mono ?_
  clear h xv yv
  rintro e w ⟨rfl, h⟩
  have xw := h.out.1.c0
  have yw := h.out.1.c1
  go_wp2_with fail
  with_reducible refine (lw h (KG.out _ h.out.2.2.2.2)).mono ?_
  clear h xw yw
  rintro e w ⟨rfl, h⟩
  go_wp2_with fail
  go_ret
  exact ⟨rfl, h.out.2.2.2.2⟩
set_option maxRecDepth 100000 in
set_option maxHeartbeats 6400000 in
theorem mones_yes {a1 b1 : Option Addr} {n1 c1 m1 d1 : Nat} {l : List Int} {es : List ByteArray} {o : Option Ar} (W : World) (hW : WT W) (h1 : Av W a1 n1 c1 b1 m1 d1 l es o) (hf : fewB l es = true) :
    Calls Tryz.prog 3 #[.agg #[.slice a1 n1 c1, .slice b1 m1 d1]] W (TrueEnd W) := by
  have KS := Lib.hid (fun w (hb : Below W.heap.size W w) => mshown_is w (hW.below hb))
  have KF := fun w (hb : Below W.heap.size W w) => Few_is (c := c1) (d := d1) w (h1.v.below hb) h1.z
  rw [hf] at KF
  replace KF := Lib.hid KF
  have P0 := fun w (hb : Below W.heap.size W w) => MIota_is (h1.below hb) (hW.below hb)
  have R0 := fun w (hb : Below W.heap.size W w) => rIota_is (h1.below hb)
  generalize ioM o = t0 at P0 R0
  obtain ⟨x0, k0⟩ := t0
  replace P0 := Lib.hid P0
  replace R0 := Lib.hid R0
  have P1 := fun w (hb : Below W.heap.size W w) => MTally_is (h1.below hb) (hW.below hb)
  have R1 := fun w (hb : Below W.heap.size W w) => rTally_is (h1.below hb)
  generalize taM o = t1 at P1 R1
  obtain ⟨x1, k1⟩ := t1
  replace P1 := Lib.hid P1
  replace R1 := Lib.hid R1
  have P2 := fun w (hb : Below W.heap.size W w) => MShape_is (h1.below hb) (hW.below hb)
  have R2 := fun w (hb : Below W.heap.size W w) => rShape_is (h1.below hb)
  generalize shM o = t2 at P2 R2
  obtain ⟨x2, k2⟩ := t2
  replace P2 := Lib.hid P2
  replace R2 := Lib.hid R2
  have P3 := fun w (hb : Below W.heap.size W w) => MRavel_is (h1.below hb)
  have R3 := fun w (hb : Below W.heap.size W w) => rRavel_is (h1.below hb)
  generalize raM o = t3 at P3 R3
  obtain ⟨x3, k3⟩ := t3
  replace P3 := Lib.hid P3
  replace R3 := Lib.hid R3
  have P4 := fun w (hb : Below W.heap.size W w) => MReverse_is (h1.below hb)
  have R4 := fun w (hb : Below W.heap.size W w) => rReverse_is (h1.below hb)
  generalize reM o = t4 at P4 R4
  obtain ⟨x4, k4⟩ := t4
  replace P4 := Lib.hid P4
  replace R4 := Lib.hid R4
  have P5 := fun w (hb : Below W.heap.size W w) => MFlip_is (h1.below hb)
  have R5 := fun w (hb : Below W.heap.size W w) => rFlip_is (h1.below hb)
  generalize fiM o = t5 at P5 R5
  obtain ⟨x5, k5⟩ := t5
  replace P5 := Lib.hid P5
  replace R5 := Lib.hid R5
  have h := lw_one W h1
  clear hW h1 hf
  go_enter Tryz.func3, Tryz.ntmps3
  go_wp2_with fail
  with_reducible refine (lw h (KS.out _ h.out.2.2)).mono ?_
  clear h
  rintro e w ⟨rfl, h⟩
  have xv := h.out.1.c0
  have yv := h.out.1.c1
  go_wp2_with fail
  with_reducible refine (lw h (KF.out _ h.out.2.2)).mono ?_
  clear h xv yv
  rintro e w ⟨rfl, h⟩
  have xv := h.out.1.c0
  have yv := h.out.1.c1
  go_wp2_with fail
  with_reducible refine (lw_M h (P0.out _ h.out.2.2)).mono ?_
  clear h xv yv
  rintro e w ⟨aep, nep, cep, bep, mep, dep, rfl, h⟩
  have xv := h.out.2.2.1.c0
  have yv := h.out.2.2.1.c1
  go_wp2_with fail
  with_reducible refine (lw_M h (R0.out _ h.out.2.2.2.2)).mono ?_
  clear h xv yv
  rintro e w ⟨aer, ner, cer, ber, mer, der, rfl, h⟩
  have xv := h.out.2.2.2.2.1.c0
  have yv := h.out.2.2.2.2.1.c1
  go_wp2_with fail
  with_reducible refine (lw_M h (P1.out _ h.out.2.2.2.2.2.2)).mono ?_
  clear h xv yv
  rintro e w ⟨afp, nfp, cfp, bfp, mfp, dfp, rfl, h⟩
  have xv := h.out.2.2.2.2.2.2.1.c0
  have yv := h.out.2.2.2.2.2.2.1.c1
  go_wp2_with fail
  with_reducible refine (lw_M h (R1.out _ h.out.2.2.2.2.2.2.2.2)).mono ?_
  clear h xv yv
  rintro e w ⟨afr, nfr, cfr, bfr, mfr, dfr, rfl, h⟩
  have xv := h.out.2.2.2.2.2.2.2.2.1.c0
  have yv := h.out.2.2.2.2.2.2.2.2.1.c1
  go_wp2_with fail
  with_reducible refine (lw_M h (P2.out _ h.out.2.2.2.2.2.2.2.2.2.2)).mono ?_
  clear h xv yv
  rintro e w ⟨agp, ngp, cgp, bgp, mgp, dgp, rfl, h⟩
  have xv := h.out.2.2.2.2.2.2.2.2.2.2.1.c0
  have yv := h.out.2.2.2.2.2.2.2.2.2.2.1.c1
  go_wp2_with fail
  with_reducible refine (lw_M h (R2.out _ h.out.2.2.2.2.2.2.2.2.2.2.2.2)).mono ?_
  clear h xv yv
  rintro e w ⟨agr, ngr, cgr, bgr, mgr, dgr, rfl, h⟩
  have xv := h.out.2.2.2.2.2.2.2.2.2.2.2.2.1.c0
  have yv := h.out.2.2.2.2.2.2.2.2.2.2.2.2.1.c1
  go_wp2_with fail
  with_reducible refine (lw_M h (P3.out _ h.out.2.2.2.2.2.2.2.2.2.2.2.2.2.2)).mono ?_
  clear h xv yv
  rintro e w ⟨ajp, njp, cjp, bjp, mjp, djp, rfl, h⟩
  have xv := h.out.2.2.2.2.2.2.2.2.2.2.2.2.2.2.1.c0
  have yv := h.out.2.2.2.2.2.2.2.2.2.2.2.2.2.2.1.c1
  go_wp2_with fail
  with_reducible refine (lw_M h (R3.out _ h.out.2.2.2.2.2.2.2.2.2.2.2.2.2.2.2.2)).mono ?_
  clear h xv yv
  rintro e w ⟨ajr, njr, cjr, bjr, mjr, djr, rfl, h⟩
  have xv := h.out.2.2.2.2.2.2.2.2.2.2.2.2.2.2.2.2.1.c0
  have yv := h.out.2.2.2.2.2.2.2.2.2.2.2.2.2.2.2.2.1.c1
  go_wp2_with fail
  with_reducible refine (lw_M h (P4.out _ h.out.2.2.2.2.2.2.2.2.2.2.2.2.2.2.2.2.2.2)).mono ?_
  clear h xv yv
  rintro e w ⟨app, npp, cpp, bpp, mpp, dpp, rfl, h⟩
  have xv := h.out.2.2.2.2.2.2.2.2.2.2.2.2.2.2.2.2.2.2.1.c0
  have yv := h.out.2.2.2.2.2.2.2.2.2.2.2.2.2.2.2.2.2.2.1.c1
  go_wp2_with fail
  with_reducible refine (lw_M h (R4.out _ h.out.2.2.2.2.2.2.2.2.2.2.2.2.2.2.2.2.2.2.2.2)).mono ?_
  clear h xv yv
  rintro e w ⟨apr, npr, cpr, bpr, mpr, dpr, rfl, h⟩
  have xv := h.out.2.2.2.2.2.2.2.2.2.2.2.2.2.2.2.2.2.2.2.2.1.c0
  have yv := h.out.2.2.2.2.2.2.2.2.2.2.2.2.2.2.2.2.2.2.2.2.1.c1
  go_wp2_with fail
  with_reducible refine (lw_M h (P5.out _ h.out.2.2.2.2.2.2.2.2.2.2.2.2.2.2.2.2.2.2.2.2.2.2)).mono ?_
  clear h xv yv
  rintro e w ⟨arp, nrp, crp, brp, mrp, drp, rfl, h⟩
  have xv := h.out.2.2.2.2.2.2.2.2.2.2.2.2.2.2.2.2.2.2.2.2.2.2.1.c0
  have yv := h.out.2.2.2.2.2.2.2.2.2.2.2.2.2.2.2.2.2.2.2.2.2.2.1.c1
  go_wp2_with fail
  with_reducible refine (lw_M h (R5.out _ h.out.2.2.2.2.2.2.2.2.2.2.2.2.2.2.2.2.2.2.2.2.2.2.2.2)).mono ?_
  clear h xv yv
  rintro e w ⟨arr, nrr, crr, brr, mrr, drr, rfl, h⟩
  have xep := h.out.2.2.2.2.2.2.2.2.2.2.2.2.2.2.2.2.2.2.2.2.2.2.1.c0
  have yep := h.out.2.2.2.2.2.2.2.2.2.2.2.2.2.2.2.2.2.2.2.2.2.2.1.c1
  have xer := h.out.2.2.2.2.2.2.2.2.2.2.2.2.2.2.2.2.2.2.2.2.1.c0
  have yer := h.out.2.2.2.2.2.2.2.2.2.2.2.2.2.2.2.2.2.2.2.2.1.c1
  go_wp2_with fail
  with_reducible refine (lw h (VSame_av h.out.2.2.2.2.2.2.2.2.2.2.2.2.2.2.2.2.2.2.2.2.2.2.2.1.v h.out.2.2.2.2.2.2.2.2.2.2.2.2.2.2.2.2.2.2.2.2.2.1.v h.out.2.2.2.2.2.2.2.2.2.2.2.2.2.2.2.2.2.2.2.2.2.2.2.1.ntt h.out.2.2.2.2.2.2.2.2.2.2.2.2.2.2.2.2.2.2.2.2.2.1.ntt rfl rfl)).mono ?_
  clear h xep yep xer yer
  rintro e w ⟨rfl, h⟩
  have xfp := h.out.2.2.2.2.2.2.2.2.2.2.2.2.2.2.2.2.2.2.1.c0
  have yfp := h.out.2.2.2.2.2.2.2.2.2.2.2.2.2.2.2.2.2.2.1.c1
  have xfr := h.out.2.2.2.2.2.2.2.2.2.2.2.2.2.2.2.2.1.c0
  have yfr := h.out.2.2.2.2.2.2.2.2.2.2.2.2.2.2.2.2.1.c1
  go_wp2_with fail
  with_reducible refine (lw h (VSame_av h.out.2.2.2.2.2.2.2.2.2.2.2.2.2.2.2.2.2.2.2.1.v h.out.2.2.2.2.2.2.2.2.2.2.2.2.2.2.2.2.2.1.v h.out.2.2.2.2.2.2.2.2.2.2.2.2.2.2.2.2.2.2.2.1.ntt h.out.2.2.2.2.2.2.2.2.2.2.2.2.2.2.2.2.2.1.ntt rfl rfl)).mono ?_
  clear h xfp yfp xfr yfr
  rintro e w ⟨rfl, h⟩
  have xgp := h.out.2.2.2.2.2.2.2.2.2.2.2.2.2.2.1.c0
  have ygp := h.out.2.2.2.2.2.2.2.2.2.2.2.2.2.2.1.c1
  have xgr := h.out.2.2.2.2.2.2.2.2.2.2.2.2.1.c0
  have ygr := h.out.2.2.2.2.2.2.2.2.2.2.2.2.1.c1
  go_wp2_with fail
  with_reducible refine (lw h (VSame_av h.out.2.2.2.2.2.2.2.2.2.2.2.2.2.2.2.1.v h.out.2.2.2.2.2.2.2.2.2.2.2.2.2.1.v h.out.2.2.2.2.2.2.2.2.2.2.2.2.2.2.2.1.ntt h.out.2.2.2.2.2.2.2.2.2.2.2.2.2.1.ntt rfl rfl)).mono ?_
  clear h xgp ygp xgr ygr
  rintro e w ⟨rfl, h⟩
  have xjp := h.out.2.2.2.2.2.2.2.2.2.2.1.c0
  have yjp := h.out.2.2.2.2.2.2.2.2.2.2.1.c1
  have xjr := h.out.2.2.2.2.2.2.2.2.1.c0
  have yjr := h.out.2.2.2.2.2.2.2.2.1.c1
  go_wp2_with fail
  with_reducible refine (lw h (VSame_av h.out.2.2.2.2.2.2.2.2.2.2.2.1.v h.out.2.2.2.2.2.2.2.2.2.1.v h.out.2.2.2.2.2.2.2.2.2.2.2.1.ntt h.out.2.2.2.2.2.2.2.2.2.1.ntt rfl rfl)).mono ?_
  clear h xjp yjp xjr yjr
  rintro e w ⟨rfl, h⟩
  have xpp := h.out.2.2.2.2.2.2.1.c0
  have ypp := h.out.2.2.2.2.2.2.1.c1
  have xpr := h.out.2.2.2.2.1.c0
  have ypr := h.out.2.2.2.2.1.c1
  go_wp2_with fail
  with_reducible refine (lw h (VSame_av h.out.2.2.2.2.2.2.2.1.v h.out.2.2.2.2.2.1.v h.out.2.2.2.2.2.2.2.1.ntt h.out.2.2.2.2.2.1.ntt rfl rfl)).mono ?_
  clear h xpp ypp xpr ypr
  rintro e w ⟨rfl, h⟩
  have xrp := h.out.2.2.1.c0
  have yrp := h.out.2.2.1.c1
  have xrr := h.out.1.c0
  have yrr := h.out.1.c1
  go_wp2_with fail
  with_reducible refine (lw h (VSame_av h.out.2.2.2.1.v h.out.2.1.v h.out.2.2.2.1.ntt h.out.2.1.ntt rfl rfl)).mono ?_
  clear h xrp yrp xrr yrr
  rintro e w ⟨rfl, h⟩
  go_wp2_with fail
  go_ret
  exact ⟨rfl, h.out.2.2.2.2.2.2.2.2.2.2.2.2.2.2.2.2.2.2.2.2.2.2.2.2.2.2⟩
set_option maxRecDepth 100000 in
set_option maxHeartbeats 6400000 in
theorem mtwos_yes {a1 b1 a2 b2 : Option Addr} {n1 c1 m1 d1 n2 c2 m2 d2 : Nat} {l m : List Int} {es fs : List ByteArray} {o p : Option Ar} (W : World) (hW : WT W) (h1 : Av W a1 n1 c1 b1 m1 d1 l es o) (h2 : Av W a2 n2 c2 b2 m2 d2 m fs p) (hf : fewB l es = true) (hf2 : fewB m fs = true) :
    Calls Tryz.prog 4 #[.agg #[.slice a1 n1 c1, .slice b1 m1 d1], .agg #[.slice a2 n2 c2, .slice b2 m2 d2]] W (TrueEnd W) := by
  have KS := Lib.hid (fun w (hb : Below W.heap.size W w) => mshown_is w (hW.below hb))
  have KF := fun w (hb : Below W.heap.size W w) => Few_is (c := c1) (d := d1) w (h1.v.below hb) h1.z
  rw [hf] at KF
  replace KF := Lib.hid KF
  have KG := fun w (hb : Below W.heap.size W w) => Few_is (c := c2) (d := d2) w (h2.v.below hb) h2.z
  rw [hf2] at KG
  replace KG := Lib.hid KG
  have P0 := fun w (hb : Below W.heap.size W w) => MReshape_is (h1.below hb) (h2.below hb) (hW.below hb)
  have R0 := fun w (hb : Below W.heap.size W w) => rReshape_is (h1.below hb) (h2.below hb)
  generalize rsM o p = t0 at P0 R0
  obtain ⟨x0, k0⟩ := t0
  replace P0 := Lib.hid P0
  replace R0 := Lib.hid R0
  have P1 := fun w (hb : Below W.heap.size W w) => MTake_is (h1.below hb) (h2.below hb) (hW.below hb)
  have R1 := fun w (hb : Below W.heap.size W w) => rTake_is (h1.below hb) (h2.below hb)
  generalize tkM o p = t1 at P1 R1
  obtain ⟨x1, k1⟩ := t1
  replace P1 := Lib.hid P1
  replace R1 := Lib.hid R1
  have P2 := fun w (hb : Below W.heap.size W w) => MDrop_is (h1.below hb) (h2.below hb) (hW.below hb)
  have R2 := fun w (hb : Below W.heap.size W w) => rDrop_is (h1.below hb) (h2.below hb)
  generalize drM o p = t2 at P2 R2
  obtain ⟨x2, k2⟩ := t2
  replace P2 := Lib.hid P2
  replace R2 := Lib.hid R2
  have P3 := fun w (hb : Below W.heap.size W w) => MJoin_is (h1.below hb) (h2.below hb)
  have R3 := fun w (hb : Below W.heap.size W w) => rJoin_is (h1.below hb) (h2.below hb)
  generalize jnM o p = t3 at P3 R3
  obtain ⟨x3, k3⟩ := t3
  replace P3 := Lib.hid P3
  replace R3 := Lib.hid R3
  have h := lw_two W h1 h2
  clear hW h1 h2 hf hf2
  go_enter Tryz.func4, Tryz.ntmps4
  go_wp2_with fail
  with_reducible refine (lw h (KS.out _ h.out.2.2.2.2)).mono ?_
  clear h
  rintro e w ⟨rfl, h⟩
  have xv := h.out.2.2.1.c0
  have yv := h.out.2.2.1.c1
  go_wp2_with fail
  with_reducible refine (lw h (KF.out _ h.out.2.2.2.2)).mono ?_
  clear h xv yv
  rintro e w ⟨rfl, h⟩
  have xw := h.out.1.c0
  have yw := h.out.1.c1
  go_wp2_with fail
  with_reducible refine (lw h (KG.out _ h.out.2.2.2.2)).mono ?_
  clear h xw yw
  rintro e w ⟨rfl, h⟩
  have xv := h.out.2.2.1.c0
  have yv := h.out.2.2.1.c1
  have xw := h.out.1.c0
  have yw := h.out.1.c1
  go_wp2_with fail
  with_reducible refine (lw_M h (P0.out _ h.out.2.2.2.2)).mono ?_
  clear h xv yv xw yw
  rintro e w ⟨aep, nep, cep, bep, mep, dep, rfl, h⟩
  have xv := h.out.2.2.2.2.1.c0
  have yv := h.out.2.2.2.2.1.c1
  have xw := h.out.2.2.1.c0
  have yw := h.out.2.2.1.c1
  go_wp2_with fail
  with_reducible refine (lw_M h (R0.out _ h.out.2.2.2.2.2.2)).mono ?_
  clear h xv yv xw yw
  rintro e w ⟨aer, ner, cer, ber, mer, der, rfl, h⟩
  have xv := h.out.2.2.2.2.2.2.1.c0
  have yv := h.out.2.2.2.2.2.2.1.c1
  have xw := h.out.2.2.2.2.1.c0
  have yw := h.out.2.2.2.2.1.c1
  go_wp2_with fail
  with_reducible refine (lw_M h (P1.out _ h.out.2.2.2.2.2.2.2.2)).mono ?_
  clear h xv yv xw yw
  rintro e w ⟨afp, nfp, cfp, bfp, mfp, dfp, rfl, h⟩
  have xv := h.out.2.2.2.2.2.2.2.2.1.c0
  have yv := h.out.2.2.2.2.2.2.2.2.1.c1
  have xw := h.out.2.2.2.2.2.2.1.c0
  have yw := h.out.2.2.2.2.2.2.1.c1
  go_wp2_with fail
  with_reducible refine (lw_M h (R1.out _ h.out.2.2.2.2.2.2.2.2.2.2)).mono ?_
  clear h xv yv xw yw
  rintro e w ⟨afr, nfr, cfr, bfr, mfr, dfr, rfl, h⟩
  have xv := h.out.2.2.2.2.2.2.2.2.2.2.1.c0
  have yv := h.out.2.2.2.2.2.2.2.2.2.2.1.c1
  have xw := h.out.2.2.2.2.2.2.2.2.1.c0
  have yw := h.out.2.2.2.2.2.2.2.2.1.c1
  go_wp2_with fail
  with_reducible refine (lw_M h (P2.out _ h.out.2.2.2.2.2.2.2.2.2.2.2.2)).mono ?_
  clear h xv yv xw yw
  rintro e w ⟨agp, ngp, cgp, bgp, mgp, dgp, rfl, h⟩
  have xv := h.out.2.2.2.2.2.2.2.2.2.2.2.2.1.c0
  have yv := h.out.2.2.2.2.2.2.2.2.2.2.2.2.1.c1
  have xw := h.out.2.2.2.2.2.2.2.2.2.2.1.c0
  have yw := h.out.2.2.2.2.2.2.2.2.2.2.1.c1
  go_wp2_with fail
  with_reducible refine (lw_M h (R2.out _ h.out.2.2.2.2.2.2.2.2.2.2.2.2.2.2)).mono ?_
  clear h xv yv xw yw
  rintro e w ⟨agr, ngr, cgr, bgr, mgr, dgr, rfl, h⟩
  have xv := h.out.2.2.2.2.2.2.2.2.2.2.2.2.2.2.1.c0
  have yv := h.out.2.2.2.2.2.2.2.2.2.2.2.2.2.2.1.c1
  have xw := h.out.2.2.2.2.2.2.2.2.2.2.2.2.1.c0
  have yw := h.out.2.2.2.2.2.2.2.2.2.2.2.2.1.c1
  go_wp2_with fail
  with_reducible refine (lw_M h (P3.out _ h.out.2.2.2.2.2.2.2.2.2.2.2.2.2.2.2.2)).mono ?_
  clear h xv yv xw yw
  rintro e w ⟨ajp, njp, cjp, bjp, mjp, djp, rfl, h⟩
  have xv := h.out.2.2.2.2.2.2.2.2.2.2.2.2.2.2.2.2.1.c0
  have yv := h.out.2.2.2.2.2.2.2.2.2.2.2.2.2.2.2.2.1.c1
  have xw := h.out.2.2.2.2.2.2.2.2.2.2.2.2.2.2.1.c0
  have yw := h.out.2.2.2.2.2.2.2.2.2.2.2.2.2.2.1.c1
  go_wp2_with fail
  with_reducible refine (lw_M h (R3.out _ h.out.2.2.2.2.2.2.2.2.2.2.2.2.2.2.2.2.2.2)).mono ?_
  clear h xv yv xw yw
  rintro e w ⟨ajr, njr, cjr, bjr, mjr, djr, rfl, h⟩
  have xep := h.out.2.2.2.2.2.2.2.2.2.2.2.2.2.2.1.c0
  have yep := h.out.2.2.2.2.2.2.2.2.2.2.2.2.2.2.1.c1
  have xer := h.out.2.2.2.2.2.2.2.2.2.2.2.2.1.c0
  have yer := h.out.2.2.2.2.2.2.2.2.2.2.2.2.1.c1
  go_wp2_with fail
  with_reducible refine (lw h (VSame_av h.out.2.2.2.2.2.2.2.2.2.2.2.2.2.2.2.1.v h.out.2.2.2.2.2.2.2.2.2.2.2.2.2.1.v h.out.2.2.2.2.2.2.2.2.2.2.2.2.2.2.2.1.ntt h.out.2.2.2.2.2.2.2.2.2.2.2.2.2.1.ntt rfl rfl)).mono ?_
  clear h xep yep xer yer
  rintro e w ⟨rfl, h⟩
  have xfp := h.out.2.2.2.2.2.2.2.2.2.2.1.c0
  have yfp := h.out.2.2.2.2.2.2.2.2.2.2.1.c1
  have xfr := h.out.2.2.2.2.2.2.2.2.1.c0
  have yfr := h.out.2.2.2.2.2.2.2.2.1.c1
  go_wp2_with fail
  with_reducible refine (lw h (VSame_av h.out.2.2.2.2.2.2.2.2.2.2.2.1.v h.out.2.2.2.2.2.2.2.2.2.1.v h.out.2.2.2.2.2.2.2.2.2.2.2.1.ntt h.out.2.2.2.2.2.2.2.2.2.1.ntt rfl rfl)).mono ?_
  clear h xfp yfp xfr yfr
  rintro e w ⟨rfl, h⟩
  have xgp := h.out.2.2.2.2.2.2.1.c0
  have ygp := h.out.2.2.2.2.2.2.1.c1
  have xgr := h.out.2.2.2.2.1.c0
  have ygr := h.out.2.2.2.2.1.c1
  go_wp2_with fail
  with_reducible refine (lw h (VSame_av h.out.2.2.2.2.2.2.2.1.v h.out.2.2.2.2.2.1.v h.out.2.2.2.2.2.2.2.1.ntt h.out.2.2.2.2.2.1.ntt rfl rfl)).mono ?_
  clear h xgp ygp xgr ygr
  rintro e w ⟨rfl, h⟩
  have xjp := h.out.2.2.1.c0
  have yjp := h.out.2.2.1.c1
  have xjr := h.out.1.c0
  have yjr := h.out.1.c1
  go_wp2_with fail
  with_reducible refine (lw h (VSame_av h.out.2.2.2.1.v h.out.2.1.v h.out.2.2.2.1.ntt h.out.2.1.ntt rfl rfl)).mono ?_
  clear h xjp yjp xjr yjr
  rintro e w ⟨rfl, h⟩
  go_wp2_with fail
  go_ret
  exact ⟨rfl, h.out.2.2.2.2.2.2.2.2.2.2.2.2.2.2.2.2.2.2.2.2⟩
theorem mones_any {a1 b1 : Option Addr} {n1 c1 m1 d1 : Nat} {l : List Int} {es : List ByteArray} (W : World) (hW : WT W) (hV : Vl W a1 n1 b1 m1 l es) (hC : Cp n1 c1 m1 d1) (hZ : ∀ j, j < m1 → (es.getD j ByteArray.empty).size ≤ maxLen) :
    Calls Tryz.prog 3 #[.agg #[.slice a1 n1 c1, .slice b1 m1 d1]] W (TrueEnd W) := by
  obtain ⟨o, ho⟩ := ais_ex l es
  rcases Bool.eq_false_or_eq_true (fewB l es) with h | h
  · exact mones_yes W hW ⟨hV, hC, hZ, ho⟩ h
  · exact mones_few W hW ⟨hV, hC, hZ, ho⟩ h
theorem mtwos_any {a1 b1 a2 b2 : Option Addr} {n1 c1 m1 d1 n2 c2 m2 d2 : Nat} {l m : List Int} {es fs : List ByteArray} (W : World) (hW : WT W) (hV : Vl W a1 n1 b1 m1 l es) (hC : Cp n1 c1 m1 d1) (hZ : ∀ j, j < m1 → (es.getD j ByteArray.empty).size ≤ maxLen) (hV2 : Vl W a2 n2 b2 m2 m fs) (hC2 : Cp n2 c2 m2 d2) (hZ2 : ∀ j, j < m2 → (fs.getD j ByteArray.empty).size ≤ maxLen) :
    Calls Tryz.prog 4 #[.agg #[.slice a1 n1 c1, .slice b1 m1 d1], .agg #[.slice a2 n2 c2, .slice b2 m2 d2]] W (TrueEnd W) := by
  obtain ⟨o, ho⟩ := ais_ex l es
  obtain ⟨p, hp⟩ := ais_ex m fs
  rcases Bool.eq_false_or_eq_true (fewB l es) with h | h
  · rcases Bool.eq_false_or_eq_true (fewB m fs) with g | g
    · exact mtwos_yes W hW ⟨hV, hC, hZ, ho⟩ ⟨hV2, hC2, hZ2, hp⟩ h g
    · exact mtwos_few2 W hW ⟨hV, hC, hZ, ho⟩ ⟨hV2, hC2, hZ2, hp⟩ h g
  · exact mtwos_few1 W hW ⟨hV, hC, hZ, ho⟩ ⟨hV2, hC2, hZ2, hp⟩ h
end Go.Proofs.YtjpjccilnmlmnaaGreatDoor

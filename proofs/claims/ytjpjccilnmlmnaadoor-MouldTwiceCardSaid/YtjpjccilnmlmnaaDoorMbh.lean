import Derived.Test.YtjpjccilnmlmnaaDoorMbg
/-
  MouldTwice at every array.
-/
namespace Go.Proofs.YtjpjccilnmlmnaaDoor
set_option linter.unusedVariables false
set_option linter.unusedSimpArgs false
open Go.RowKit

set_option maxRecDepth 100000 in
set_option maxHeartbeats 6400000 in
theorem mtwice_few {a1 b1 : Option Addr} {n1 c1 m1 d1 : Nat} {l : List Int} {es : List ByteArray} {o : Option Ar} (W : World) (hW : WT W) (h1 : Av W a1 n1 c1 b1 m1 d1 l es o) (hf : fewB l es = false) :
    Calls Tryd.prog 4 #[.agg #[.slice a1 n1 c1, .slice b1 m1 d1]] W (TrueEnd W) := by
  have KW := Lib.hid (fun w (hb : Below W.heap.size W w) => hW.below hb)
  have KS := Lib.hid (fun w (hb : Below W.heap.size W w) => mshown_is w (hW.below hb))
  have KF := fun w (hb : Below W.heap.size W w) => Few_is (c := c1) (d := d1) w (h1.v.below hb) h1.z
  rw [hf] at KF
  replace KF := Lib.hid KF
  have h := lw_one W h1
  clear hW h1 hf
  go_enter Tryd.func4, Tryd.ntmps4
  go_wp2_with fail
  with_reducible refine (lw h (KS.out _ h.out.2.2)).mono ?_
  clear h
  rintro e w ⟨rfl, h⟩
  have xv := h.out.1.c0
  have yv := h.out.1.c1
  go_wp2_with fail
  with_reducible refine (lw h (KF.out _ h.out.2.2)).mono ?_
  clear h xv yv
  rintro e w ⟨rfl, h⟩
  go_wp2_with fail
  go_ret
  exact ⟨rfl, h.out.2.2⟩
set_option maxRecDepth 100000 in
set_option maxHeartbeats 6400000 in
theorem mtwice_may {a1 b1 : Option Addr} {n1 c1 m1 d1 : Nat} {l : List Int} {es : List ByteArray} (W : World) (hW : WT W) (h1 : Av W a1 n1 c1 b1 m1 d1 l es none) (hf : fewB l es = true) :
    Calls Tryd.prog 4 #[.agg #[.slice a1 n1 c1, .slice b1 m1 d1]] W (TrueEnd W) := by
  have KW := Lib.hid (fun w (hb : Below W.heap.size W w) => hW.below hb)
  have KS := Lib.hid (fun w (hb : Below W.heap.size W w) => mshown_is w (hW.below hb))
  have KF := fun w (hb : Below W.heap.size W w) => Few_is (c := c1) (d := d1) w (h1.v.below hb) h1.z
  rw [hf] at KF
  replace KF := Lib.hid KF
  have KM := Lib.hid (fun w (hb : Below W.heap.size W w) => VMay_av (h1.below hb))
  have h := lw_one W h1
  clear hW h1 hf
  go_enter Tryd.func4, Tryd.ntmps4
  go_wp2_with fail
  with_reducible refine (lw h (KS.out _ h.out.2.2)).mono ?_
  clear h
  rintro e w ⟨rfl, h⟩
  have xv := h.out.1.c0
  have yv := h.out.1.c1
  go_wp2_with fail
  with_reducible refine (lw h (KF.out _ h.out.2.2)).mono ?_
  clear h xv yv
  rintro e w ⟨rfl, h⟩
  have xv := h.out.1.c0
  have yv := h.out.1.c1
  go_wp2_with fail
  with_reducible refine (lw h (KM.out _ h.out.2.2)).mono ?_
  clear h xv yv
  rintro e w ⟨rfl, h⟩
  go_wp2_with fail
  go_ret
  exact ⟨rfl, h.out.2.2⟩
set_option maxRecDepth 100000 in
set_option maxHeartbeats 6400000 in
theorem mtwice_yes {a1 b1 : Option Addr} {n1 c1 m1 d1 : Nat} {l : List Int} {es : List ByteArray} {q : Ar} (W : World) (hW : WT W) (h1 : Av W a1 n1 c1 b1 m1 d1 l es (some q)) (hf : fewB l es = true) :
    Calls Tryd.prog 4 #[.agg #[.slice a1 n1 c1, .slice b1 m1 d1]] W (TrueEnd W) := by
  have hfit := h1.fits
  have E1 := Lib.hid (rvM_twice hfit)
  have E2 := Lib.hid (flM_twice hfit)
  have E3 := Lib.hid (shape_again hfit)
  have hmay := szE_may.1 h1.sz
  have HA := Lib.hid (fun j (hj : j < n1) => hmay.le j (by rw [h1.v.s.1]; exact hj))
  have HE := Lib.hid (show (TS (some q)).1 = l ∧ (TS (some q)).2 = es from ⟨h1.fst, h1.i.2.1.symm⟩)
  have hn3 := h1.n3
  have KW := Lib.hid (fun w (hb : Below W.heap.size W w) => hW.below hb)
  have KS := Lib.hid (fun w (hb : Below W.heap.size W w) => mshown_is w (hW.below hb))
  have KF := fun w (hb : Below W.heap.size W w) => Few_is (c := c1) (d := d1) w (h1.v.below hb) h1.z
  rw [hf] at KF
  replace KF := Lib.hid KF
  have KM := Lib.hid (fun w (hb : Below W.heap.size W w) => VMay_av (h1.below hb))
  have h := lw_one W h1
  clear hW h1 hf hfit hmay
  go_enter Tryd.func4, Tryd.ntmps4
  go_wp2_with fail
  with_reducible refine (lw h (KS.out _ h.out.2.2)).mono ?_
  clear h
  rintro e w ⟨rfl, h⟩
  have xv := h.out.1.c0
  have yv := h.out.1.c1
  go_wp2_with fail
  with_reducible refine (lw h (KF.out _ h.out.2.2)).mono ?_
  clear h xv yv
  rintro e w ⟨rfl, h⟩
  have xv := h.out.1.c0
  have yv := h.out.1.c1
  go_wp2_with fail
  with_reducible refine (lw h (KM.out _ h.out.2.2)).mono ?_
  clear h xv yv
  rintro e w ⟨rfl, h⟩
  have xv := h.out.1.c0
  have yv := h.out.1.c1
  go_wp2_with fail
  have HX := MReverse_is h.out.2.1
  rw [show reM (some q) = (some (q.1, rvM q.1 q.2), 0) from rfl] at HX
  with_reducible refine (lw_M h HX).mono ?_
  clear h HX xv yv
  rintro e wa ⟨aa, na, ca, ba, ma, da, rfl, h⟩
  have xa := h.out.1.c0
  have ya := h.out.1.c1
  go_wp2_with fail
  have HX := MReverse_is h.out.2.1
  rw [show reM (some (q.1, rvM q.1 q.2)) = (some q, 0) by show (some (q.1, rvM q.1 (rvM q.1 q.2)), (0 : Int)) = _; rw [E1.out]] at HX
  with_reducible refine (lw_M h HX).mono ?_
  clear h HX xa ya
  rintro e wb ⟨ab, nb, cb, bb, mb, db, rfl, h⟩
  have xv := h.out.2.2.2.2.1.c0
  have yv := h.out.2.2.2.2.1.c1
  go_wp2_with fail
  have HX := MFlip_is h.out.2.2.2.2.2.1
  rw [show fiM (some q) = (some (q.1.reverse, flM q.1 q.2), 0) from rfl] at HX
  with_reducible refine (lw_M h HX).mono ?_
  clear h HX xv yv
  rintro e wc ⟨ac, nc, cc, bc, mc, dc, rfl, h⟩
  have xc := h.out.1.c0
  have yc := h.out.1.c1
  go_wp2_with fail
  have HX := MFlip_is h.out.2.1
  rw [show fiM (some (q.1.reverse, flM q.1 q.2)) = (some q, 0) by show (some (q.1.reverse.reverse, flM q.1.reverse (flM q.1 q.2)), (0 : Int)) = _; rw [E2.out, List.reverse_reverse]] at HX
  with_reducible refine (lw_M h HX).mono ?_
  clear h HX xc yc
  rintro e wf ⟨af, nf, cf, bf, mf, df, rfl, h⟩
  have xv := h.out.2.2.2.2.2.2.2.2.1.c0
  have yv := h.out.2.2.2.2.2.2.2.2.1.c1
  go_wp2_with fail
  have HX := MShape_is h.out.2.2.2.2.2.2.2.2.2.1 (KW.out _ h.out.2.2.2.2.2.2.2.2.2.2)
  rw [show shM (some q) = (some ([(q.1.length : Int)], q.1), 0) from rfl] at HX
  with_reducible refine (lw_M h HX).mono ?_
  clear h HX xv yv
  rintro e wp ⟨ap, np, cp, bp, mp, dp, rfl, h⟩
  have xv := h.out.2.2.2.2.2.2.2.2.2.2.1.c0
  have yv := h.out.2.2.2.2.2.2.2.2.2.2.1.c1
  go_wp2_with fail
  have HX := MRavel_is h.out.2.2.2.2.2.2.2.2.2.2.2.1
  rw [show raM (some q) = (some ([(q.2.length : Int)], q.2), 0) from rfl] at HX
  with_reducible refine (lw_M h HX).mono ?_
  clear h HX xv yv
  rintro e wr ⟨ar, nr, cr, br, mr, dr, rfl, h⟩
  have xp := h.out.2.2.1.c0
  have yp := h.out.2.2.1.c1
  have xr := h.out.1.c0
  have yr := h.out.1.c1
  go_wp2_with fail
  have HX := MReshape_is h.out.2.2.2.1 h.out.2.1 (KW.out _ h.out.2.2.2.2.2.2.2.2.2.2.2.2.2.2)
  rw [show rsM (some ([(q.1.length : Int)], q.1)) (some ([(q.2.length : Int)], q.2)) = (some q, 0) from E3.out] at HX
  with_reducible refine (lw_M h HX).mono ?_
  clear h HX xp yp xr yr
  rintro e we ⟨ae, ne, ce, be, me, de, rfl, h⟩
  have xv := h.out.2.2.2.2.2.2.2.2.2.2.2.2.2.2.1.c0
  have yv := h.out.2.2.2.2.2.2.2.2.2.2.2.2.2.2.1.c1
  go_wp2_with fail
  generalize hwz : we.alloc (.cells #[.slice ae ne ce, .slice be me de] 25) = wz at *
  have HS := Lib.hid h.out.2.2.2.2.2.2.2.2.2.2.2.2.2.2.2.1.v.s
  go_loop [18, 19] (fun la i => ∃ k : Nat, i = .int .i64 k ∧ k ≤ n1 ∧ la = .bool false) (fun _ i => n1 - (intOf i).toNat)
  case atStart => exact ⟨0, rfl, by omega, rfl⟩
  case round =>
    obtain ⟨k, rfl, hk, rfl⟩ := hrel
    by_cases hlt : k < n1
    · have e2 : (k : Int) < (n1 : Int) := by omega
      obtain ⟨bb, off, rfl, hc⟩ := HS.out.2 (by omega)
      have hck := hc k hlt
      have hle := HA.out k hlt
      obtain ⟨x, hx⟩ : ∃ x, x = l.getD k 0 := ⟨_, rfl⟩
      rw [← hx] at hck hle
      have e3 : ¬ ((1099511627776 : Int) < x) := by omega
      clear hc hx hle h
      go_wp2_with fail
      go_round
      case rel => exact ⟨k + 1, by go_num, by omega, rfl⟩
      case measure => simp [intOf]; omega
    · have e2 : ¬ (k : Int) < (n1 : Int) := by omega
      clear xv yv
      have xb := h.out.2.2.2.2.2.2.2.2.2.2.1.c0
      have yb := h.out.2.2.2.2.2.2.2.2.2.2.1.c1
      have xv := h.out.2.2.2.2.2.2.2.2.2.2.2.2.2.2.1.c0
      have yv := h.out.2.2.2.2.2.2.2.2.2.2.2.2.2.2.1.c1
      go_wp2_with fail
      with_reducible refine (lw h (VSame_av h.out.2.2.2.2.2.2.2.2.2.2.2.1.v h.out.2.2.2.2.2.2.2.2.2.2.2.2.2.2.2.1.v (by have := h.out.2.2.2.2.2.2.2.2.2.2.2.1.n3; omega) (by omega) HE.out.1 HE.out.2)).mono ?_
      clear h xb yb xv yv
      rintro e w ⟨rfl, h⟩
      have xf := h.out.2.2.2.2.2.2.1.c0
      have yf := h.out.2.2.2.2.2.2.1.c1
      have xv := h.out.2.2.2.2.2.2.2.2.2.2.2.2.2.2.1.c0
      have yv := h.out.2.2.2.2.2.2.2.2.2.2.2.2.2.2.1.c1
      go_wp2_with fail
      with_reducible refine (lw h (VSame_av h.out.2.2.2.2.2.2.2.1.v h.out.2.2.2.2.2.2.2.2.2.2.2.2.2.2.2.1.v (by have := h.out.2.2.2.2.2.2.2.1.n3; omega) (by omega) HE.out.1 HE.out.2)).mono ?_
      clear h xf yf xv yv
      rintro e w ⟨rfl, h⟩
      have xa := h.out.2.2.2.2.2.2.2.2.2.2.2.2.1.c0
      have ya := h.out.2.2.2.2.2.2.2.2.2.2.2.2.1.c1
      go_wp2_with fail
      with_reducible refine (lw h (VMay_av h.out.2.2.2.2.2.2.2.2.2.2.2.2.2.1)).mono ?_
      clear h xa ya
      rintro e w ⟨rfl, h⟩
      have xc := h.out.2.2.2.2.2.2.2.2.1.c0
      have yc := h.out.2.2.2.2.2.2.2.2.1.c1
      go_wp2_with fail
      with_reducible refine (lw h (VMay_av h.out.2.2.2.2.2.2.2.2.2.1)).mono ?_
      clear h xc yc
      rintro e w ⟨rfl, h⟩
      have xe := h.out.1.c0
      have ye := h.out.1.c1
      have xv := h.out.2.2.2.2.2.2.2.2.2.2.2.2.2.2.1.c0
      have yv := h.out.2.2.2.2.2.2.2.2.2.2.2.2.2.2.1.c1
      go_wp2_with fail
      with_reducible refine (lw h (VSame_av h.out.2.1.v h.out.2.2.2.2.2.2.2.2.2.2.2.2.2.2.2.1.v (by have := h.out.2.1.n3; omega) (by omega) HE.out.1 HE.out.2)).mono ?_
      clear h xe ye xv yv
      rintro e w ⟨rfl, h⟩
      go_wp2_with fail
      go_ret
      exact ⟨rfl, h.out.2.2.2.2.2.2.2.2.2.2.2.2.2.2.2.2⟩
theorem mtwice_any {a1 b1 : Option Addr} {n1 c1 m1 d1 : Nat} {l : List Int} {es : List ByteArray} (W : World) (hW : WT W) (hV : Vl W a1 n1 b1 m1 l es) (hC : Cp n1 c1 m1 d1) (hZ : ∀ j, j < m1 → (es.getD j ByteArray.empty).size ≤ maxLen) :
    Calls Tryd.prog 4 #[.agg #[.slice a1 n1 c1, .slice b1 m1 d1]] W (TrueEnd W) := by
  obtain ⟨o, ho⟩ := ais_ex l es
  rcases Bool.eq_false_or_eq_true (fewB l es) with h | h
  · cases o with
    | none => exact mtwice_may W hW ⟨hV, hC, hZ, ho⟩ h
    | some q => exact mtwice_yes W hW ⟨hV, hC, hZ, ho⟩ h
  · exact mtwice_few W hW ⟨hV, hC, hZ, ho⟩ h
end Go.Proofs.YtjpjccilnmlmnaaDoor

import Derived.Test.YtpledghphljfkaaDoorMba
import Derived.Test.YtpledghphljfkaaDoorMao
/-
  SeekRises at every array.
-/
namespace Go.Proofs.YtpledghphljfkaaDoor
set_option linter.unusedVariables false
set_option linter.unusedSimpArgs false
open Go.RowKit

/-- What the calls of SeekRises tell, all of them. -/
theorem rises_all {q : Ar} (hq : q.1 = [(q.2.length : Int)]) (hm : q.2.length ≤ 4096) : ∃ U X D Y B : List Int,
    upK 1 (some q) = (some ([(q.2.length : Int)], U), 0) ∧ ixK (some q) (some ([(q.2.length : Int)], U)) = (some ([(q.2.length : Int)], X), 0) ∧
    upK (-1) (some q) = (some ([(q.2.length : Int)], D), 0) ∧ ixK (some q) (some ([(q.2.length : Int)], D)) = (some ([(q.2.length : Int)], Y), 0) ∧
    upK 1 (some ([(q.2.length : Int)], U)) = (some ([(q.2.length : Int)], B), 0) ∧ ixK (some ([(q.2.length : Int)], X)) (some ([(q.2.length : Int)], B)) = (some q, 0) ∧
    (U.length = q.2.length ∧ X.length = q.2.length ∧ Y.length = q.2.length) ∧
    ∀ k, k + 1 < q.2.length → (X.getD k 0 < X.getD (k + 1) 0 ∨ X.getD k 0 = X.getD (k + 1) 0 ∧ U.getD k 0 < U.getD (k + 1) 0) ∧ Y.getD (k + 1) 0 ≤ Y.getD k 0 := by
  have hl1 : q.1.length = 1 := by rw [hq]; rfl
  obtain ⟨L, hL⟩ : ∃ L, L = orL (fun i => 1 * q.2.getD i 0) q.2.length := ⟨_, rfl⟩
  obtain ⟨M, hM⟩ : ∃ M, M = orL (fun i => (-1) * q.2.getD i 0) q.2.length := ⟨_, rfl⟩
  have hLl : L.length = q.2.length := by rw [hL]; exact or_len _ _
  have hMl : M.length = q.2.length := by rw [hM]; exact or_len _ _
  have hLt : ∀ i ∈ L, i < q.2.length := by rw [hL]; exact or_lt
  have hMt : ∀ i ∈ M, i < q.2.length := by rw [hM]; exact or_lt
  have hUl : (intL L).length = q.2.length := by rw [intL_len, hLl]
  have x1 := ix_vec hq hm hLt (by omega)
  have x2 := ix_vec hq hm hMt (by omega)
  rw [hLl] at x1
  rw [hMl] at x2
  obtain ⟨B, hB⟩ : ∃ B, B = orL (fun i => 1 * (intL L).getD i 0) q.2.length := ⟨_, rfl⟩
  have hBl : B.length = q.2.length := by rw [hB]; exact or_len _ _
  have u1 := up_yes 1 hl1
  have u2 := up_yes (-1) hl1
  have u3 := up_yes 1 (q := ([(q.2.length : Int)], intL L)) rfl
  rw [← hL] at u1
  rw [← hM] at u2
  have u3' : upK 1 (some ([(q.2.length : Int)], intL L)) = (some ([(q.2.length : Int)], intL B), 0) := by
    rw [u3]
    show (some ([((intL L).length : Int)], intL (orL (fun i => 1 * (intL L).getD i 0) (intL L).length)), (0 : Int)) = _
    rw [hUl, ← hB]
  have x3 := ix_vec (q := ([(q.2.length : Int)], L.map fun i => q.2.getD i 0)) (L := B) (by show [(q.2.length : Int)] = [((L.map fun i => q.2.getD i 0).length : Int)]; rw [List.length_map, hLl]) (by show (L.map fun i => q.2.getD i 0).length ≤ 4096; rw [List.length_map, hLl]; exact hm) (fun i hi => by
    show i < (L.map fun i => q.2.getD i 0).length
    rw [List.length_map, hLl]
    rw [hB] at hi
    exact or_lt i hi) (by omega)
  rw [hBl] at x3
  refine ⟨intL L, L.map fun i => q.2.getD i 0, intL M, M.map fun i => q.2.getD i 0, intL B, u1, x1, u2, x2, u3', ?_, ⟨hUl, by rw [List.length_map, hLl], by rw [List.length_map, hMl]⟩, fun k hk => ⟨?_, ?_⟩⟩
  · rw [x3]
    have hb := or_back q.2
    rw [← hL, ← hB] at hb
    show (some ([(q.2.length : Int)], B.map fun i => (L.map fun i => q.2.getD i 0).getD i 0), (0 : Int)) = _
    rw [hb, ← hq]
  · have h := or_rises 1 q.2 hk
    dsimp only at h
    rw [← hL] at h
    rcases h with h | ⟨h, h2⟩
    · exact .inl (by omega)
    · exact .inr ⟨by omega, h2⟩
  · have h := or_rises (-1) q.2 hk
    dsimp only at h
    rw [← hM] at h
    rcases h with h | ⟨h, _⟩ <;> omega
theorem cmp_S {x y : Int} (hx : x.natAbs < lim) (hy : y.natAbs < lim) (w : World) : Calls Tryd.prog 13 #[.string (S x), .string (S y)] w (CmpPost (cmpI x y) w) := Cmp_opt (s := S x) (t := S y) (o := some x) (p := some y) w ⟨rfl, hx⟩ ⟨rfl, hy⟩
theorem cmpI_le {x y : Int} (h : x ≤ y) : ¬ 0 < cmpI x y := by unfold cmpI; split <;> (try split) <;> omega
theorem cmpI_lt {x y : Int} (h : x < y) : cmpI x y = -1 := by unfold cmpI; rw [if_pos h]
theorem cmpI_eq {x y : Int} (h : x = y) : cmpI x y = 0 := by unfold cmpI; rw [if_neg (by omega), if_neg (by omega)]
theorem cmpI_ge {x y : Int} (h : y ≤ x) : ¬ cmpI x y < 0 := by unfold cmpI; split <;> (try split) <;> omega
set_option maxRecDepth 100000 in
set_option maxHeartbeats 6400000 in
theorem srises_few {a1 b1 : Option Addr} {n1 c1 m1 d1 : Nat} {l : List Int} {es : List ByteArray} {o : Option Ar} (W : World) (hW : WT W) (h1 : Av W a1 n1 c1 b1 m1 d1 l es o) (hf1 : fewB l es = false) :
    Calls Tryd.prog 3 #[.agg #[.slice a1 n1 c1, .slice b1 m1 d1]] W (TrueEnd W) := by
  have KS := Lib.hid (fun w (hb : Below W.heap.size W w) => kshown_is w (hW.below hb))
  have KF1 := fun w (hb : Below W.heap.size W w) => Few_is (c := c1) (d := d1) w (h1.v.below hb) h1.z
  rw [hf1] at KF1
  replace KF1 := Lib.hid KF1
  have h := lw_one W h1
  clear hW h1 hf1
  go_enter Tryd.func3, Tryd.ntmps3
  go_wp2_with fail
  with_reducible refine (lw h (KS.out _ h.out.2.2)).mono ?_
  clear h
  rintro e w ⟨rfl, h⟩
  have xv := h.out.1.c0
  have yv := h.out.1.c1
  go_wp2_with fail
  with_reducible refine (lw h (KF1.out _ h.out.2.2)).mono ?_
  clear h xv yv
  rintro e w ⟨rfl, h⟩
  go_wp2_with fail
  go_ret
  exact ⟨rfl, h.out.2.2⟩
set_option maxRecDepth 100000 in
set_option maxHeartbeats 6400000 in
theorem srises_none {a1 b1 : Option Addr} {n1 c1 m1 d1 : Nat} {l : List Int} {es : List ByteArray}  (W : World) (hW : WT W) (h1 : Av W a1 n1 c1 b1 m1 d1 l es none) (hf1 : fewB l es = true) :
    Calls Tryd.prog 3 #[.agg #[.slice a1 n1 c1, .slice b1 m1 d1]] W (TrueEnd W) := by
  have KS := Lib.hid (fun w (hb : Below W.heap.size W w) => kshown_is w (hW.below hb))
  have KF1 := fun w (hb : Below W.heap.size W w) => Few_is (c := c1) (d := d1) w (h1.v.below hb) h1.z
  rw [hf1] at KF1
  replace KF1 := Lib.hid KF1
  have KV :=  Lib.hid (fun w (hb : Below W.heap.size W w) => VMay_av (h1.below hb))
  have h := lw_one W h1
  clear hW h1 hf1
  go_enter Tryd.func3, Tryd.ntmps3
  go_wp2_with fail
  with_reducible refine (lw h (KS.out _ h.out.2.2)).mono ?_
  clear h
  rintro e w ⟨rfl, h⟩
  have xv := h.out.1.c0
  have yv := h.out.1.c1
  go_wp2_with fail
  with_reducible refine (lw h (KF1.out _ h.out.2.2)).mono ?_
  clear h xv yv
  rintro e w ⟨rfl, h⟩
  have xv := h.out.1.c0
  have yv := h.out.1.c1
  go_wp2_with fail
  with_reducible refine (lw h (KV.out _ h.out.2.2)).mono ?_
  clear h xv yv
  rintro e w ⟨rfl, h⟩
  go_wp2_with fail
  go_ret
  exact ⟨rfl, h.out.2.2⟩
set_option maxRecDepth 100000 in
set_option maxHeartbeats 6400000 in
theorem srises_rank {a1 b1 : Option Addr} {n1 c1 m1 d1 : Nat} {l : List Int} {es : List ByteArray} {q : Ar} (W : World) (hW : WT W) (h1 : Av W a1 n1 c1 b1 m1 d1 l es (some q)) (hf1 : fewB l es = true) (hn : n1 ≠ 1) :
    Calls Tryd.prog 3 #[.agg #[.slice a1 n1 c1, .slice b1 m1 d1]] W (TrueEnd W) := by
  have KS := Lib.hid (fun w (hb : Below W.heap.size W w) => kshown_is w (hW.below hb))
  have KF1 := fun w (hb : Below W.heap.size W w) => Few_is (c := c1) (d := d1) w (h1.v.below hb) h1.z
  rw [hf1] at KF1
  replace KF1 := Lib.hid KF1
  have KV := Lib.hid (fun w (hb : Below W.heap.size W w) => VMay_av (h1.below hb))
  have hn1 : (n1 : Int) ≠ 1 := by omega
  have h := lw_one W h1
  clear hW h1 hf1
  go_enter Tryd.func3, Tryd.ntmps3
  go_wp2_with fail
  with_reducible refine (lw h (KS.out _ h.out.2.2)).mono ?_
  clear h
  rintro e w ⟨rfl, h⟩
  have xv := h.out.1.c0
  have yv := h.out.1.c1
  go_wp2_with fail
  with_reducible refine (lw h (KF1.out _ h.out.2.2)).mono ?_
  clear h xv yv
  rintro e w ⟨rfl, h⟩
  have xv := h.out.1.c0
  have yv := h.out.1.c1
  go_wp2_with fail
  with_reducible refine (lw h (KV.out _ h.out.2.2)).mono ?_
  clear h xv yv
  rintro e w ⟨rfl, h⟩
  have xv := h.out.1.c0
  have yv := h.out.1.c1
  go_wp2_with fail
  go_ret
  exact ⟨rfl, h.out.2.2⟩
set_option maxRecDepth 100000 in
set_option maxHeartbeats 6400000 in
theorem srises_yes {a1 b1 : Option Addr} {n1 c1 m1 d1 : Nat} {l : List Int} {es : List ByteArray} {q : Ar} (W : World) (hW : WT W) (h1 : Av W a1 n1 c1 b1 m1 d1 l es (some q)) (hf1 : fewB l es = true) (hn : n1 = 1) :
    Calls Tryd.prog 3 #[.agg #[.slice a1 n1 c1, .slice b1 m1 d1]] W (TrueEnd W) := by
  have KS := Lib.hid (fun w (hb : Below W.heap.size W w) => kshown_is w (hW.below hb))
  have KF1 := fun w (hb : Below W.heap.size W w) => Few_is (c := c1) (d := d1) w (h1.v.below hb) h1.z
  rw [hf1] at KF1
  replace KF1 := Lib.hid KF1
  have KV := Lib.hid (fun w (hb : Below W.heap.size W w) => VMay_av (h1.below hb))
  have hn1 : (n1 : Int) = 1 := by omega
  have hq := vec_one h1.i.rok (by rw [h1.fst, h1.v.s.1]; exact hn)
  have hm4 := h1.mlen.2.2
  have hml := h1.mlen.1
  obtain ⟨U, X, D, Y, B, t1, t2, t3, t4, t5, t6, ⟨tu, tx, ty⟩, tk⟩ := rises_all hq (by rw [← hml]; exact hm4)
  rw [← hml] at t1 t2 t3 t4 t5 t6 tu tx ty tk
  have KW := Lib.hid (fun w (hb : Below W.heap.size W w) => hW.below hb)
  have K1 := Lib.hid (fun w (hb : Below W.heap.size W w) => (by have k := SUp_is (h1.below hb) (KW.out w hb); rwa [t1] at k : Calls Tryd.prog 10 #[.agg #[.slice a1 n1 c1, .slice b1 m1 d1]] w (MEnd (some ([(m1 : Int)], U), 0) w)))
  have K3 := Lib.hid (fun w (hb : Below W.heap.size W w) => (by have k := SDown_is (h1.below hb) (KW.out w hb); rwa [t3] at k : Calls Tryd.prog 12 #[.agg #[.slice a1 n1 c1, .slice b1 m1 d1]] w (MEnd (some ([(m1 : Int)], D), 0) w)))
  have T2 := Lib.hid t2
  have T4 := Lib.hid t4
  have T5 := Lib.hid t5
  have T6 := Lib.hid t6
  have TU := Lib.hid (And.intro tu (And.intro tx ty))
  have TK := Lib.hid tk
  have HML := Lib.hid hml
  have HVV := Lib.hid h1
  have hn7 : n1 ≤ 1000000 := by omega
  clear t1 t2 t3 t4 t5 t6 tu tx ty tk hq hml hn
  have h := lw_one W h1
  clear hW h1 hf1
  go_enter Tryd.func3, Tryd.ntmps3
  go_wp2_with fail
  with_reducible refine (lw h (KS.out _ h.out.2.2)).mono ?_
  clear h
  rintro e w ⟨rfl, h⟩
  have xv := h.out.1.c0
  have yv := h.out.1.c1
  go_wp2_with fail
  with_reducible refine (lw h (KF1.out _ h.out.2.2)).mono ?_
  clear h xv yv
  rintro e w ⟨rfl, h⟩
  have xv := h.out.1.c0
  have yv := h.out.1.c1
  go_wp2_with fail
  with_reducible refine (lw h (KV.out _ h.out.2.2)).mono ?_
  clear h xv yv
  rintro e w ⟨rfl, h⟩
  have xv := h.out.1.c0
  have yv := h.out.1.c1
  go_wp2_with fail
  with_reducible refine (lw_M h (K1.out _ h.out.2.2)).mono ?_
  clear h xv yv
  rintro e w ⟨au, nu, cu, bu, mu, du, rfl, h⟩
  obtain ⟨wu, hwu⟩ : ∃ z, z = w := ⟨_, rfl⟩
  subst hwu
  have KK := SIndex_is h.out.2.2.2.1 h.out.2.1 (KW.out _ h.out.2.2.2.2)
  rw [T2.out] at KK
  have xv := h.out.2.2.1.c0
  have yv := h.out.2.2.1.c1
  have xu := h.out.1.c0
  have yu := h.out.1.c1
  go_wp2_with fail
  with_reducible refine (lw_M h (KK)).mono ?_
  clear h xv yv xu yu
  rintro e w ⟨ax, nx, cx, bx, mx, dx, rfl, h⟩
  obtain ⟨wx, hwx⟩ : ∃ z, z = w := ⟨_, rfl⟩
  subst hwx
  have xv := h.out.2.2.2.2.1.c0
  have yv := h.out.2.2.2.2.1.c1
  go_wp2_with fail
  with_reducible refine (lw_M h (K3.out _ h.out.2.2.2.2.2.2)).mono ?_
  clear h xv yv
  rintro e w ⟨ak, nk, ck, bk, mk, dk, rfl, h⟩
  obtain ⟨wk, hwk⟩ : ∃ z, z = w := ⟨_, rfl⟩
  subst hwk
  have KK := SIndex_is h.out.2.2.2.2.2.2.2.1 h.out.2.1 (KW.out _ h.out.2.2.2.2.2.2.2.2)
  rw [T4.out] at KK
  have xv := h.out.2.2.2.2.2.2.1.c0
  have yv := h.out.2.2.2.2.2.2.1.c1
  have xk := h.out.1.c0
  have yk := h.out.1.c1
  go_wp2_with fail
  with_reducible refine (lw_M h (KK)).mono ?_
  clear h xv yv xk yk
  rintro e w ⟨ag, ng, cg, bg, mg, dg, rfl, h⟩
  obtain ⟨wg, hwg⟩ : ∃ z, z = w := ⟨_, rfl⟩
  subst hwg
  have KK := SUp_is h.out.2.2.2.2.2.2.2.1 (KW.out _ h.out.2.2.2.2.2.2.2.2.2.2)
  rw [T5.out] at KK
  have xu := h.out.2.2.2.2.2.2.1.c0
  have yu := h.out.2.2.2.2.2.2.1.c1
  go_wp2_with fail
  with_reducible refine (lw_M h (KK)).mono ?_
  clear h xu yu
  rintro e w ⟨ar, nr, cr, br, mr, dr, rfl, h⟩
  obtain ⟨wr, hwr⟩ : ∃ z, z = w := ⟨_, rfl⟩
  subst hwr
  have KK := SIndex_is h.out.2.2.2.2.2.2.2.1 h.out.2.1 (KW.out _ h.out.2.2.2.2.2.2.2.2.2.2.2.2)
  rw [T6.out] at KK
  have xx := h.out.2.2.2.2.2.2.1.c0
  have yx := h.out.2.2.2.2.2.2.1.c1
  have xr := h.out.1.c0
  have yr := h.out.1.c1
  go_wp2_with fail
  with_reducible refine (lw_M h (KK)).mono ?_
  clear h xx yx xr yr
  rintro e w ⟨az, nz, cz, bz, mz, dz, rfl, h⟩
  obtain ⟨wz, hwz⟩ : ∃ z, z = w := ⟨_, rfl⟩
  subst hwz
  go_upto_region 10 with fail
  generalize hwq : wz.alloc (.cells #[.slice az nz cz, .slice bz mz dz] 25) = wq at *
  clear hwq
  have hmu : m1 = mu := by have k := h.out.2.2.2.2.2.2.2.2.2.2.2.1.mlen.1; exact (k.trans TU.out.1).symm
  subst hmu
  have hmx : m1 = mx := by have k := h.out.2.2.2.2.2.2.2.2.2.1.mlen.1; exact (k.trans TU.out.2.1).symm
  subst hmx
  have hmg : m1 = mg := by have k := h.out.2.2.2.2.2.1.mlen.1; exact (k.trans TU.out.2.2).symm
  subst hmg
  have xu := h.out.2.2.2.2.2.2.2.2.2.2.1.c0
  have yu := h.out.2.2.2.2.2.2.2.2.2.2.1.c1
  have xx := h.out.2.2.2.2.2.2.2.2.1.c0
  have yx := h.out.2.2.2.2.2.2.2.2.1.c1
  have xg := h.out.2.2.2.2.1.c0
  have yg := h.out.2.2.2.2.1.c1
  have xv := h.out.2.2.2.2.2.2.2.2.2.2.2.2.1.c0
  have yv := h.out.2.2.2.2.2.2.2.2.2.2.2.2.1.c1
  have HLV := Lib.hid h
  have hbq := h.out.2.2.2.2.2.2.2.2.2.2.2.2.2.2
  go_wp2_with fail
  clear xu yu xx yx xg yg xv yv
  go_loopw [16] (fun iv wr => ∃ k : Nat, iv = .int .i64 (k : Int) ∧ 1 ≤ k ∧ (k ≤ m1 ∨ k = 1) ∧ Below wq.heap.size wq wr) (fun iv _ => m1 - (intOf iv).toNat)
  case atStart => exact ⟨1, rfl, Nat.le_refl _, .inr rfl, Below.refl _ _⟩
  case round =>
    obtain ⟨k, rfl, hk1, hk, hb⟩ := hrel
    clear h
    have h := lw_on HLV.out hb
    have yx := h.out.2.2.2.2.2.2.2.2.1.c1
    by_cases hlt : k < m1
    · have e3 : (k : Int) < (m1 : Int) := by omega
      obtain ⟨j, hj⟩ : ∃ j, k = j + 1 := ⟨k - 1, by omega⟩
      have ht := TK.out j (by omega)
      rw [← hj] at ht
      have hw : IntKind.i64.wrap ((k : Int) - 1) = (j : Int) := by rw [show (k : Int) - 1 = (j : Int) by omega]; exact IntWalk.i64_in _ (by omega)
      have hj0 : j < m1 := by omega
      have e4 : (j : Int) < (m1 : Int) := by omega
      have yu := h.out.2.2.2.2.2.2.2.2.2.2.1.c1
      have yg := h.out.2.2.2.2.1.c1
      have lu := h.out.2.2.2.2.2.2.2.2.2.2.1.lt
      have lx := h.out.2.2.2.2.2.2.2.2.1.lt
      have lg := h.out.2.2.2.2.1.lt
      obtain ⟨px, ox, hsx, hcx⟩ := h.out.2.2.2.2.2.2.2.2.2.1.v.t.2 (by omega)
      subst hsx
      have hlx : X.length = m1 := h.out.2.2.2.2.2.2.2.2.2.1.mlen.1.symm
      have exj : wr.cell? ⟨px, ox + j, none⟩ = some (.string (S (X.getD j 0))) := by
        have k5 := hcx j hj0
        rwa [show (TS (some ([(m1 : Int)], X))).2 = X.map S from rfl, getD_S (by rw [hlx]; exact hj0)] at k5
      have exk : wr.cell? ⟨px, ox + k, none⟩ = some (.string (S (X.getD k 0))) := by
        have k5 := hcx k hlt
        rwa [show (TS (some ([(m1 : Int)], X))).2 = X.map S from rfl, getD_S (by rw [hlx]; exact hlt)] at k5
      have Qx : Hid (∀ z, Below wr.heap.size wr z → Calls Tryd.prog 13 #[.string (S (X.getD j 0)), .string (S (X.getD k 0))] z fun e w' => e = .returned (.int .i64 (cmpI (X.getD j 0) (X.getD k 0))) ∧ Below wr.heap.size wr w') := Lib.hid fun z hz => (cmp_S (getD_bd h.out.2.2.2.2.2.2.2.2.2.1.i.2.2.2 j) (getD_bd h.out.2.2.2.2.2.2.2.2.2.1.i.2.2.2 k) z).mono fun e w' k => ⟨k.1, hz.trans (k.2.mono hz.size)⟩
      clear hcx hlx
      have lxj := World.block_lt_of_cell? wr _ exj
      have lxk := World.block_lt_of_cell? wr _ exk
      obtain ⟨pu, ou, hsu, hcu⟩ := h.out.2.2.2.2.2.2.2.2.2.2.2.1.v.t.2 (by omega)
      subst hsu
      have hlu : U.length = m1 := h.out.2.2.2.2.2.2.2.2.2.2.2.1.mlen.1.symm
      have euj : wr.cell? ⟨pu, ou + j, none⟩ = some (.string (S (U.getD j 0))) := by
        have k5 := hcu j hj0
        rwa [show (TS (some ([(m1 : Int)], U))).2 = U.map S from rfl, getD_S (by rw [hlu]; exact hj0)] at k5
      have euk : wr.cell? ⟨pu, ou + k, none⟩ = some (.string (S (U.getD k 0))) := by
        have k5 := hcu k hlt
        rwa [show (TS (some ([(m1 : Int)], U))).2 = U.map S from rfl, getD_S (by rw [hlu]; exact hlt)] at k5
      have Qu : Hid (∀ z, Below wr.heap.size wr z → Calls Tryd.prog 13 #[.string (S (U.getD j 0)), .string (S (U.getD k 0))] z fun e w' => e = .returned (.int .i64 (cmpI (U.getD j 0) (U.getD k 0))) ∧ Below wr.heap.size wr w') := Lib.hid fun z hz => (cmp_S (getD_bd h.out.2.2.2.2.2.2.2.2.2.2.2.1.i.2.2.2 j) (getD_bd h.out.2.2.2.2.2.2.2.2.2.2.2.1.i.2.2.2 k) z).mono fun e w' k => ⟨k.1, hz.trans (k.2.mono hz.size)⟩
      clear hcu hlu
      have luj := World.block_lt_of_cell? wr _ euj
      have luk := World.block_lt_of_cell? wr _ euk
      obtain ⟨pg, og, hsg, hcg⟩ := h.out.2.2.2.2.2.1.v.t.2 (by omega)
      subst hsg
      have hlg : Y.length = m1 := h.out.2.2.2.2.2.1.mlen.1.symm
      have egj : wr.cell? ⟨pg, og + j, none⟩ = some (.string (S (Y.getD j 0))) := by
        have k5 := hcg j hj0
        rwa [show (TS (some ([(m1 : Int)], Y))).2 = Y.map S from rfl, getD_S (by rw [hlg]; exact hj0)] at k5
      have egk : wr.cell? ⟨pg, og + k, none⟩ = some (.string (S (Y.getD k 0))) := by
        have k5 := hcg k hlt
        rwa [show (TS (some ([(m1 : Int)], Y))).2 = Y.map S from rfl, getD_S (by rw [hlg]; exact hlt)] at k5
      have Qg : Hid (∀ z, Below wr.heap.size wr z → Calls Tryd.prog 13 #[.string (S (Y.getD j 0)), .string (S (Y.getD k 0))] z fun e w' => e = .returned (.int .i64 (cmpI (Y.getD j 0) (Y.getD k 0))) ∧ Below wr.heap.size wr w') := Lib.hid fun z hz => (cmp_S (getD_bd h.out.2.2.2.2.2.1.i.2.2.2 j) (getD_bd h.out.2.2.2.2.2.1.i.2.2.2 k) z).mono fun e w' k => ⟨k.1, hz.trans (k.2.mono hz.size)⟩
      clear hcg hlg
      have lgj := World.block_lt_of_cell? wr _ egj
      have lgk := World.block_lt_of_cell? wr _ egk
      obtain ⟨sxj, hxj⟩ : ∃ s, s = S (X.getD j 0) := ⟨_, rfl⟩
      rw [← hxj] at exj Qx
      clear hxj
      obtain ⟨sxk, hxk⟩ : ∃ s, s = S (X.getD k 0) := ⟨_, rfl⟩
      rw [← hxk] at exk Qx
      clear hxk
      obtain ⟨suj, huj⟩ : ∃ s, s = S (U.getD j 0) := ⟨_, rfl⟩
      rw [← huj] at euj Qu
      clear huj
      obtain ⟨suk, huk⟩ : ∃ s, s = S (U.getD k 0) := ⟨_, rfl⟩
      rw [← huk] at euk Qu
      clear huk
      obtain ⟨sgj, hgj⟩ : ∃ s, s = S (Y.getD j 0) := ⟨_, rfl⟩
      rw [← hgj] at egj Qg
      clear hgj
      obtain ⟨sgk, hgk⟩ : ∃ s, s = S (Y.getD k 0) := ⟨_, rfl⟩
      rw [← hgk] at egk Qg
      clear hgk
      clear h hj
      have hq : Below wr.heap.size wr wr := Below.refl _ _
      have hqz := hq.size
      have HB := Lib.hid hb
      clear hb
      obtain ⟨ht, ht2⟩ := ht
      have hc3 : ¬ cmpI (Y.getD j 0) (Y.getD k 0) < 0 := cmpI_ge ht2
      rcases ht with ht | ⟨ht, ht3⟩
      · have hc1 : cmpI (X.getD j 0) (X.getD k 0) = -1 := cmpI_lt ht
        have hc2 : (0 : Int) ≤ 0 := Int.le_refl _
        go_wp2_with fail
        rw [hc1] at Qx
        generalize cmpI (Y.getD j 0) (Y.getD k 0) = z3 at *
        go_region_held3 (fun w' => w'.cell? ⟨wx.heap.size, 1, none⟩ = some (.slice (some ⟨px, ox, none⟩) m1 dx) ∧ w'.cell? ⟨px, ox + j, none⟩ = some (.string (sxj)) ∧ w'.cell? ⟨px, ox + k, none⟩ = some (.string (sxk)) ∧ w'.cell? ⟨wu.heap.size, 1, none⟩ = some (.slice (some ⟨pu, ou, none⟩) m1 du) ∧ w'.cell? ⟨pu, ou + j, none⟩ = some (.string (suj)) ∧ w'.cell? ⟨pu, ou + k, none⟩ = some (.string (suk)) ∧ w'.cell? ⟨wg.heap.size, 1, none⟩ = some (.slice (some ⟨pg, og, none⟩) m1 dg) ∧ w'.cell? ⟨pg, og + j, none⟩ = some (.string (sgj)) ∧ w'.cell? ⟨pg, og + k, none⟩ = some (.string (sgk)))
          (first | exact ⟨(Below.cell (p := ⟨wx.heap.size, 1, none⟩) (by repeat' (first | exact hq | refine Below.drew ?_ | refine below_drewN ?_ _ | refine Below.alloc ?_ ?_ _ | refine Below.setCell ?_ ?_ _ | exact hqz | exact Nat.le_refl _ | omega | (simp; done) | (simp; omega))) lx).trans yx, (Below.cell (p := ⟨px, ox + j, none⟩) (by repeat' (first | exact hq | refine Below.drew ?_ | refine below_drewN ?_ _ | refine Below.alloc ?_ ?_ _ | refine Below.setCell ?_ ?_ _ | exact hqz | exact Nat.le_refl _ | omega | (simp; done) | (simp; omega))) lxj).trans exj, (Below.cell (p := ⟨px, ox + k, none⟩) (by repeat' (first | exact hq | refine Below.drew ?_ | refine below_drewN ?_ _ | refine Below.alloc ?_ ?_ _ | refine Below.setCell ?_ ?_ _ | exact hqz | exact Nat.le_refl _ | omega | (simp; done) | (simp; omega))) lxk).trans exk, (Below.cell (p := ⟨wu.heap.size, 1, none⟩) (by repeat' (first | exact hq | refine Below.drew ?_ | refine below_drewN ?_ _ | refine Below.alloc ?_ ?_ _ | refine Below.setCell ?_ ?_ _ | exact hqz | exact Nat.le_refl _ | omega | (simp; done) | (simp; omega))) lu).trans yu, (Below.cell (p := ⟨pu, ou + j, none⟩) (by repeat' (first | exact hq | refine Below.drew ?_ | refine below_drewN ?_ _ | refine Below.alloc ?_ ?_ _ | refine Below.setCell ?_ ?_ _ | exact hqz | exact Nat.le_refl _ | omega | (simp; done) | (simp; omega))) luj).trans euj, (Below.cell (p := ⟨pu, ou + k, none⟩) (by repeat' (first | exact hq | refine Below.drew ?_ | refine below_drewN ?_ _ | refine Below.alloc ?_ ?_ _ | refine Below.setCell ?_ ?_ _ | exact hqz | exact Nat.le_refl _ | omega | (simp; done) | (simp; omega))) luk).trans euk, (Below.cell (p := ⟨wg.heap.size, 1, none⟩) (by repeat' (first | exact hq | refine Below.drew ?_ | refine below_drewN ?_ _ | refine Below.alloc ?_ ?_ _ | refine Below.setCell ?_ ?_ _ | exact hqz | exact Nat.le_refl _ | omega | (simp; done) | (simp; omega))) lg).trans yg, (Below.cell (p := ⟨pg, og + j, none⟩) (by repeat' (first | exact hq | refine Below.drew ?_ | refine below_drewN ?_ _ | refine Below.alloc ?_ ?_ _ | refine Below.setCell ?_ ?_ _ | exact hqz | exact Nat.le_refl _ | omega | (simp; done) | (simp; omega))) lgj).trans egj, (Below.cell (p := ⟨pg, og + k, none⟩) (by repeat' (first | exact hq | refine Below.drew ?_ | refine below_drewN ?_ _ | refine Below.alloc ?_ ?_ _ | refine Below.setCell ?_ ?_ _ | exact hqz | exact Nat.le_refl _ | omega | (simp; done) | (simp; omega))) lgk).trans egk⟩ | fail)
          (first
            | (go_at_call 13; (with_reducible refine (Qx.out _ (by repeat' (first | exact hq | refine Below.drew ?_ | refine below_drewN ?_ _ | refine Below.alloc ?_ ?_ _ | refine Below.setCell ?_ ?_ _ | exact hqz | exact Nat.le_refl _ | omega | (simp; done) | (simp; omega)))).mono ?_); rintro e wa ⟨rfl, hq⟩; have hqz := hq.size)
            | fail)
        all_goals
          go_wp2_with fail
          refine wp_region_noPanic ?_
          refine wp_region_held_drew (S := fun w' => w'.cell? ⟨wx.heap.size, 1, none⟩ = some (.slice (some ⟨px, ox, none⟩) m1 dx) ∧ w'.cell? ⟨px, ox + j, none⟩ = some (.string (sxj)) ∧ w'.cell? ⟨px, ox + k, none⟩ = some (.string (sxk)) ∧ w'.cell? ⟨wu.heap.size, 1, none⟩ = some (.slice (some ⟨pu, ou, none⟩) m1 du) ∧ w'.cell? ⟨pu, ou + j, none⟩ = some (.string (suj)) ∧ w'.cell? ⟨pu, ou + k, none⟩ = some (.string (suk)) ∧ w'.cell? ⟨wg.heap.size, 1, none⟩ = some (.slice (some ⟨pg, og, none⟩) m1 dg) ∧ w'.cell? ⟨pg, og + j, none⟩ = some (.string (sgj)) ∧ w'.cell? ⟨pg, og + k, none⟩ = some (.string (sgk))) (by kernel_rfl) ⟨(Below.cell (p := ⟨wx.heap.size, 1, none⟩) (by repeat' (first | exact hq | refine Below.drew ?_ | refine below_drewN ?_ _ | refine Below.alloc ?_ ?_ _ | refine Below.setCell ?_ ?_ _ | exact hqz | exact Nat.le_refl _ | omega | (simp; done) | (simp; omega))) lx).trans yx, (Below.cell (p := ⟨px, ox + j, none⟩) (by repeat' (first | exact hq | refine Below.drew ?_ | refine below_drewN ?_ _ | refine Below.alloc ?_ ?_ _ | refine Below.setCell ?_ ?_ _ | exact hqz | exact Nat.le_refl _ | omega | (simp; done) | (simp; omega))) lxj).trans exj, (Below.cell (p := ⟨px, ox + k, none⟩) (by repeat' (first | exact hq | refine Below.drew ?_ | refine below_drewN ?_ _ | refine Below.alloc ?_ ?_ _ | refine Below.setCell ?_ ?_ _ | exact hqz | exact Nat.le_refl _ | omega | (simp; done) | (simp; omega))) lxk).trans exk, (Below.cell (p := ⟨wu.heap.size, 1, none⟩) (by repeat' (first | exact hq | refine Below.drew ?_ | refine below_drewN ?_ _ | refine Below.alloc ?_ ?_ _ | refine Below.setCell ?_ ?_ _ | exact hqz | exact Nat.le_refl _ | omega | (simp; done) | (simp; omega))) lu).trans yu, (Below.cell (p := ⟨pu, ou + j, none⟩) (by repeat' (first | exact hq | refine Below.drew ?_ | refine below_drewN ?_ _ | refine Below.alloc ?_ ?_ _ | refine Below.setCell ?_ ?_ _ | exact hqz | exact Nat.le_refl _ | omega | (simp; done) | (simp; omega))) luj).trans euj, (Below.cell (p := ⟨pu, ou + k, none⟩) (by repeat' (first | exact hq | refine Below.drew ?_ | refine below_drewN ?_ _ | refine Below.alloc ?_ ?_ _ | refine Below.setCell ?_ ?_ _ | exact hqz | exact Nat.le_refl _ | omega | (simp; done) | (simp; omega))) luk).trans euk, (Below.cell (p := ⟨wg.heap.size, 1, none⟩) (by repeat' (first | exact hq | refine Below.drew ?_ | refine below_drewN ?_ _ | refine Below.alloc ?_ ?_ _ | refine Below.setCell ?_ ?_ _ | exact hqz | exact Nat.le_refl _ | omega | (simp; done) | (simp; omega))) lg).trans yg, (Below.cell (p := ⟨pg, og + j, none⟩) (by repeat' (first | exact hq | refine Below.drew ?_ | refine below_drewN ?_ _ | refine Below.alloc ?_ ?_ _ | refine Below.setCell ?_ ?_ _ | exact hqz | exact Nat.le_refl _ | omega | (simp; done) | (simp; omega))) lgj).trans egj, (Below.cell (p := ⟨pg, og + k, none⟩) (by repeat' (first | exact hq | refine Below.drew ?_ | refine below_drewN ?_ _ | refine Below.alloc ?_ ?_ _ | refine Below.setCell ?_ ?_ _ | exact hqz | exact Nat.le_refl _ | omega | (simp; done) | (simp; omega))) lgk).trans egk⟩ (fun hHeld => ?_)
          refine wpAnyH_take (i := 0) (v := ?_) rfl (by kernel_rfl) (by kernel_rfl) (by kernel_rfl) (fun _ _ _ h => h) (Or.inl ⟨by kernel_rfl, ?_⟩) (by assumption) ?_
          rotate_left
          · (intro w hSw; (try dsimp only at hSw); go_simp; try (with_reducible rfl))
          try simp only [Act.put, List.setIfInBounds_toArray, List.set_cons_zero, List.set_cons_succ]
          refine wpAnyH_take (i := 1) (v := ?_) rfl (by kernel_rfl) (by kernel_rfl) (by kernel_rfl) (fun _ _ _ h => h) (Or.inl ⟨by kernel_rfl, ?_⟩) (by assumption) ?_
          rotate_left
          · (intro w hSw; (try dsimp only at hSw); go_simp; try (with_reducible rfl))
          try simp only [Act.put, List.setIfInBounds_toArray, List.set_cons_zero, List.set_cons_succ]
          refine wpAnyH_take (i := 2) (v := ?_) rfl (by kernel_rfl) (by kernel_rfl) (by kernel_rfl) (fun _ _ _ h => h) (Or.inl ⟨by kernel_rfl, ?_⟩) (by assumption) ?_
          rotate_left
          · (intro w hSw; (try dsimp only at hSw); go_simp; try (with_reducible rfl))
          try simp only [Act.put, List.setIfInBounds_toArray, List.set_cons_zero, List.set_cons_succ]
          refine wpAnyH_take (i := 3) (v := ?_) rfl (by kernel_rfl) (by kernel_rfl) (by kernel_rfl) (fun _ _ _ h => h) (Or.inl ⟨by kernel_rfl, ?_⟩) (by assumption) ?_
          rotate_left
          · (intro w hSw; (try dsimp only at hSw); go_simp; try (with_reducible rfl))
          try simp only [Act.put, List.setIfInBounds_toArray, List.set_cons_zero, List.set_cons_succ]
          refine wpAnyH_take (i := 4) (v := ?_) rfl (by kernel_rfl) (by kernel_rfl) (by kernel_rfl) (fun _ _ _ h => h) (Or.inl ⟨by kernel_rfl, ?_⟩) (by assumption) ?_
          rotate_left
          · (intro w hSw; (try dsimp only at hSw); go_simp; try (with_reducible rfl))
          try simp only [Act.put, List.setIfInBounds_toArray, List.set_cons_zero, List.set_cons_succ]
          refine wpAnyH_take (i := 5) (v := ?_) rfl (by kernel_rfl) (by kernel_rfl) (by kernel_rfl) (fun _ _ _ h => h) (Or.inl ⟨by kernel_rfl, ?_⟩) (by assumption) ?_
          rotate_left
          · (intro w hSw; (try dsimp only at hSw); go_simp; try (with_reducible rfl))
          try simp only [Act.put, List.setIfInBounds_toArray, List.set_cons_zero, List.set_cons_succ]
          refine wpAnyH_take (i := 6) (v := undef) rfl (by kernel_rfl) (by kernel_rfl) (by kernel_rfl) (fun _ _ _ h => h) (Or.inr ⟨by kernel_rfl, rfl⟩) (by assumption) ?_
          try simp only [Act.put, List.setIfInBounds_toArray, List.set_cons_zero, List.set_cons_succ]
          refine wpAnyH_take (i := 7) (v := undef) rfl (by kernel_rfl) (by kernel_rfl) (by kernel_rfl) (fun _ _ _ h => h) (Or.inr ⟨by kernel_rfl, rfl⟩) (by assumption) ?_
          try simp only [Act.put, List.setIfInBounds_toArray, List.set_cons_zero, List.set_cons_succ]
          refine wpAnyH_take (i := 8) (v := undef) rfl (by kernel_rfl) (by kernel_rfl) (by kernel_rfl) (fun _ _ _ h => h) (Or.inr ⟨by kernel_rfl, rfl⟩) (by assumption) ?_
          try simp only [Act.put, List.setIfInBounds_toArray, List.set_cons_zero, List.set_cons_succ]
          refine wpAnyH_take (i := 9) (v := undef) rfl (by kernel_rfl) (by kernel_rfl) (by kernel_rfl) (fun _ _ _ h => h) (Or.inr ⟨by kernel_rfl, rfl⟩) (by assumption) ?_
          try simp only [Act.put, List.setIfInBounds_toArray, List.set_cons_zero, List.set_cons_succ]
          refine wpAnyH_take (i := 10) (v := undef) rfl (by kernel_rfl) (by kernel_rfl) (by kernel_rfl) (fun _ _ _ h => h) (Or.inr ⟨by kernel_rfl, rfl⟩) (by assumption) ?_
          try simp only [Act.put, List.setIfInBounds_toArray, List.set_cons_zero, List.set_cons_succ]
          refine wpAnyH_take (i := 11) (v := undef) rfl (by kernel_rfl) (by kernel_rfl) (by kernel_rfl) (fun _ _ _ h => h) (Or.inr ⟨by kernel_rfl, rfl⟩) (by assumption) ?_
          try simp only [Act.put, List.setIfInBounds_toArray, List.set_cons_zero, List.set_cons_succ]
          refine wpAnyH_take (i := 12) (v := undef) rfl (by kernel_rfl) (by kernel_rfl) (by kernel_rfl) (fun _ _ _ h => h) (Or.inr ⟨by kernel_rfl, rfl⟩) (by assumption) ?_
          try simp only [Act.put, List.setIfInBounds_toArray, List.set_cons_zero, List.set_cons_succ]
          refine wpAnyH_take (i := 13) (v := undef) rfl (by kernel_rfl) (by kernel_rfl) (by kernel_rfl) (fun _ _ _ h => h) (Or.inr ⟨by kernel_rfl, rfl⟩) (by assumption) ?_
          try simp only [Act.put, List.setIfInBounds_toArray, List.set_cons_zero, List.set_cons_succ]
          refine wpAnyH_take (i := 14) (v := undef) rfl (by kernel_rfl) (by kernel_rfl) (by kernel_rfl) (fun _ _ _ h => h) (Or.inr ⟨by kernel_rfl, rfl⟩) (by assumption) ?_
          try simp only [Act.put, List.setIfInBounds_toArray, List.set_cons_zero, List.set_cons_succ]
          refine wpAnyH_take (i := 15) (v := undef) rfl (by kernel_rfl) (by kernel_rfl) (by kernel_rfl) (fun _ _ _ h => h) (Or.inr ⟨by kernel_rfl, rfl⟩) (by assumption) ?_
          try simp only [Act.put, List.setIfInBounds_toArray, List.set_cons_zero, List.set_cons_succ]
          refine wpAnyH_take (i := 16) (v := undef) rfl (by kernel_rfl) (by kernel_rfl) (by kernel_rfl) (fun _ _ _ h => h) (Or.inr ⟨by kernel_rfl, rfl⟩) (by assumption) ?_
          try simp only [Act.put, List.setIfInBounds_toArray, List.set_cons_zero, List.set_cons_succ]
          refine wpAnyH_take (i := 17) (v := undef) rfl (by kernel_rfl) (by kernel_rfl) (by kernel_rfl) (fun _ _ _ h => h) (Or.inr ⟨by kernel_rfl, rfl⟩) (by assumption) ?_
          try simp only [Act.put, List.setIfInBounds_toArray, List.set_cons_zero, List.set_cons_succ]
          refine wpAnyH_take (i := 18) (v := undef) rfl (by kernel_rfl) (by kernel_rfl) (by kernel_rfl) (fun _ _ _ h => h) (Or.inr ⟨by kernel_rfl, rfl⟩) (by assumption) ?_
          try simp only [Act.put, List.setIfInBounds_toArray, List.set_cons_zero, List.set_cons_succ]
          refine wpAnyH_take (i := 19) (v := ?_) rfl (by kernel_rfl) (by kernel_rfl) (by kernel_rfl) (fun _ _ _ h => h) (Or.inl ⟨by kernel_rfl, ?_⟩) (by assumption) ?_
          rotate_left
          · (intro w hSw; (try dsimp only at hSw); go_simp; try (with_reducible rfl))
          try simp only [Act.put, List.setIfInBounds_toArray, List.set_cons_zero, List.set_cons_succ]
          refine wpAnyH_take (i := 20) (v := ?_) rfl (by kernel_rfl) (by kernel_rfl) (by kernel_rfl) (fun _ _ _ h => h) (Or.inl ⟨by kernel_rfl, ?_⟩) (by assumption) ?_
          rotate_left
          · (intro w hSw; (try dsimp only at hSw); go_simp; try (with_reducible rfl))
          try simp only [Act.put, List.setIfInBounds_toArray, List.set_cons_zero, List.set_cons_succ]
          refine wpAnyH_take (i := 21) (v := ?_) rfl (by kernel_rfl) (by kernel_rfl) (by kernel_rfl) (fun _ _ _ h => h) (Or.inl ⟨by kernel_rfl, ?_⟩) (by assumption) ?_
          rotate_left
          · (intro w hSw; (try dsimp only at hSw); go_simp; try (with_reducible rfl))
          try simp only [Act.put, List.setIfInBounds_toArray, List.set_cons_zero, List.set_cons_succ]
          refine wpAnyH_take (i := 22) (v := ?_) rfl (by kernel_rfl) (by kernel_rfl) (by kernel_rfl) (fun _ _ _ h => h) (Or.inl ⟨by kernel_rfl, ?_⟩) (by assumption) ?_
          rotate_left
          · (intro w hSw; (try dsimp only at hSw); go_simp; try (with_reducible rfl))
          try simp only [Act.put, List.setIfInBounds_toArray, List.set_cons_zero, List.set_cons_succ]
          refine wpAnyH_take (i := 23) (v := ?_) rfl (by kernel_rfl) (by kernel_rfl) (by kernel_rfl) (fun _ _ _ h => h) (Or.inl ⟨by kernel_rfl, ?_⟩) (by assumption) ?_
          rotate_left
          · (intro w hSw; (try dsimp only at hSw); go_simp; try (with_reducible rfl))
          try simp only [Act.put, List.setIfInBounds_toArray, List.set_cons_zero, List.set_cons_succ]
          refine wpAnyH_take (i := 24) (v := ?_) rfl (by kernel_rfl) (by kernel_rfl) (by kernel_rfl) (fun _ _ _ h => h) (Or.inl ⟨by kernel_rfl, ?_⟩) (by assumption) ?_
          rotate_left
          · (intro w hSw; (try dsimp only at hSw); go_simp; try (with_reducible rfl))
          try simp only [Act.put, List.setIfInBounds_toArray, List.set_cons_zero, List.set_cons_succ]
          refine wpAnyH_take (i := 25) (v := ?_) rfl (by kernel_rfl) (by kernel_rfl) (by kernel_rfl) (fun _ _ _ h => h) (Or.inl ⟨by kernel_rfl, ?_⟩) (by assumption) ?_
          rotate_left
          · (intro w hSw; (try dsimp only at hSw); go_simp; try (with_reducible rfl))
          try simp only [Act.put, List.setIfInBounds_toArray, List.set_cons_zero, List.set_cons_succ]
          refine wpAnyH_take (i := 26) (v := ?_) rfl (by kernel_rfl) (by kernel_rfl) (by kernel_rfl) (fun _ _ _ h => h) (Or.inl ⟨by kernel_rfl, ?_⟩) (by assumption) ?_
          rotate_left
          · (intro w hSw; (try dsimp only at hSw); go_simp; try (with_reducible rfl))
          try simp only [Act.put, List.setIfInBounds_toArray, List.set_cons_zero, List.set_cons_succ]
          refine wpAnyH_take (i := 27) (v := ?_) rfl (by kernel_rfl) (by kernel_rfl) (by kernel_rfl) (fun _ _ _ h => h) (Or.inl ⟨by kernel_rfl, ?_⟩) (by assumption) ?_
          rotate_left
          · (intro w hSw; (try dsimp only at hSw); go_simp; try (with_reducible rfl))
          try simp only [Act.put, List.setIfInBounds_toArray, List.set_cons_zero, List.set_cons_succ]
          refine wpAnyH_take (i := 28) (v := ?_) rfl (by kernel_rfl) (by kernel_rfl) (by kernel_rfl) (fun _ _ _ h => h) (Or.inl ⟨by kernel_rfl, ?_⟩) (by assumption) ?_
          rotate_left
          · (intro w hSw; (try dsimp only at hSw); go_simp; try (with_reducible rfl))
          try simp only [Act.put, List.setIfInBounds_toArray, List.set_cons_zero, List.set_cons_succ]
          refine wpAnyH_take (i := 29) (v := ?_) rfl (by kernel_rfl) (by kernel_rfl) (by kernel_rfl) (fun _ _ _ h => h) (Or.inl ⟨by kernel_rfl, ?_⟩) (by assumption) ?_
          rotate_left
          · (intro w hSw; (try dsimp only at hSw); go_simp; try (with_reducible rfl))
          try simp only [Act.put, List.setIfInBounds_toArray, List.set_cons_zero, List.set_cons_succ]
          refine wpAnyH_take (i := 30) (v := ?_) rfl (by kernel_rfl) (by kernel_rfl) (by kernel_rfl) (fun _ _ _ h => h) (Or.inl ⟨by kernel_rfl, ?_⟩) (by assumption) ?_
          rotate_left
          · (intro w hSw; (try dsimp only at hSw); go_simp; try (with_reducible rfl))
          try simp only [Act.put, List.setIfInBounds_toArray, List.set_cons_zero, List.set_cons_succ]
          refine wpAnyH_take (i := 31) (v := ?_) rfl (by kernel_rfl) (by kernel_rfl) (by kernel_rfl) (fun _ _ _ h => h) (Or.inl ⟨by kernel_rfl, ?_⟩) (by assumption) ?_
          rotate_left
          · (intro w hSw; (try dsimp only at hSw); go_simp; try (with_reducible rfl))
          try simp only [Act.put, List.setIfInBounds_toArray, List.set_cons_zero, List.set_cons_succ]
          refine wpAnyH_take (i := 32) (v := ?_) rfl (by kernel_rfl) (by kernel_rfl) (by kernel_rfl) (fun _ _ _ h => h) (Or.inl ⟨by kernel_rfl, ?_⟩) (by assumption) ?_
          rotate_left
          · (intro w hSw; (try dsimp only at hSw); go_simp; try (with_reducible rfl))
          try simp only [Act.put, List.setIfInBounds_toArray, List.set_cons_zero, List.set_cons_succ]
          refine wpAnyH_ready (rs := [33]) (by kernel_rfl) (by simp) ?_
          refine AllReadyH.cons rfl (fun K hK => ?_) AllReadyH.nil
          go_simp
          (go_at_call 13; (with_reducible refine (Qg.out _ (by repeat' (first | exact hq | refine Below.drew ?_ | refine below_drewN ?_ _ | refine Below.alloc ?_ ?_ _ | refine Below.setCell ?_ ?_ _ | exact hqz | exact Nat.le_refl _ | omega | (simp; done) | (simp; omega)))).mono ?_); rintro e wb ⟨rfl, hq⟩; have hqz := hq.size)
          refine hK.out _ _ ⟨(Below.cell (p := ⟨wx.heap.size, 1, none⟩) (by repeat' (first | exact hq | refine Below.drew ?_ | refine below_drewN ?_ _ | refine Below.alloc ?_ ?_ _ | refine Below.setCell ?_ ?_ _ | exact hqz | exact Nat.le_refl _ | omega | (simp; done) | (simp; omega))) lx).trans yx, (Below.cell (p := ⟨px, ox + j, none⟩) (by repeat' (first | exact hq | refine Below.drew ?_ | refine below_drewN ?_ _ | refine Below.alloc ?_ ?_ _ | refine Below.setCell ?_ ?_ _ | exact hqz | exact Nat.le_refl _ | omega | (simp; done) | (simp; omega))) lxj).trans exj, (Below.cell (p := ⟨px, ox + k, none⟩) (by repeat' (first | exact hq | refine Below.drew ?_ | refine below_drewN ?_ _ | refine Below.alloc ?_ ?_ _ | refine Below.setCell ?_ ?_ _ | exact hqz | exact Nat.le_refl _ | omega | (simp; done) | (simp; omega))) lxk).trans exk, (Below.cell (p := ⟨wu.heap.size, 1, none⟩) (by repeat' (first | exact hq | refine Below.drew ?_ | refine below_drewN ?_ _ | refine Below.alloc ?_ ?_ _ | refine Below.setCell ?_ ?_ _ | exact hqz | exact Nat.le_refl _ | omega | (simp; done) | (simp; omega))) lu).trans yu, (Below.cell (p := ⟨pu, ou + j, none⟩) (by repeat' (first | exact hq | refine Below.drew ?_ | refine below_drewN ?_ _ | refine Below.alloc ?_ ?_ _ | refine Below.setCell ?_ ?_ _ | exact hqz | exact Nat.le_refl _ | omega | (simp; done) | (simp; omega))) luj).trans euj, (Below.cell (p := ⟨pu, ou + k, none⟩) (by repeat' (first | exact hq | refine Below.drew ?_ | refine below_drewN ?_ _ | refine Below.alloc ?_ ?_ _ | refine Below.setCell ?_ ?_ _ | exact hqz | exact Nat.le_refl _ | omega | (simp; done) | (simp; omega))) luk).trans euk, (Below.cell (p := ⟨wg.heap.size, 1, none⟩) (by repeat' (first | exact hq | refine Below.drew ?_ | refine below_drewN ?_ _ | refine Below.alloc ?_ ?_ _ | refine Below.setCell ?_ ?_ _ | exact hqz | exact Nat.le_refl _ | omega | (simp; done) | (simp; omega))) lg).trans yg, (Below.cell (p := ⟨pg, og + j, none⟩) (by repeat' (first | exact hq | refine Below.drew ?_ | refine below_drewN ?_ _ | refine Below.alloc ?_ ?_ _ | refine Below.setCell ?_ ?_ _ | exact hqz | exact Nat.le_refl _ | omega | (simp; done) | (simp; omega))) lgj).trans egj, (Below.cell (p := ⟨pg, og + k, none⟩) (by repeat' (first | exact hq | refine Below.drew ?_ | refine below_drewN ?_ _ | refine Below.alloc ?_ ?_ _ | refine Below.setCell ?_ ?_ _ | exact hqz | exact Nat.le_refl _ | omega | (simp; done) | (simp; omega))) lgk).trans egk⟩ (fun hHeld => ?_)
          clear hK K
          try simp only [Act.put, List.setIfInBounds_toArray, List.set_cons_zero, List.set_cons_succ]
          refine wpAnyH_take (i := 34) (v := ?_) rfl (by kernel_rfl) (by kernel_rfl) (by kernel_rfl) (fun _ _ _ h => h) (Or.inl ⟨by kernel_rfl, ?_⟩) (by assumption) ?_
          rotate_left
          · (intro w hSw; (try dsimp only at hSw); go_simp; try (with_reducible rfl))
          try simp only [Act.put, List.setIfInBounds_toArray, List.set_cons_zero, List.set_cons_succ]
          refine wpAnyH_take (i := 35) (v := ?_) rfl (by kernel_rfl) (by kernel_rfl) (by kernel_rfl) (fun _ _ _ h => h) (Or.inl ⟨by kernel_rfl, ?_⟩) (by assumption) ?_
          rotate_left
          · (intro w hSw; (try dsimp only at hSw); go_simp; try (with_reducible rfl))
          try simp only [Act.put, List.setIfInBounds_toArray, List.set_cons_zero, List.set_cons_succ]
          refine wpAnyH_done (by kernel_rfl) ?_ _
          refine NoPanic.normal ?_
          clear hHeld
          all_goals
            have hb9 := HB.out.trans (Below.mono (by repeat' (first | exact hq | refine Below.drew ?_ | refine below_drewN ?_ _ | refine Below.alloc ?_ ?_ _ | refine Below.setCell ?_ ?_ _ | exact hqz | exact Nat.le_refl _ | omega | (simp; done) | (simp; omega))) HB.out.size)
            go_wp2_with fail
            go_roundw
            case rel => exact ⟨k + 1, by go_num, by omega, .inl (by omega), hb9⟩
            case measure => simp [intOf]; omega
      · have hc1 : cmpI (X.getD j 0) (X.getD k 0) = 0 := cmpI_eq ht
        have hc2 : cmpI (U.getD j 0) (U.getD k 0) = -1 := cmpI_lt ht3
        go_wp2_with fail
        rw [hc1] at Qx
        rw [hc2] at Qu
        generalize cmpI (Y.getD j 0) (Y.getD k 0) = z3 at *
        go_region_held3 (fun w' => w'.cell? ⟨wx.heap.size, 1, none⟩ = some (.slice (some ⟨px, ox, none⟩) m1 dx) ∧ w'.cell? ⟨px, ox + j, none⟩ = some (.string (sxj)) ∧ w'.cell? ⟨px, ox + k, none⟩ = some (.string (sxk)) ∧ w'.cell? ⟨wu.heap.size, 1, none⟩ = some (.slice (some ⟨pu, ou, none⟩) m1 du) ∧ w'.cell? ⟨pu, ou + j, none⟩ = some (.string (suj)) ∧ w'.cell? ⟨pu, ou + k, none⟩ = some (.string (suk)) ∧ w'.cell? ⟨wg.heap.size, 1, none⟩ = some (.slice (some ⟨pg, og, none⟩) m1 dg) ∧ w'.cell? ⟨pg, og + j, none⟩ = some (.string (sgj)) ∧ w'.cell? ⟨pg, og + k, none⟩ = some (.string (sgk)))
          (first | exact ⟨(Below.cell (p := ⟨wx.heap.size, 1, none⟩) (by repeat' (first | exact hq | refine Below.drew ?_ | refine below_drewN ?_ _ | refine Below.alloc ?_ ?_ _ | refine Below.setCell ?_ ?_ _ | exact hqz | exact Nat.le_refl _ | omega | (simp; done) | (simp; omega))) lx).trans yx, (Below.cell (p := ⟨px, ox + j, none⟩) (by repeat' (first | exact hq | refine Below.drew ?_ | refine below_drewN ?_ _ | refine Below.alloc ?_ ?_ _ | refine Below.setCell ?_ ?_ _ | exact hqz | exact Nat.le_refl _ | omega | (simp; done) | (simp; omega))) lxj).trans exj, (Below.cell (p := ⟨px, ox + k, none⟩) (by repeat' (first | exact hq | refine Below.drew ?_ | refine below_drewN ?_ _ | refine Below.alloc ?_ ?_ _ | refine Below.setCell ?_ ?_ _ | exact hqz | exact Nat.le_refl _ | omega | (simp; done) | (simp; omega))) lxk).trans exk, (Below.cell (p := ⟨wu.heap.size, 1, none⟩) (by repeat' (first | exact hq | refine Below.drew ?_ | refine below_drewN ?_ _ | refine Below.alloc ?_ ?_ _ | refine Below.setCell ?_ ?_ _ | exact hqz | exact Nat.le_refl _ | omega | (simp; done) | (simp; omega))) lu).trans yu, (Below.cell (p := ⟨pu, ou + j, none⟩) (by repeat' (first | exact hq | refine Below.drew ?_ | refine below_drewN ?_ _ | refine Below.alloc ?_ ?_ _ | refine Below.setCell ?_ ?_ _ | exact hqz | exact Nat.le_refl _ | omega | (simp; done) | (simp; omega))) luj).trans euj, (Below.cell (p := ⟨pu, ou + k, none⟩) (by repeat' (first | exact hq | refine Below.drew ?_ | refine below_drewN ?_ _ | refine Below.alloc ?_ ?_ _ | refine Below.setCell ?_ ?_ _ | exact hqz | exact Nat.le_refl _ | omega | (simp; done) | (simp; omega))) luk).trans euk, (Below.cell (p := ⟨wg.heap.size, 1, none⟩) (by repeat' (first | exact hq | refine Below.drew ?_ | refine below_drewN ?_ _ | refine Below.alloc ?_ ?_ _ | refine Below.setCell ?_ ?_ _ | exact hqz | exact Nat.le_refl _ | omega | (simp; done) | (simp; omega))) lg).trans yg, (Below.cell (p := ⟨pg, og + j, none⟩) (by repeat' (first | exact hq | refine Below.drew ?_ | refine below_drewN ?_ _ | refine Below.alloc ?_ ?_ _ | refine Below.setCell ?_ ?_ _ | exact hqz | exact Nat.le_refl _ | omega | (simp; done) | (simp; omega))) lgj).trans egj, (Below.cell (p := ⟨pg, og + k, none⟩) (by repeat' (first | exact hq | refine Below.drew ?_ | refine below_drewN ?_ _ | refine Below.alloc ?_ ?_ _ | refine Below.setCell ?_ ?_ _ | exact hqz | exact Nat.le_refl _ | omega | (simp; done) | (simp; omega))) lgk).trans egk⟩ | fail)
          (first
            | (go_at_call 13; (with_reducible refine (Qx.out _ (by repeat' (first | exact hq | refine Below.drew ?_ | refine below_drewN ?_ _ | refine Below.alloc ?_ ?_ _ | refine Below.setCell ?_ ?_ _ | exact hqz | exact Nat.le_refl _ | omega | (simp; done) | (simp; omega)))).mono ?_); rintro e wa ⟨rfl, hq⟩; have hqz := hq.size)
            | fail)
        all_goals
          go_wp2_with fail
          go_region_held3 (fun w' => w'.cell? ⟨wx.heap.size, 1, none⟩ = some (.slice (some ⟨px, ox, none⟩) m1 dx) ∧ w'.cell? ⟨px, ox + j, none⟩ = some (.string (sxj)) ∧ w'.cell? ⟨px, ox + k, none⟩ = some (.string (sxk)) ∧ w'.cell? ⟨wu.heap.size, 1, none⟩ = some (.slice (some ⟨pu, ou, none⟩) m1 du) ∧ w'.cell? ⟨pu, ou + j, none⟩ = some (.string (suj)) ∧ w'.cell? ⟨pu, ou + k, none⟩ = some (.string (suk)) ∧ w'.cell? ⟨wg.heap.size, 1, none⟩ = some (.slice (some ⟨pg, og, none⟩) m1 dg) ∧ w'.cell? ⟨pg, og + j, none⟩ = some (.string (sgj)) ∧ w'.cell? ⟨pg, og + k, none⟩ = some (.string (sgk)))
            (first | exact ⟨(Below.cell (p := ⟨wx.heap.size, 1, none⟩) (by repeat' (first | exact hq | refine Below.drew ?_ | refine below_drewN ?_ _ | refine Below.alloc ?_ ?_ _ | refine Below.setCell ?_ ?_ _ | exact hqz | exact Nat.le_refl _ | omega | (simp; done) | (simp; omega))) lx).trans yx, (Below.cell (p := ⟨px, ox + j, none⟩) (by repeat' (first | exact hq | refine Below.drew ?_ | refine below_drewN ?_ _ | refine Below.alloc ?_ ?_ _ | refine Below.setCell ?_ ?_ _ | exact hqz | exact Nat.le_refl _ | omega | (simp; done) | (simp; omega))) lxj).trans exj, (Below.cell (p := ⟨px, ox + k, none⟩) (by repeat' (first | exact hq | refine Below.drew ?_ | refine below_drewN ?_ _ | refine Below.alloc ?_ ?_ _ | refine Below.setCell ?_ ?_ _ | exact hqz | exact Nat.le_refl _ | omega | (simp; done) | (simp; omega))) lxk).trans exk, (Below.cell (p := ⟨wu.heap.size, 1, none⟩) (by repeat' (first | exact hq | refine Below.drew ?_ | refine below_drewN ?_ _ | refine Below.alloc ?_ ?_ _ | refine Below.setCell ?_ ?_ _ | exact hqz | exact Nat.le_refl _ | omega | (simp; done) | (simp; omega))) lu).trans yu, (Below.cell (p := ⟨pu, ou + j, none⟩) (by repeat' (first | exact hq | refine Below.drew ?_ | refine below_drewN ?_ _ | refine Below.alloc ?_ ?_ _ | refine Below.setCell ?_ ?_ _ | exact hqz | exact Nat.le_refl _ | omega | (simp; done) | (simp; omega))) luj).trans euj, (Below.cell (p := ⟨pu, ou + k, none⟩) (by repeat' (first | exact hq | refine Below.drew ?_ | refine below_drewN ?_ _ | refine Below.alloc ?_ ?_ _ | refine Below.setCell ?_ ?_ _ | exact hqz | exact Nat.le_refl _ | omega | (simp; done) | (simp; omega))) luk).trans euk, (Below.cell (p := ⟨wg.heap.size, 1, none⟩) (by repeat' (first | exact hq | refine Below.drew ?_ | refine below_drewN ?_ _ | refine Below.alloc ?_ ?_ _ | refine Below.setCell ?_ ?_ _ | exact hqz | exact Nat.le_refl _ | omega | (simp; done) | (simp; omega))) lg).trans yg, (Below.cell (p := ⟨pg, og + j, none⟩) (by repeat' (first | exact hq | refine Below.drew ?_ | refine below_drewN ?_ _ | refine Below.alloc ?_ ?_ _ | refine Below.setCell ?_ ?_ _ | exact hqz | exact Nat.le_refl _ | omega | (simp; done) | (simp; omega))) lgj).trans egj, (Below.cell (p := ⟨pg, og + k, none⟩) (by repeat' (first | exact hq | refine Below.drew ?_ | refine below_drewN ?_ _ | refine Below.alloc ?_ ?_ _ | refine Below.setCell ?_ ?_ _ | exact hqz | exact Nat.le_refl _ | omega | (simp; done) | (simp; omega))) lgk).trans egk⟩ | fail)
            (first
              | (go_at_call 13; (with_reducible refine (Qu.out _ (by repeat' (first | exact hq | refine Below.drew ?_ | refine below_drewN ?_ _ | refine Below.alloc ?_ ?_ _ | refine Below.setCell ?_ ?_ _ | exact hqz | exact Nat.le_refl _ | omega | (simp; done) | (simp; omega)))).mono ?_); rintro e wb ⟨rfl, hq⟩; have hqz := hq.size)
              | (go_at_call 13; (with_reducible refine (Qg.out _ (by repeat' (first | exact hq | refine Below.drew ?_ | refine below_drewN ?_ _ | refine Below.alloc ?_ ?_ _ | refine Below.setCell ?_ ?_ _ | exact hqz | exact Nat.le_refl _ | omega | (simp; done) | (simp; omega)))).mono ?_); rintro e wb ⟨rfl, hq⟩; have hqz := hq.size)
              | fail)
          all_goals
            have hb9 := HB.out.trans (Below.mono (by repeat' (first | exact hq | refine Below.drew ?_ | refine below_drewN ?_ _ | refine Below.alloc ?_ ?_ _ | refine Below.setCell ?_ ?_ _ | exact hqz | exact Nat.le_refl _ | omega | (simp; done) | (simp; omega))) HB.out.size)
            go_wp2_with fail
            go_roundw
            case rel => exact ⟨k + 1, by go_num, by omega, .inl (by omega), hb9⟩
            case measure => simp [intOf]; omega
    · have e3 : ¬ (k : Int) < (m1 : Int) := by omega
      have xz := h.out.1.c0
      have yz := h.out.1.c1
      have xv := h.out.2.2.2.2.2.2.2.2.2.2.2.2.1.c0
      have yv := h.out.2.2.2.2.2.2.2.2.2.2.2.2.1.c1
      have KS2 := Lib.hid (VSame_av (c1 := cz) (d1 := dz) (c2 := c1) (d2 := d1) h.out.2.1.v h.out.2.2.2.2.2.2.2.2.2.2.2.2.2.1.v h.out.2.1.ntt (by have := HVV.out.n3; omega) HVV.out.fst HVV.out.i.2.1.symm)
      have HB := Lib.hid (h.out.2.2.2.2.2.2.2.2.2.2.2.2.2.2)
      clear h
      go_wp2_with fail
      with_reducible refine KS2.out.mono ?_
      rintro e wb ⟨rfl, hq⟩
      clear xz yz xv yv
      go_wp2_with fail
      go_ret
      exact ⟨rfl, HB.out.trans (hq.mono HB.out.size)⟩
theorem srises_any {a1 b1 : Option Addr} {n1 c1 m1 d1 : Nat} {l : List Int} {es : List ByteArray} (W : World) (hW : WT W) (hV : Vl W a1 n1 b1 m1 l es) (hC : Cp n1 c1 m1 d1) (hZ : ∀ j, j < m1 → (es.getD j ByteArray.empty).size ≤ maxLen) :
    Calls Tryd.prog 3 #[.agg #[.slice a1 n1 c1, .slice b1 m1 d1]] W (TrueEnd W) := by
  obtain ⟨o, ho⟩ := ais_ex l es
  rcases Bool.eq_false_or_eq_true (fewB l es) with h | h
  · cases o with
    | none => exact srises_none W hW ⟨hV, hC, hZ, ho⟩ h
    | some q =>
      by_cases hn : n1 = 1
      · exact srises_yes W hW ⟨hV, hC, hZ, ho⟩ h hn
      · exact srises_rank W hW ⟨hV, hC, hZ, ho⟩ h hn
  · exact srises_few W hW ⟨hV, hC, hZ, ho⟩ h
end Go.Proofs.YtpledghphljfkaaDoor

import Derived.Test.YtpledghphljfkaaDoorMbc
/-
  SeekFinds at every two arrays.
-/
namespace Go.Proofs.YtpledghphljfkaaDoor
set_option linter.unusedVariables false
set_option linter.unusedSimpArgs false
open Go.RowKit

/-- What the calls of SeekFinds tell, all of them. -/
theorem finds_all {q r : Ar} (hq : q.1 = [(q.2.length : Int)]) (hm : q.2.length ≤ 4096) : ∃ F U X : List Int,
    fdK (some q) (some r) = (some (r.1, F), 0) ∧ (F.length = r.2.length ∧ F.all nearM = true ∧ ∀ i, i < r.2.length → F.getD i 0 = ((fpS q.2 (r.2.getD i 0) : Nat) : Int)) ∧
    unK (some q) = (some ([(U.length : Int)], U), 0) ∧ U.length ≤ q.2.length ∧
    fdK (some ([(U.length : Int)], U)) (some q) = (some (q.1, X), 0) ∧ ixK (some ([(U.length : Int)], U)) (some (q.1, X)) = (some q, 0) := by
  have hl1 : q.1.length = 1 := by rw [hq]; rfl
  have f1 : fdK (some q) (some r) = (some (r.1, r.2.map fun x => (fpS q.2 x : Int)), 0) := by unfold fdK; dsimp only; rw [if_neg (fun e => e hl1)]
  have f3 : fdK (some ([((unS q.2).length : Int)], unS q.2)) (some q) = (some (q.1, q.2.map fun x => (fpS (unS q.2) x : Int)), 0) := by unfold fdK; dsimp only; rw [if_neg (fun e => e rfl)]
  refine ⟨_, unS q.2, _, f1, ⟨by rw [List.length_map], nears (fun x hx => ?_), fun i hi => ?_⟩, un_yes hl1, un_len q.2, f3, ?_⟩
  · obtain ⟨y, _, rfl⟩ := List.mem_map.1 hx
    have := fp_le q.2 y
    omega
  · rw [List.getD_eq_getElem?_getD, List.getElem?_map, List.getElem?_eq_getElem hi, List.getD_eq_getElem?_getD, List.getElem?_eq_getElem hi]; rfl
  · have hX : (q.2.map fun x => (fpS (unS q.2) x : Int)) = intL (q.2.map fun x => fpS (unS q.2) x) := by unfold intL; rw [List.map_map]; rfl
    have hll : (q.2.map fun x => fpS (unS q.2) x).length = q.2.length := by rw [List.length_map]
    have hv := ix_vec (q := ([((unS q.2).length : Int)], unS q.2)) rfl (Nat.le_trans (un_len q.2) hm) (L := q.2.map fun x => fpS (unS q.2) x) (fun i hi => by
      obtain ⟨y, hy, rfl⟩ := List.mem_map.1 hi
      exact fp_mem.2 (un_mem.2 hy)) (by rw [hll]; exact hm)
    rw [hll, un_back] at hv
    rw [hX, hq]
    show ixK _ _ = _
    rw [hv]
    show (some ([(q.2.length : Int)], q.2), (0 : Int)) = _
    rw [← hq]
set_option maxRecDepth 100000 in
set_option maxHeartbeats 6400000 in
theorem sfinds_few1 {a1 b1 a2 b2 : Option Addr} {n1 c1 m1 d1 n2 c2 m2 d2 : Nat} {l m : List Int} {es fs : List ByteArray} {o p : Option Ar} (W : World) (hW : WT W) (h1 : Av W a1 n1 c1 b1 m1 d1 l es o) (h2 : Av W a2 n2 c2 b2 m2 d2 m fs p) (hf1 : fewB l es = false) :
    Calls Tryd.prog 4 #[.agg #[.slice a1 n1 c1, .slice b1 m1 d1], .agg #[.slice a2 n2 c2, .slice b2 m2 d2]] W (TrueEnd W) := by
  have KS := Lib.hid (fun w (hb : Below W.heap.size W w) => kshown_is w (hW.below hb))
  have KF1 := fun w (hb : Below W.heap.size W w) => Few_is (c := c1) (d := d1) w (h1.v.below hb) h1.z
  rw [hf1] at KF1
  replace KF1 := Lib.hid KF1
  have h := lw_two W h1 h2
  clear hW h1 h2 hf1
  go_enter Tryd.func4, Tryd.ntmps4
  go_wp2_with fail
  with_reducible refine (lw h (KS.out _ h.out.2.2.2.2)).mono ?_
  clear h
  rintro e w ⟨rfl, h⟩
  have xv := h.out.2.2.1.c0
  have yv := h.out.2.2.1.c1
  go_wp2_with fail
  with_reducible refine (lw h (KF1.out _ h.out.2.2.2.2)).mono ?_
  clear h xv yv
  rintro e w ⟨rfl, h⟩
  go_wp2_with fail
  go_ret
  exact ⟨rfl, h.out.2.2.2.2⟩
set_option maxRecDepth 100000 in
set_option maxHeartbeats 6400000 in
theorem sfinds_few2 {a1 b1 a2 b2 : Option Addr} {n1 c1 m1 d1 n2 c2 m2 d2 : Nat} {l m : List Int} {es fs : List ByteArray} {o p : Option Ar} (W : World) (hW : WT W) (h1 : Av W a1 n1 c1 b1 m1 d1 l es o) (h2 : Av W a2 n2 c2 b2 m2 d2 m fs p) (hf1 : fewB l es = true) (hf2 : fewB m fs = false) :
    Calls Tryd.prog 4 #[.agg #[.slice a1 n1 c1, .slice b1 m1 d1], .agg #[.slice a2 n2 c2, .slice b2 m2 d2]] W (TrueEnd W) := by
  have KS := Lib.hid (fun w (hb : Below W.heap.size W w) => kshown_is w (hW.below hb))
  have KF1 := fun w (hb : Below W.heap.size W w) => Few_is (c := c1) (d := d1) w (h1.v.below hb) h1.z
  rw [hf1] at KF1
  replace KF1 := Lib.hid KF1
  have KF2 := fun w (hb : Below W.heap.size W w) => Few_is (c := c2) (d := d2) w (h2.v.below hb) h2.z
  rw [hf2] at KF2
  replace KF2 := Lib.hid KF2
  have h := lw_two W h1 h2
  clear hW h1 h2 hf1 hf2
  go_enter Tryd.func4, Tryd.ntmps4
  go_wp2_with fail
  with_reducible refine (lw h (KS.out _ h.out.2.2.2.2)).mono ?_
  clear h
  rintro e w ⟨rfl, h⟩
  have xv := h.out.2.2.1.c0
  have yv := h.out.2.2.1.c1
  go_wp2_with fail
  with_reducible refine (lw h (KF1.out _ h.out.2.2.2.2)).mono ?_
  clear h xv yv
  rintro e w ⟨rfl, h⟩
  have xw := h.out.1.c0
  have yw := h.out.1.c1
  go_wp2_with fail
  with_reducible refine (lw h (KF2.out _ h.out.2.2.2.2)).mono ?_
  clear h xw yw
  rintro e w ⟨rfl, h⟩
  go_wp2_with fail
  go_ret
  exact ⟨rfl, h.out.2.2.2.2⟩
set_option maxRecDepth 100000 in
set_option maxHeartbeats 6400000 in
theorem sfinds_v {a1 b1 a2 b2 : Option Addr} {n1 c1 m1 d1 n2 c2 m2 d2 : Nat} {l m : List Int} {es fs : List ByteArray} {p : Option Ar} (W : World) (hW : WT W) (h1 : Av W a1 n1 c1 b1 m1 d1 l es none) (h2 : Av W a2 n2 c2 b2 m2 d2 m fs p) (hf1 : fewB l es = true) (hf2 : fewB m fs = true) :
    Calls Tryd.prog 4 #[.agg #[.slice a1 n1 c1, .slice b1 m1 d1], .agg #[.slice a2 n2 c2, .slice b2 m2 d2]] W (TrueEnd W) := by
  have KS := Lib.hid (fun w (hb : Below W.heap.size W w) => kshown_is w (hW.below hb))
  have KF1 := fun w (hb : Below W.heap.size W w) => Few_is (c := c1) (d := d1) w (h1.v.below hb) h1.z
  rw [hf1] at KF1
  replace KF1 := Lib.hid KF1
  have KF2 := fun w (hb : Below W.heap.size W w) => Few_is (c := c2) (d := d2) w (h2.v.below hb) h2.z
  rw [hf2] at KF2
  replace KF2 := Lib.hid KF2
  have KV := Lib.hid (fun w (hb : Below W.heap.size W w) => VMay_av (h1.below hb))
  have h := lw_two W h1 h2
  clear hW h1 h2 hf1 hf2
  go_enter Tryd.func4, Tryd.ntmps4
  go_wp2_with fail
  with_reducible refine (lw h (KS.out _ h.out.2.2.2.2)).mono ?_
  clear h
  rintro e w ⟨rfl, h⟩
  have xv := h.out.2.2.1.c0
  have yv := h.out.2.2.1.c1
  go_wp2_with fail
  with_reducible refine (lw h (KF1.out _ h.out.2.2.2.2)).mono ?_
  clear h xv yv
  rintro e w ⟨rfl, h⟩
  have xw := h.out.1.c0
  have yw := h.out.1.c1
  go_wp2_with fail
  with_reducible refine (lw h (KF2.out _ h.out.2.2.2.2)).mono ?_
  clear h xw yw
  rintro e w ⟨rfl, h⟩
  have xv := h.out.2.2.1.c0
  have yv := h.out.2.2.1.c1
  go_wp2_with fail
  with_reducible refine (lwS h (KV.out _ h.out.2.2.2.2)).mono ?_
  clear h xv yv
  rintro e w ⟨rfl, h⟩
  go_wp2_with fail
  go_ret
  exact ⟨rfl, h.out.2.2.2.2⟩
set_option maxRecDepth 100000 in
set_option maxHeartbeats 6400000 in
theorem sfinds_w {a1 b1 a2 b2 : Option Addr} {n1 c1 m1 d1 n2 c2 m2 d2 : Nat} {l m : List Int} {es fs : List ByteArray} {q : Ar} (W : World) (hW : WT W) (h1 : Av W a1 n1 c1 b1 m1 d1 l es (some q)) (h2 : Av W a2 n2 c2 b2 m2 d2 m fs none) (hf1 : fewB l es = true) (hf2 : fewB m fs = true) :
    Calls Tryd.prog 4 #[.agg #[.slice a1 n1 c1, .slice b1 m1 d1], .agg #[.slice a2 n2 c2, .slice b2 m2 d2]] W (TrueEnd W) := by
  have KS := Lib.hid (fun w (hb : Below W.heap.size W w) => kshown_is w (hW.below hb))
  have KF1 := fun w (hb : Below W.heap.size W w) => Few_is (c := c1) (d := d1) w (h1.v.below hb) h1.z
  rw [hf1] at KF1
  replace KF1 := Lib.hid KF1
  have KF2 := fun w (hb : Below W.heap.size W w) => Few_is (c := c2) (d := d2) w (h2.v.below hb) h2.z
  rw [hf2] at KF2
  replace KF2 := Lib.hid KF2
  have KV := Lib.hid (fun w (hb : Below W.heap.size W w) => VMay_av (h1.below hb))
  have KU := Lib.hid (fun w (hb : Below W.heap.size W w) => VMay_av (h2.below hb))
  have h := lw_two W h1 h2
  clear hW h1 h2 hf1 hf2
  go_enter Tryd.func4, Tryd.ntmps4
  go_wp2_with fail
  with_reducible refine (lw h (KS.out _ h.out.2.2.2.2)).mono ?_
  clear h
  rintro e w ⟨rfl, h⟩
  have xv := h.out.2.2.1.c0
  have yv := h.out.2.2.1.c1
  go_wp2_with fail
  with_reducible refine (lw h (KF1.out _ h.out.2.2.2.2)).mono ?_
  clear h xv yv
  rintro e w ⟨rfl, h⟩
  have xw := h.out.1.c0
  have yw := h.out.1.c1
  go_wp2_with fail
  with_reducible refine (lw h (KF2.out _ h.out.2.2.2.2)).mono ?_
  clear h xw yw
  rintro e w ⟨rfl, h⟩
  have xv := h.out.2.2.1.c0
  have yv := h.out.2.2.1.c1
  go_wp2_with fail
  with_reducible refine (lwS h (KV.out _ h.out.2.2.2.2)).mono ?_
  clear h xv yv
  rintro e w ⟨rfl, h⟩
  have xw := h.out.1.c0
  have yw := h.out.1.c1
  go_wp2_with fail
  with_reducible refine (lwS h (KU.out _ h.out.2.2.2.2)).mono ?_
  clear h xw yw
  rintro e w ⟨rfl, h⟩
  go_wp2_with fail
  go_ret
  exact ⟨rfl, h.out.2.2.2.2⟩
set_option maxRecDepth 100000 in
set_option maxHeartbeats 6400000 in
theorem sfinds_rank {a1 b1 a2 b2 : Option Addr} {n1 c1 m1 d1 n2 c2 m2 d2 : Nat} {l m : List Int} {es fs : List ByteArray} {q r : Ar} (W : World) (hW : WT W) (h1 : Av W a1 n1 c1 b1 m1 d1 l es (some q)) (h2 : Av W a2 n2 c2 b2 m2 d2 m fs (some r)) (hf1 : fewB l es = true) (hf2 : fewB m fs = true) (hn : n1 ≠ 1) :
    Calls Tryd.prog 4 #[.agg #[.slice a1 n1 c1, .slice b1 m1 d1], .agg #[.slice a2 n2 c2, .slice b2 m2 d2]] W (TrueEnd W) := by
  have KS := Lib.hid (fun w (hb : Below W.heap.size W w) => kshown_is w (hW.below hb))
  have KF1 := fun w (hb : Below W.heap.size W w) => Few_is (c := c1) (d := d1) w (h1.v.below hb) h1.z
  rw [hf1] at KF1
  replace KF1 := Lib.hid KF1
  have KF2 := fun w (hb : Below W.heap.size W w) => Few_is (c := c2) (d := d2) w (h2.v.below hb) h2.z
  rw [hf2] at KF2
  replace KF2 := Lib.hid KF2
  have KV := Lib.hid (fun w (hb : Below W.heap.size W w) => VMay_av (h1.below hb))
  have KU := Lib.hid (fun w (hb : Below W.heap.size W w) => VMay_av (h2.below hb))
  have hn1 : (n1 : Int) ≠ 1 := by omega
  have h := lw_two W h1 h2
  clear hW h1 h2 hf1 hf2
  go_enter Tryd.func4, Tryd.ntmps4
  go_wp2_with fail
  with_reducible refine (lw h (KS.out _ h.out.2.2.2.2)).mono ?_
  clear h
  rintro e w ⟨rfl, h⟩
  have xv := h.out.2.2.1.c0
  have yv := h.out.2.2.1.c1
  go_wp2_with fail
  with_reducible refine (lw h (KF1.out _ h.out.2.2.2.2)).mono ?_
  clear h xv yv
  rintro e w ⟨rfl, h⟩
  have xw := h.out.1.c0
  have yw := h.out.1.c1
  go_wp2_with fail
  with_reducible refine (lw h (KF2.out _ h.out.2.2.2.2)).mono ?_
  clear h xw yw
  rintro e w ⟨rfl, h⟩
  have xv := h.out.2.2.1.c0
  have yv := h.out.2.2.1.c1
  go_wp2_with fail
  with_reducible refine (lwS h (KV.out _ h.out.2.2.2.2)).mono ?_
  clear h xv yv
  rintro e w ⟨rfl, h⟩
  have xw := h.out.1.c0
  have yw := h.out.1.c1
  go_wp2_with fail
  with_reducible refine (lwS h (KU.out _ h.out.2.2.2.2)).mono ?_
  clear h xw yw
  rintro e w ⟨rfl, h⟩
  have xv := h.out.2.2.1.c0
  have yv := h.out.2.2.1.c1
  go_wp2_with fail
  go_ret
  exact ⟨rfl, h.out.2.2.2.2⟩
set_option maxRecDepth 100000 in
set_option maxHeartbeats 6400000 in
theorem sfinds_yes {a1 b1 a2 b2 : Option Addr} {n1 c1 m1 d1 n2 c2 m2 d2 : Nat} {l m : List Int} {es fs : List ByteArray} {q r : Ar} (W : World) (hW : WT W) (h1 : Av W a1 n1 c1 b1 m1 d1 l es (some q)) (h2 : Av W a2 n2 c2 b2 m2 d2 m fs (some r)) (hf1 : fewB l es = true) (hf2 : fewB m fs = true) (hn : n1 = 1) :
    Calls Tryd.prog 4 #[.agg #[.slice a1 n1 c1, .slice b1 m1 d1], .agg #[.slice a2 n2 c2, .slice b2 m2 d2]] W (TrueEnd W) := by
  have KS := Lib.hid (fun w (hb : Below W.heap.size W w) => kshown_is w (hW.below hb))
  have KF1 := fun w (hb : Below W.heap.size W w) => Few_is (c := c1) (d := d1) w (h1.v.below hb) h1.z
  rw [hf1] at KF1
  replace KF1 := Lib.hid KF1
  have KF2 := fun w (hb : Below W.heap.size W w) => Few_is (c := c2) (d := d2) w (h2.v.below hb) h2.z
  rw [hf2] at KF2
  replace KF2 := Lib.hid KF2
  have KV := Lib.hid (fun w (hb : Below W.heap.size W w) => VMay_av (h1.below hb))
  have KU := Lib.hid (fun w (hb : Below W.heap.size W w) => VMay_av (h2.below hb))
  have hn1 : (n1 : Int) = 1 := by omega
  have hq := vec_one h1.i.rok (by rw [h1.fst, h1.v.s.1]; exact hn)
  have hm4 := h1.mlen.2.2
  have hml := h1.mlen.1
  have hm5 := h2.mlen.2.2
  have hmr := h2.mlen.1
  obtain ⟨F, U, X, t1, ⟨t2, t3, t4⟩, t5, t6, t7, t8⟩ := finds_all (r := r) hq (by rw [← hml]; exact hm4)
  have KW := Lib.hid (fun w (hb : Below W.heap.size W w) => hW.below hb)
  have K1 := Lib.hid (fun w (hb : Below W.heap.size W w) => (by have k := SFind_is (h1.below hb) (h2.below hb) (KW.out w hb); rwa [t1] at k : Calls Tryd.prog 15 #[.agg #[.slice a1 n1 c1, .slice b1 m1 d1], .agg #[.slice a2 n2 c2, .slice b2 m2 d2]] w (MEnd (some (r.1, F), 0) w)))
  have K2 := Lib.hid (fun w (hb : Below W.heap.size W w) => (by have k := SUnique_is (h1.below hb) (KW.out w hb); rwa [t5] at k : Calls Tryd.prog 17 #[.agg #[.slice a1 n1 c1, .slice b1 m1 d1]] w (MEnd (some ([(U.length : Int)], U), 0) w)))
  rw [← hmr] at t2 t4
  have T2 := Lib.hid t2
  have T3 := Lib.hid t3
  have T4 := Lib.hid t4
  have T6 := Lib.hid t6
  have T7 := Lib.hid t7
  have T8 := Lib.hid t8
  have HML := Lib.hid hml
  have HMR := Lib.hid hmr
  have HE1 := Lib.hid h1.i.2.1
  have HE2 := Lib.hid h2.i.2.1
  have HVV := Lib.hid h1
  clear t1 t2 t3 t4 t5 t6 t7 t8 hq hml hmr hn
  have h := lw_two W h1 h2
  clear hW h1 h2 hf1 hf2
  go_enter Tryd.func4, Tryd.ntmps4
  go_wp2_with fail
  with_reducible refine (lw h (KS.out _ h.out.2.2.2.2)).mono ?_
  clear h
  rintro e w ⟨rfl, h⟩
  have xv := h.out.2.2.1.c0
  have yv := h.out.2.2.1.c1
  go_wp2_with fail
  with_reducible refine (lw h (KF1.out _ h.out.2.2.2.2)).mono ?_
  clear h xv yv
  rintro e w ⟨rfl, h⟩
  have xw := h.out.1.c0
  have yw := h.out.1.c1
  go_wp2_with fail
  with_reducible refine (lw h (KF2.out _ h.out.2.2.2.2)).mono ?_
  clear h xw yw
  rintro e w ⟨rfl, h⟩
  have xv := h.out.2.2.1.c0
  have yv := h.out.2.2.1.c1
  go_wp2_with fail
  with_reducible refine (lwS h (KV.out _ h.out.2.2.2.2)).mono ?_
  clear h xv yv
  rintro e w ⟨rfl, h⟩
  have xw := h.out.1.c0
  have yw := h.out.1.c1
  go_wp2_with fail
  with_reducible refine (lwS h (KU.out _ h.out.2.2.2.2)).mono ?_
  clear h xw yw
  rintro e w ⟨rfl, h⟩
  have xv := h.out.2.2.1.c0
  have yv := h.out.2.2.1.c1
  have xw := h.out.1.c0
  have yw := h.out.1.c1
  go_wp2_with fail
  with_reducible refine (lwS_M h (K1.out _ h.out.2.2.2.2)).mono ?_
  clear h xv yv xw yw
  rintro e w ⟨af, nf, cf, bf, mf, df, rfl, h⟩
  have KA := All_av (c := cf) (d := df) (s := r.1) _ (show Vl _ af nf bf mf r.1 (F.map S) from h.out.2.1.v) h.out.2.1.i.2.2.2 (by have := h.out.2.1.mlen.2.2; omega) (KW.out _ h.out.2.2.2.2.2.2)
  have xf := h.out.1.c0
  have yf := h.out.1.c1
  go_wp2_with fail
  with_reducible refine (lwS_al h (And.intro KA T3.out)).mono ?_
  clear h xf yf
  rintro e w ⟨al, nl, cl, rfl, hnl, h⟩
  obtain rfl : nl = m2 := hnl.trans T2.out
  clear hnl
  have xv := h.out.2.2.2.2.2.1.c0
  have yv := h.out.2.2.2.2.2.1.c1
  go_wp2_with fail
  with_reducible refine (lwS_M h (K2.out _ h.out.2.2.2.2.2.2.2)).mono ?_
  clear h xv yv
  rintro e w ⟨au, nu, cu, bu, mu, du, rfl, h⟩
  obtain ⟨wu, hwu⟩ : ∃ z, z = w := ⟨_, rfl⟩
  subst hwu
  go_upto_region 7 with fail
  generalize hwq : wu.alloc (.cells #[.slice au nu cu, .slice bu mu du] 25) = wq at *
  clear hwq KA
  have xw := h.out.2.2.2.2.2.1.c0
  have yw := h.out.2.2.2.2.2.1.c1
  have HLV := Lib.hid h
  go_wp2_with fail
  clear xw yw h
  go_loopw [12] (fun iv wr => ∃ i : Nat, iv = .int .i64 (i : Int) ∧ i ≤ nl ∧ Below wq.heap.size wq wr) (fun iv _ => nl - (intOf iv).toNat)
  case atStart => exact ⟨0, rfl, Nat.zero_le _, Below.refl _ _⟩
  case round =>
    obtain ⟨i, rfl, hi, hb⟩ := hrel
    by_cases hil : i < nl
    · have e3 : (i : Int) < (nl : Int) := by omega
      have h := lwS_on HLV.out hb
      have hft := T4.out i hil
      obtain ⟨x, hx⟩ : ∃ x, x = r.2.getD i 0 := ⟨_, rfl⟩
      rw [← hx] at hft
      have hgl := fp_le q.2 x
      rw [← HML.out] at hgl
      obtain ⟨tx, htx⟩ : ∃ tx, tx = S x := ⟨_, rfl⟩
      have HTX := Lib.hid htx
      have HX := Lib.hid hx
      obtain ⟨gg, hgg⟩ : ∃ gg, gg = fpS q.2 x := ⟨_, rfl⟩
      have HGG := Lib.hid hgg
      rw [← hgg] at hft hgl
      have hbs : (tx.toList == tx.toList) = true := beq_self_eq_true _
      have qd1 : decide ((gg : Int) < 0) = false := decide_eq_false (by omega)
      have qd2 : decide ((m1 : Int) < (gg : Int)) = false := decide_eq_false (by omega)
      have qd2n : decide (m1 < gg) = false := decide_eq_false (by omega)
      have hg0 : ¬ ((gg : Int) < 0) := by omega
      have hg1 : ¬ ((m1 : Int) < (gg : Int)) := by omega
      -- the cells that rounds read, at every world behind
      have CL : Hid (∀ z, Below wq.heap.size wq z → ∃ bl ol, al = some ⟨bl, ol, none⟩ ∧ z.cell? ⟨bl, ol + i, none⟩ = some (.int .i64 (gg : Int))) := Lib.hid fun z hz => by
        have h := lwS_on HLV.out hz
        obtain ⟨bl, ol, e, hc⟩ := h.out.2.2.1.2 (by omega)
        exact ⟨bl, ol, e, by rw [hc i hil, hft]⟩
      have CW : Hid (∀ z, Below wq.heap.size wq z → ∃ p o, b2 = some ⟨p, o, none⟩ ∧ z.cell? ⟨p, o + i, none⟩ = some (.string tx)) := Lib.hid fun z hz => by
        have h := lwS_on HLV.out hz
        obtain ⟨p, o, e, hc⟩ := h.out.2.2.2.2.2.2.1.v.t.2 (by omega)
        have k5 := hc i hil
        rw [HE2.out, getD_S (by rw [← HMR.out]; exact hil), ← hx, ← htx] at k5
        exact ⟨p, o, e, k5⟩
      have CV : Hid (∀ k, k < m1 → ∀ z, Below wq.heap.size wq z → ∃ p o, b1 = some ⟨p, o, none⟩ ∧ z.cell? ⟨p, o + k, none⟩ = some (.string (S (q.2.getD k 0)))) := Lib.hid fun k hk z hz => by
        have h := lwS_on HLV.out hz
        obtain ⟨p, o, e, hc⟩ := h.out.2.2.2.2.2.2.2.2.1.v.t.2 (by omega)
        have k5 := hc k hk
        rw [HE1.out, getD_S (by rw [← HML.out]; exact hk)] at k5
        exact ⟨p, o, e, k5⟩
      have YV : Hid (∀ z, Below wq.heap.size wq z → z.cell? ⟨W.heap.size, 1, none⟩ = some (.slice b1 m1 d1) ∧ z.cell? ⟨W.heap.size + 1, 1, none⟩ = some (.slice b2 nl d2)) := Lib.hid fun z hz => by
        have h := lwS_on HLV.out hz
        exact ⟨h.out.2.2.2.2.2.2.2.1.c1, h.out.2.2.2.2.2.1.c1⟩
      clear h hx htx hgg hft
      obtain ⟨bl, ol, rfl, cl⟩ := CL.out _ hb
      obtain ⟨pw, ow, rfl, cw⟩ := CW.out _ hb
      obtain ⟨yv, yw⟩ := YV.out _ hb
      have HB := Lib.hid hb
      by_cases hgm : gg < m1
      · have e4 : (gg : Int) < (m1 : Int) := by omega
        have qd3 : decide ((gg : Int) < (m1 : Int)) = true := decide_eq_true e4
        have qd3n : decide (gg < m1) = true := decide_eq_true (by omega)
        obtain ⟨pv, ov, rfl, cv⟩ := CV.out gg hgm _ hb
        have hxg : q.2.getD gg 0 = x := by
          have k := fp_at (l := q.2) (x := x) (by rw [← HGG.out, ← HML.out]; exact hgm)
          rw [← HGG.out] at k
          rw [List.getD_eq_getElem?_getD, k]; rfl
        rw [hxg, ← HTX.out] at cv
        clear hb hxg
        go_wp2_with fail
        go_quiet (fail)
        go_wp2_with fail
        have hb2 := HB.out.trans (below_drewN (Below.refl wr.heap.size wr) nq |>.mono HB.out.size)
        have HB2 := Lib.hid hb2
        generalize wr.drewN nq = w2 at hb2 HB2 ⊢
        clear hb2 cl cw yv yw cv qd1 qd2 qd3 qd2n qd3n
        go_loopw [13] (fun kv wz => ∃ k : Nat, kv = .int .i64 (k : Int) ∧ k ≤ gg ∧ Below wq.heap.size wq wz) (fun kv _ => gg - (intOf kv).toNat)
        case atStart => exact ⟨0, rfl, Nat.zero_le _, HB2.out⟩
        case round =>
          obtain ⟨k, rfl, hk, hbz⟩ := hrel
          obtain ⟨bl', ol', hel, cl⟩ := CL.out _ hbz
          injection hel with hel
          injection hel with h5 h6 _
          subst h5 h6
          by_cases hkg : k < gg
          · have e5 : (k : Int) < (gg : Int) := by omega
            have e6 : (k : Int) < (m1 : Int) := by omega
            obtain ⟨pw', ow', hew, cw⟩ := CW.out _ hbz
            injection hew with hew
            injection hew with h5 h6 _
            subst h5 h6
            obtain ⟨pv', ov', hev, cv⟩ := CV.out k (by omega) _ hbz
            injection hev with hev
            injection hev with h5 h6 _
            subst h5 h6
            obtain ⟨yv, yw⟩ := YV.out _ hbz
            have hne : ((S (q.2.getD k 0)).toList == tx.toList) = false := by
              rw [HTX.out]
              refine S_ne fun e => ?_
              refine fp_min (l := q.2) (x := x) (k := k) (by rw [← HGG.out]; exact hkg) ?_
              rw [← e, List.getD_eq_getElem?_getD]
              rw [List.getElem?_eq_getElem (by rw [← HML.out]; omega)]; rfl
            generalize S (q.2.getD k 0) = ty at cv hne
            have HBZ := Lib.hid hbz
            clear hbz
            go_wp2_with fail
            go_quiet (fail)
            go_wp2_with fail
            go_roundw
            case rel => exact ⟨k + 1, by go_num, by omega, HBZ.out.trans (below_drewN (Below.refl wr.heap.size wr) nq |>.mono HBZ.out.size)⟩
            case measure => simp [intOf]; omega
          · have e5 : ¬ (k : Int) < (gg : Int) := by omega
            go_wp2_with fail
            go_roundw
            case rel => exact ⟨i + 1, by go_num, by omega, hbz⟩
            case measure => simp [intOf]; omega
      · have e4 : ¬ (gg : Int) < (m1 : Int) := by omega
        have qd3 : decide ((gg : Int) < (m1 : Int)) = false := decide_eq_false e4
        have qd3n : decide (gg < m1) = false := decide_eq_false (by omega)
        clear hb
        go_wp2_with fail
        go_quiet (fail)
        go_wp2_with fail
        have hb2 := HB.out.trans (below_drewN (Below.refl wr.heap.size wr) nq |>.mono HB.out.size)
        have HB2 := Lib.hid hb2
        generalize wr.drewN nq = w2 at hb2 HB2 ⊢
        clear hb2 cl cw yv yw qd1 qd2 qd3 qd2n qd3n
        go_loopw [13] (fun kv wz => ∃ k : Nat, kv = .int .i64 (k : Int) ∧ k ≤ gg ∧ Below wq.heap.size wq wz) (fun kv _ => gg - (intOf kv).toNat)
        case atStart => exact ⟨0, rfl, Nat.zero_le _, HB2.out⟩
        case round =>
          obtain ⟨k, rfl, hk, hbz⟩ := hrel
          obtain ⟨bl', ol', hel, cl⟩ := CL.out _ hbz
          injection hel with hel
          injection hel with h5 h6 _
          subst h5 h6
          by_cases hkg : k < gg
          · have e5 : (k : Int) < (gg : Int) := by omega
            have e6 : (k : Int) < (m1 : Int) := by omega
            obtain ⟨pw', ow', hew, cw⟩ := CW.out _ hbz
            injection hew with hew
            injection hew with h5 h6 _
            subst h5 h6
            obtain ⟨pv', ov', hev, cv⟩ := CV.out k (by omega) _ hbz
            subst hev
            obtain ⟨yv, yw⟩ := YV.out _ hbz
            have hne : ((S (q.2.getD k 0)).toList == tx.toList) = false := by
              rw [HTX.out]
              refine S_ne fun e => ?_
              refine fp_min (l := q.2) (x := x) (k := k) (by rw [← HGG.out]; exact hkg) ?_
              rw [← e, List.getD_eq_getElem?_getD]
              rw [List.getElem?_eq_getElem (by rw [← HML.out]; omega)]; rfl
            generalize S (q.2.getD k 0) = ty at cv hne
            have HBZ := Lib.hid hbz
            clear hbz
            go_wp2_with fail
            go_quiet (fail)
            go_wp2_with fail
            go_roundw
            case rel => exact ⟨k + 1, by go_num, by omega, HBZ.out.trans (below_drewN (Below.refl wr.heap.size wr) nq |>.mono HBZ.out.size)⟩
            case measure => simp [intOf]; omega
          · have e5 : ¬ (k : Int) < (gg : Int) := by omega
            go_wp2_with fail
            go_roundw
            case rel => exact ⟨i + 1, by go_num, by omega, hbz⟩
            case measure => simp [intOf]; omega
    · have e3 : ¬ (i : Int) < (nl : Int) := by omega
      have h := lwS_on HLV.out hb
      clear hb
      by_cases hm0 : m1 = 0
      · subst hm0
        have KK := SFind_is h.out.2.1 h.out.2.2.2.2.2.2.2.2.1 (KW.out _ h.out.2.2.2.2.2.2.2.2.2)
        rw [T7.out] at KK
        have xu := h.out.1.c0
        have yu := h.out.1.c1
        have xv := h.out.2.2.2.2.2.2.2.1.c0
        have yv := h.out.2.2.2.2.2.2.2.1.c1
        go_wp2_with fail
        with_reducible refine (lwS_M h (KK)).mono ?_
        clear h xu yu xv yv
        rintro e w ⟨ax, nx, cx, bx, mx, dx, rfl, h⟩
        clear KK
        have KK := SIndex_is h.out.2.2.2.1 h.out.2.1 (KW.out _ h.out.2.2.2.2.2.2.2.2.2.2.2)
        rw [T8.out] at KK
        have xu := h.out.2.2.1.c0
        have yu := h.out.2.2.1.c1
        have xx := h.out.1.c0
        have yx := h.out.1.c1
        go_wp2_with fail
        with_reducible refine (lwS_M h (KK)).mono ?_
        clear h xu yu xx yx
        rintro e w ⟨aj, nj, cj, bj, mj, dj, rfl, h⟩
        clear KK
        obtain rfl : mu = 0 := by have := (show mu = U.length from h.out.2.2.2.2.2.1.mlen.1); have k := T6.out; rw [← HML.out] at k; omega
        have xu := h.out.2.2.2.2.1.c0
        have yu := h.out.2.2.2.2.1.c1
        have xv := h.out.2.2.2.2.2.2.2.2.2.2.2.1.c0
        have yv := h.out.2.2.2.2.2.2.2.2.2.2.2.1.c1
        go_wp2_with fail
        go_ret
        exact ⟨rfl, h.out.2.2.2.2.2.2.2.2.2.2.2.2.2⟩
      · have hm0i : ((m1 : Int) == 0) = false := beq_eq_false_iff_ne.2 (by omega)
        have KK := SFind_is h.out.2.1 h.out.2.2.2.2.2.2.2.2.1 (KW.out _ h.out.2.2.2.2.2.2.2.2.2)
        rw [T7.out] at KK
        have xu := h.out.1.c0
        have yu := h.out.1.c1
        have xv := h.out.2.2.2.2.2.2.2.1.c0
        have yv := h.out.2.2.2.2.2.2.2.1.c1
        go_wp2_with fail
        with_reducible refine (lwS_M h (KK)).mono ?_
        clear h xu yu xv yv
        rintro e w ⟨ax, nx, cx, bx, mx, dx, rfl, h⟩
        clear KK
        have KK := SIndex_is h.out.2.2.2.1 h.out.2.1 (KW.out _ h.out.2.2.2.2.2.2.2.2.2.2.2)
        rw [T8.out] at KK
        have xu := h.out.2.2.1.c0
        have yu := h.out.2.2.1.c1
        have xx := h.out.1.c0
        have yx := h.out.1.c1
        go_wp2_with fail
        with_reducible refine (lwS_M h (KK)).mono ?_
        clear h xu yu xx yx
        rintro e w ⟨aj, nj, cj, bj, mj, dj, rfl, h⟩
        clear KK
        have hmu : mu ≤ m1 := by have := h.out.2.2.2.2.2.1.mlen.1; have k := T6.out; rw [← HML.out] at k; exact Nat.le_trans (Nat.le_of_eq this) k
        have hmui : (mu : Int) ≤ (m1 : Int) := by omega
        have KS1 : (TS (some q)).1 = l := HVV.out.fst
        have KS2 : (TS (some q)).2 = es := HE1.out.symm
        have KS3 : n1 ≤ 1000000 := by have := HVV.out.n3; omega
        have xu := h.out.2.2.2.2.1.c0
        have yu := h.out.2.2.2.2.1.c1
        have xv := h.out.2.2.2.2.2.2.2.2.2.2.2.1.c0
        have yv := h.out.2.2.2.2.2.2.2.2.2.2.2.1.c1
        have xj := h.out.1.c0
        have yj := h.out.1.c1
        go_wp2_with fail
        with_reducible refine (lwS h (VSame_av h.out.2.1.v h.out.2.2.2.2.2.2.2.2.2.2.2.2.1.v h.out.2.1.ntt KS3 KS1 KS2)).mono ?_
        clear h xu yu xv yv xj yj
        rintro e w ⟨rfl, h⟩
        have xu := h.out.2.2.2.2.1.c0
        have yu := h.out.2.2.2.2.1.c1
        have xv := h.out.2.2.2.2.2.2.2.2.2.2.2.1.c0
        have yv := h.out.2.2.2.2.2.2.2.2.2.2.2.1.c1
        go_wp2_with fail
        go_ret
        exact ⟨rfl, h.out.2.2.2.2.2.2.2.2.2.2.2.2.2⟩
theorem sfinds_any {a1 b1 a2 b2 : Option Addr} {n1 c1 m1 d1 n2 c2 m2 d2 : Nat} {l m : List Int} {es fs : List ByteArray} (W : World) (hW : WT W) (hV : Vl W a1 n1 b1 m1 l es) (hC : Cp n1 c1 m1 d1) (hZ : ∀ j, j < m1 → (es.getD j ByteArray.empty).size ≤ maxLen) (hV2 : Vl W a2 n2 b2 m2 m fs) (hC2 : Cp n2 c2 m2 d2) (hZ2 : ∀ j, j < m2 → (fs.getD j ByteArray.empty).size ≤ maxLen) :
    Calls Tryd.prog 4 #[.agg #[.slice a1 n1 c1, .slice b1 m1 d1], .agg #[.slice a2 n2 c2, .slice b2 m2 d2]] W (TrueEnd W) := by
  obtain ⟨o, ho⟩ := ais_ex l es
  obtain ⟨p, hp⟩ := ais_ex m fs
  rcases Bool.eq_false_or_eq_true (fewB l es) with h | h
  · rcases Bool.eq_false_or_eq_true (fewB m fs) with g | g
    · cases o with
      | none => exact sfinds_v W hW ⟨hV, hC, hZ, ho⟩ ⟨hV2, hC2, hZ2, hp⟩ h g
      | some q =>
      cases p with
      | none => exact sfinds_w W hW ⟨hV, hC, hZ, ho⟩ ⟨hV2, hC2, hZ2, hp⟩ h g
      | some r =>
        by_cases hn : n1 = 1
        · exact sfinds_yes W hW ⟨hV, hC, hZ, ho⟩ ⟨hV2, hC2, hZ2, hp⟩ h g hn
        · exact sfinds_rank W hW ⟨hV, hC, hZ, ho⟩ ⟨hV2, hC2, hZ2, hp⟩ h g hn
    · exact sfinds_few2 W hW ⟨hV, hC, hZ, ho⟩ ⟨hV2, hC2, hZ2, hp⟩ h g
  · exact sfinds_few1 W hW ⟨hV, hC, hZ, ho⟩ ⟨hV2, hC2, hZ2, hp⟩ h
end Go.Proofs.YtpledghphljfkaaDoor

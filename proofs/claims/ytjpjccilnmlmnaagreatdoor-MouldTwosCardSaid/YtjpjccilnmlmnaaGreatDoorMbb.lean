import Derived.Test.YtjpjccilnmlmnaaGreatDoorMba
/-
  mould's Flip, by its contract.
-/
namespace Go.Proofs.YtjpjccilnmlmnaaGreatDoor
set_option linter.unusedVariables false
set_option linter.unusedSimpArgs false
open Go.RowKit

theorem flM_map (l xs : List Int) : flM l (xs.map S) = (flM l xs).map S := by
  unfold flM
  rw [List.map_filterMap, List.length_map]
  congr 1
  funext j
  rw [List.getElem?_map]
theorem flM_sub {α : Type} {l : List Int} {es : List α} {x : α} (h : x ∈ flM l es) : x ∈ es := by
  unfold flM at h
  obtain ⟨j, _, hj⟩ := List.mem_filterMap.1 h
  exact List.mem_of_getElem? hj
theorem fl_rok {q : Ar} (h : Rok (some q)) (hf : Fits q.1 q.2) : Rok (some (q.1.reverse, flM q.1 q.2)) :=
  ⟨szE_may.2 hf.turned.1, hf.turned.2, fun x hx => h.2.2 x (flM_sub hx)⟩
/-- Where the element stands that comes to the place of offset k. -/
theorem fl_off {l : List Int} {es : List ByteArray} (hf : Fits l es) {k : Nat} (hk : k < es.length) :
    plB l.reverse k = true ∧ plO l.reverse k = plL l.reverse k ∧ ofB l (plL l.reverse k).reverse = true ∧
      ∃ o : Nat, ofV l (plL l.reverse k).reverse = (o : Int) ∧ o < es.length ∧ (flM l es).getD k ByteArray.empty = es.getD o ByteArray.empty := by
  have ht := hf.turned
  have hp : 0 < pr l := by have := hf.2; omega
  have ha := (hf.1.pos hp).turned
  obtain ⟨h1, h2⟩ := plB_yes (szE_may.2 ht.1) (k := (k : Int)) (by omega) (by rw [pr_reverse, ← hf.2]; omega)
  obtain ⟨t1, t2⟩ := tno_range ha (k : Int)
  rw [pr_reverse, ← hf.2] at t2
  have hin := inL_turned ha (k : Int)
  rw [List.reverse_reverse] at hin
  have hb : ofB l (plL l.reverse k).reverse = true := by
    unfold ofB
    rw [decide_eq_true (szE_may.2 hf.1), decide_eq_true (by rw [List.length_reverse, plL_length, List.length_reverse]), hin]
    rfl
  have hv : ofV l (plL l.reverse k).reverse = tno l.reverse k := by
    unfold ofV
    rw [if_pos hb]
    unfold tno
    rw [List.reverse_reverse, List.length_reverse]
  refine ⟨h1, h2, hb, (tno l.reverse k).toNat, by rw [hv]; omega, by omega, ?_⟩
  rw [List.getD_eq_getElem?_getD, List.getD_eq_getElem?_getD, (flM_at hf).2 k hk]
set_option maxRecDepth 100000 in
set_option maxHeartbeats 3200000 in
theorem fl_no {a1 b1 : Option Addr} {n1 c1 m1 d1 : Nat} {l : List Int} {es : List ByteArray} {W : World} (h1 : Av W a1 n1 c1 b1 m1 d1 l es none) :
    Calls Tryz.prog 17 #[.agg #[.slice a1 n1 c1, .slice b1 m1 d1]] W (MEnd (none, 1) W) := by
  have KV := Lib.hid (fun w (hb : Below W.heap.size W w) => VMay_av (h1.below hb))
  clear h1
  have h := live1 W a1 n1 c1 b1 m1 d1
  go_enter Tryz.func17, Tryz.ntmps17
  have x1 := h.out.2.1.c0
  have y1 := h.out.2.1.c1
  go_wp2_with fail
  with_reducible refine (live h (KV.out _ h.out.2.2)).mono ?_
  clear h x1 y1
  rintro e w ⟨rfl, h⟩
  have y0 := h.out.1.c0
  have y3 := h.out.1.c1
  have f0 := h.out.1.f 0
  have f1 := h.out.1.f 1
  go_wp2_with fail
  have hR := h.out.1.set none 0 0 none 0 0
  have r0 := hR.c0
  have r1 := hR.c1
  exact bodyPost_ret (v := .tuple #[.agg #[.slice none 0 0, .slice none 0 0], .int .i64 1]) (by simp [results, Tryz.results17, go_sem, r0, r1]) rfl (mend_no h.out.1 h.out.2.2 (by omega))
set_option maxRecDepth 100000 in
set_option maxHeartbeats 3200000 in
theorem fl_yes {a1 b1 : Option Addr} {n1 c1 m1 d1 : Nat} {l : List Int} {es : List ByteArray} {W : World} {q : Ar} (h1 : Av W a1 n1 c1 b1 m1 d1 l es (some q)) :
    Calls Tryz.prog 17 #[.agg #[.slice a1 n1 c1, .slice b1 m1 d1]] W (MEnd (some (q.1.reverse, flM q.1 q.2), 0) W) := by
  have KV := Lib.hid (fun w (hb : Below W.heap.size W w) => VMay_av (h1.below hb))
  have hlen := h1.v.t.1
  have hf : Fits l es := by
    have hf := h1.fits
    exact ⟨by rw [← h1.fst]; exact hf.1, by rw [hlen]; exact h1.mlen.2.1⟩
  have hm4 := h1.mlen.2.2
  have hn3 := h1.n3
  have hnl := h1.v.s.1
  have hEs : (TS (some (q.1.reverse, flM q.1 q.2))).2 = flM l es := by
    rw [← h1.fst, h1.i.2.1]
    exact (flM_map _ _).symm
  have hSh : (TS (some (q.1.reverse, flM q.1 q.2))).1 = l.reverse := by rw [← h1.fst]; rfl
  have KE := Lib.hid (And.intro hEs (And.intro hSh ((flM_at hf).1.trans hlen)))
  have KF := Lib.hid (fun k (hk : k < m1) => fl_off hf (k := k) (by rw [hlen]; exact hk))
  have KC := Lib.hid (fun w (hb : Below W.heap.size W w) => Clone_o a1 n1 c1 l w (h1.v.s.below hb) (by omega))
  have KT := Lib.hid (fun w (hb : Below W.heap.size W w) => h1.v.below hb)
  have HR := Lib.hid (fl_rok h1.i.rok h1.fits)
  have HN := Lib.hid hnl
  have HL := Lib.hid hlen
  have hmk := run_mks m1 (by omega)
  clear h1 hEs hSh hlen hf hnl
  have h := live1 W a1 n1 c1 b1 m1 d1
  go_enter Tryz.func17, Tryz.ntmps17
  have x1 := h.out.2.1.c0
  have y1 := h.out.2.1.c1
  go_wp2_with fail
  with_reducible refine (live h (KV.out _ h.out.2.2)).mono ?_
  clear h x1 y1
  rintro e w ⟨rfl, h⟩
  have x1 := h.out.2.1.c0
  have y1 := h.out.2.1.c1
  go_wp2_with fail
  refine (KC.out _ h.out.2.2).mono ?_
  clear x1 y1
  rintro e w1 ⟨ta, tc, rfl, ho, hb⟩
  go_wp2_with fail
  refine (Reverse_o ho (by omega)).mono ?_
  rintro e w2 ⟨rfl, ho2, hg⟩
  have hb2 : Below w.heap.size w w2 := hb.trans (grown_below' hg (fun g hg' => (ho.lt g hg').1) hb.size)
  replace h := live_to h hb2
  have HO := Lib.hid ho2
  clear ho hb hg ho2 hb2 KC KV
  have x1 := h.out.2.1.c0
  have y1 := h.out.2.1.c1
  go_wp2_with fail
  have hR0 := Sr.made w2 m1
  have hbA : Below w2.heap.size w2 (w2.alloc (.cells (madeCells #[.string ⟨#[]⟩] m1) 9)) := (Below.refl _ _).alloc (Nat.le_refl _) _
  clear hmk x1 y1
  go_loopw [26] (fun i wr => ∃ (k : Nat) (F : Nat → ByteArray), i = .int .i64 k ∧ k ≤ m1 ∧ Sr wr w2.heap.size m1 F ∧ Hid (∀ j, j < k → F j = (flM l es).getD j ByteArray.empty) ∧ Below w2.heap.size w2 wr) (fun i _ => m1 - (intOf i).toNat)
  case atStart => exact ⟨0, _, rfl, by omega, hR0, Lib.hid (fun j hj => by omega), hbA⟩
  case round =>
    obtain ⟨k, F, rfl, hk, hRo, HF, hbq⟩ := hrel
    clear hR0 hbA
    have hr := live_to h hbq
    by_cases hlt : k < m1
    · have e2 : (k : Int) < (m1 : Int) := by omega
      have HP := Lib.hid (Place_is ta n1 tc l.reverse (k : Int) wr (own_sl (own_below HO.out hbq)) (by omega))
      unfold PlOw PlOwn at HP
      obtain ⟨q1, q2, q3, off, q4, q5, q6⟩ := KF.out k hlt
      rw [q1, q2] at HP
      rw [HL.out] at q5
      have hpl : (plL l.reverse (k : Int)).length = n1 := by rw [plL_length, List.length_reverse, HN.out]
      obtain ⟨p, hp⟩ : ∃ p, p = plL l.reverse (k : Int) := ⟨_, rfl⟩
      rw [← hp] at HP q3 q4 hpl
      rw [hpl] at HP
      have hV := KT.out wr hr.out.2.2
      obtain ⟨bb, bo, rfl, hc⟩ := hV.t.2 (by omega)
      obtain ⟨s, hs⟩ : ∃ s, s = es.getD off ByteArray.empty := ⟨_, rfl⟩
      have hcs := hc off q5
      rw [← hs] at hcs q6
      have HS := Lib.hid (And.intro q6 (And.intro q3 q4))
      have HV := Lib.hid hV.s
      have e3 : (off : Int) < (m1 : Int) := by omega
      have lc : bb < wr.heap.size := World.block_lt_of_cell? wr _ hcs
      clear q1 q2 q3 q4 q5 q6 hp hpl hc hV hs
      go_wp2_with fail
      refine HP.out.mono ?_
      rintro e w4 ⟨pa, pc, rfl, hpo, hb4⟩
      have hpo' := hpo
      clear hpo
      go_wp2_with fail
      refine (Reverse_o hpo' (by omega)).mono ?_
      rintro e w5 ⟨rfl, hpo2, hg5⟩
      have hb5 : Below wr.heap.size wr w5 := hb4.trans (grown_below' hg5 (fun g hg' => (hpo'.lt g hg').1) hb4.size)
      have h5 := live_to hr hb5
      have x1 := h5.out.2.1.c0
      have y1 := h5.out.2.1.c1
      have HQ := Offset_is a1 pa n1 c1 n1 pc l p.reverse w5 (HV.out.below hb5) (own_sl hpo2) (by omega)
      unfold OffIs at HQ
      rw [HS.out.2.1, HS.out.2.2] at HQ
      replace HQ := Lib.hid HQ
      clear hpo' hg5 hb4 hpo2 h5
      go_wp2_with fail
      refine HQ.out.mono ?_
      rintro e w6 ⟨rfl, hd⟩
      have hb6 : Below wr.heap.size wr w6 := hb5.trans (hd.below.mono hb5.size)
      clear x1 y1 HQ hd hb5
      have h6 := live_to hr hb6
      have x1 := h6.out.2.1.c0
      have y1 := h6.out.2.1.c1
      have hcs6 := (hb6.cell (p := ⟨bb, bo + off, none⟩) lc).trans hcs
      have hR6 := hRo.below hb6
      have y0 := hR6.cell (i := k) hlt
      have f0 := hR6.frozen k
      have hR7 := hR6.set k s
      have hb7 : Below w2.heap.size w2 w6 := hbq.trans (hb6.mono hbq.size)
      have hb8 := hb7.setCell (p := ⟨w2.heap.size, k, none⟩) (Nat.le_refl _) (.string s)
      have HF2 : Hid (∀ j, j < k + 1 → (fun j => if j = k then s else F j) j = (flM l es).getD j ByteArray.empty) := Lib.hid fun j hj => by
        show (if j = k then s else F j) = _
        by_cases hjk : j = k
        · rw [if_pos hjk, hjk, HS.out.1]
        · rw [if_neg hjk]; exact HF.out j (by omega)
      clear hcs hRo hR6 hb6 hb7 h6 hbq hr
      go_wp2_with fail
      go_roundw
      case rel => exact ⟨k + 1, _, by go_num, by omega, hR7, HF2, hb8⟩
      case measure => simp [intOf]; omega
    · have e2 : ¬ (k : Int) < (m1 : Int) := by omega
      obtain rfl : k = m1 := by omega
      replace h := hr
      have HT := Lib.hid (hRo.st KE.out.2.2 (fun j hj => HF.out j hj))
      have HO2 := Lib.hid (own_below HO.out hbq)
      clear hr hRo hbq
      have y0 := h.out.1.c0
      have y3 := h.out.1.c1
      have f0 := h.out.1.f 0
      have f1 := h.out.1.f 1
      go_wp2_with fail
      have hV : Vl wr ta n1 (some ⟨w2.heap.size, 0, none⟩) k (TS (some (q.1.reverse, flM q.1 q.2))).1 (TS (some (q.1.reverse, flM q.1 q.2))).2 := by
        rw [KE.out.1, KE.out.2.1]
        exact ⟨own_sl HO2.out, HT.out, by omega⟩
      have hR := h.out.1.set ta n1 tc (some ⟨w2.heap.size, 0, none⟩) k k
      have r0 := hR.c0
      have r1 := hR.c1
      exact bodyPost_ret (v := .tuple #[.agg #[.slice ta n1 tc, .slice (some ⟨w2.heap.size, 0, none⟩) k k], .int .i64 0]) (by simp [results, Tryz.results17, go_sem, r0, r1]) rfl (mend_box (r := _) h.out.1 h.out.2.2 (by omega) hV ⟨(own_caps HO2.out).1, (own_caps HO2.out).2, Nat.le_refl _, by unfold maxLen; omega⟩ HR.out)
theorem MReverse_is {a1 b1 : Option Addr} {n1 c1 m1 d1 : Nat} {l : List Int} {es : List ByteArray} {W : World} {o : Option Ar} (h1 : Av W a1 n1 c1 b1 m1 d1 l es o) : Calls Tryz.prog 15 #[.agg #[.slice a1 n1 c1, .slice b1 m1 d1]] W (MEnd (reM o) W) := by
  cases o with
  | none => exact re_no h1
  | some q => exact re_yes h1
theorem MFlip_is {a1 b1 : Option Addr} {n1 c1 m1 d1 : Nat} {l : List Int} {es : List ByteArray} {W : World} {o : Option Ar} (h1 : Av W a1 n1 c1 b1 m1 d1 l es o) : Calls Tryz.prog 17 #[.agg #[.slice a1 n1 c1, .slice b1 m1 d1]] W (MEnd (fiM o) W) := by
  cases o with
  | none => exact fl_no h1
  | some q => exact fl_yes h1
end Go.Proofs.YtjpjccilnmlmnaaGreatDoor

import Derived.Test.YtpledghphljfkaaGreatDoorMax
/-
  The reference's Find, by its contract.
-/
namespace Go.Proofs.YtpledghphljfkaaGreatDoor
set_option linter.unusedVariables false
set_option linter.unusedSimpArgs false
open Go.RowKit

theorem fd_none (o : Option Ar) : fdK o none = (none, 1) := by cases o <;> rfl
theorem fd_no {o : Option Ar} {r : Ar} (h : vcE o ≠ 0) : fdK o (some r) = (none, vcE o) := by
  cases o with
  | none => rfl
  | some v =>
    unfold vcE at h ⊢
    unfold fdK
    dsimp only at h ⊢
    by_cases hl : v.1.length ≠ 1
    · rw [if_pos hl, if_pos hl]
    · rw [if_neg hl] at h; exact absurd rfl h
theorem fd_yes {q r : Ar} (hl : q.1.length = 1) : fdK (some q) (some r) = (some (r.1, r.2.map fun x => (fpS q.2 x : Int)), 0) := by
  unfold fdK
  dsimp only
  rw [if_neg (fun e => e hl)]
theorem run_elems (a b : Option Addr) (n c m d : Nat) : ∀ w : World, (Instr.field 25 (.agg #[.slice a n c, .slice b m d]) 1).run Tryz.prog w = .ok (.slice b m d) w := fun _ => by kernel_rfl
theorem fpL_take {L M : List Int} {i f : Nat} (hi : i < M.length) (hf : f = fpS L (M.getD i 0)) : valsI ((M.take (i + 1)).map fun x => (fpS L x : Int)) = valsI ((M.take i).map fun x => (fpS L x : Int)) ++ valsI [(f : Int)] := by
  rw [takeI_snoc hi, List.map_append, hf]
  simp [valsI]
theorem fpL_I64 {L M : List Int} (h : L.length ≤ 100000) {j : Nat} : I64 ((M.map fun x => (fpS L x : Int)).getD j 0) := by
  rcases Nat.lt_or_ge j (M.map fun x => (fpS L x : Int)).length with hj | hj
  · rw [List.getD_eq_getElem?_getD, List.getElem?_eq_getElem hj, Option.getD_some, List.getElem_map]
    have := fp_le L (M[j]'(by simpa using hj))
    unfold I64; omega
  · rw [List.getD_eq_getElem?_getD, List.getElem?_eq_none hj]
    show I64 0
    unfold I64; omega
set_option maxRecDepth 100000 in
set_option maxHeartbeats 3200000 in
theorem rfd_none {a1 b1 a2 b2 : Option Addr} {n1 c1 m1 d1 n2 c2 m2 d2 : Nat} {l m : List Int} {es fs : List ByteArray} {W : World} (h2 : Av W a2 n2 c2 b2 m2 d2 m fs none) :
    Calls Tryz.prog 17 #[.agg #[.slice a1 n1 c1, .slice b1 m1 d1], .agg #[.slice a2 n2 c2, .slice b2 m2 d2]] W (MEnd (none, 1) W) := by
  have KU := Lib.hid (fun w (hb : Below W.heap.size W w) => rMay_av (h2.below hb))
  clear h2
  have h := live2 W a1 n1 c1 b1 m1 d1 a2 n2 c2 b2 m2 d2
  go_enter Tryz.func17, Tryz.ntmps17
  have x2 := h.out.2.1.c0
  have y2 := h.out.2.1.c1
  go_wp2_with fail
  with_reducible refine (live h (KU.out _ h.out.2.2.2)).mono ?_
  clear h x2 y2
  rintro e w ⟨rfl, h⟩
  have y0 := h.out.1.c0
  have y3 := h.out.1.c1
  have f0 := h.out.1.f 0
  have f1 := h.out.1.f 1
  go_wp2_with fail
  have hR := h.out.1.set none 0 0 none 0 0
  have r0 := hR.c0
  have r1 := hR.c1
  exact bodyPost_ret (v := .tuple #[.agg #[.slice none 0 0, .slice none 0 0], .int .i64 1]) (by simp [results, Tryz.results17, go_sem, r0, r1]) rfl (mend_no h.out.1 h.out.2.2.2 (by omega))
set_option maxRecDepth 100000 in
set_option maxHeartbeats 3200000 in
theorem rfd_no {a1 b1 a2 b2 : Option Addr} {n1 c1 m1 d1 n2 c2 m2 d2 : Nat} {l m : List Int} {es fs : List ByteArray} {W : World} {o : Option Ar} {r : Ar} (h1 : Av W a1 n1 c1 b1 m1 d1 l es o) (h2 : Av W a2 n2 c2 b2 m2 d2 m fs (some r)) (hv : vcE o ≠ 0) :
    Calls Tryz.prog 17 #[.agg #[.slice a1 n1 c1, .slice b1 m1 d1], .agg #[.slice a2 n2 c2, .slice b2 m2 d2]] W (MEnd (none, vcE o) W) := by
  have KU := Lib.hid (fun w (hb : Below W.heap.size W w) => rMay_av (h2.below hb))
  have KC := Lib.hid (fun w (hb : Below W.heap.size W w) => rvec_is (h1.below hb))
  generalize vcE o = k at *
  have hk : (k != 0) = true := by simpa using hv
  clear h1 h2 hv
  have h := live2 W a1 n1 c1 b1 m1 d1 a2 n2 c2 b2 m2 d2
  go_enter Tryz.func17, Tryz.ntmps17
  have x2 := h.out.2.1.c0
  have y2 := h.out.2.1.c1
  go_wp2_with fail
  with_reducible refine (live h (KU.out _ h.out.2.2.2)).mono ?_
  clear h x2 y2
  rintro e w ⟨rfl, h⟩
  have x1 := h.out.2.2.1.c0
  have y1 := h.out.2.2.1.c1
  go_wp2_with fail
  with_reducible refine (live h (KC.out _ h.out.2.2.2)).mono ?_
  clear h x1 y1
  rintro e w ⟨rfl, h⟩
  have y0 := h.out.1.c0
  have y3 := h.out.1.c1
  have f0 := h.out.1.f 0
  have f1 := h.out.1.f 1
  go_wp2_with fail
  have hR := h.out.1.set none 0 0 none 0 0
  have r0 := hR.c0
  have r1 := hR.c1
  exact bodyPost_ret (v := .tuple #[.agg #[.slice none 0 0, .slice none 0 0], .int .i64 k]) (by simp [results, Tryz.results17, go_sem, r0, r1]) rfl (mend_no h.out.1 h.out.2.2.2 (by omega))
set_option maxRecDepth 100000 in
set_option maxHeartbeats 3200000 in
theorem rfd_yes {a1 b1 a2 b2 : Option Addr} {n1 c1 m1 d1 n2 c2 m2 d2 : Nat} {l m : List Int} {es fs : List ByteArray} {W : World} {q r : Ar} (h1 : Av W a1 n1 c1 b1 m1 d1 l es (some q)) (h2 : Av W a2 n2 c2 b2 m2 d2 m fs (some r)) (hv : vcE (some q) = 0) (hlq : q.1.length = 1) :
    Calls Tryz.prog 17 #[.agg #[.slice a1 n1 c1, .slice b1 m1 d1], .agg #[.slice a2 n2 c2, .slice b2 m2 d2]] W (MEnd (some (r.1, r.2.map fun x => (fpS q.2 x : Int)), 0) W) := by
  have KU := Lib.hid (fun w (hb : Below W.heap.size W w) => rMay_av (h2.below hb))
  have KC := Lib.hid (fun w (hb : Below W.heap.size W w) => rvec_is (h1.below hb))
  rw [hv] at KC
  have hm4 := h1.mlen.2.2
  have hm5 := h2.mlen.2.2
  have hml := h1.mlen.1
  have hmm := h2.mlen.1
  have HR := Lib.hid (fd_rok (q := q) h2.i.rok (by rw [← hml]; exact hm4))
  have HS := Lib.hid (show St W b1 m1 (q.2.map S) from by have := h1.v.t; rwa [h1.i.2.1] at this)
  have HT := Lib.hid (show St W b2 m2 (r.2.map S) from by have := h2.v.t; rwa [h2.i.2.1] at this)
  have HU := Lib.hid (And.intro h2.v.s (And.intro h2.c.1 (And.intro h2.c.2 (And.intro h2.fst h2.v.mm))))
  obtain ⟨L, hL⟩ : ∃ L, L = q.2 := ⟨_, rfl⟩
  obtain ⟨M, hM⟩ : ∃ M, M = r.2 := ⟨_, rfl⟩
  rw [← hL, ← hM] at HR
  rw [← hL] at HS hml
  rw [← hM] at HT hmm
  rw [← hL, ← hM]
  have KF := Lib.hid (fun i w (hb : Below W.heap.size W w) => rfirst_is b1 m1 d1 (L.map S) (S (M.getD i 0)) w (HS.out.below hb) (by omega))
  have KI := Lib.hid (fun w a c (hs : Sl w a m2 (M.map fun x => (fpS L x : Int))) => rints_is a m2 c (M.map fun x => (fpS L x : Int)) w hs (fun j _ => fpL_I64 (by omega)) (by omega))
  have HL := Lib.hid hml.symm
  have HM := Lib.hid hmm.symm
  have HB := Lib.hid (fun i => (show fpS L (M.getD i 0) ≤ 4096 from by have := fp_le L (M.getD i 0); omega))
  clear h1 h2 hv hlq hml hmm hL hM
  have h := live2 W a1 n1 c1 b1 m1 d1 a2 n2 c2 b2 m2 d2
  go_enter Tryz.func17, Tryz.ntmps17
  have x2 := h.out.2.1.c0
  have y2 := h.out.2.1.c1
  go_wp2_with fail
  with_reducible refine (live h (KU.out _ h.out.2.2.2)).mono ?_
  clear h x2 y2
  rintro e w ⟨rfl, h⟩
  have x1 := h.out.2.2.1.c0
  have y1 := h.out.2.2.1.c1
  go_wp2_with fail
  with_reducible refine (live h (KC.out _ h.out.2.2.2)).mono ?_
  clear h x1 y1
  rintro e w ⟨rfl, h⟩
  have HLV := Lib.hid h
  obtain ⟨B, hB⟩ : ∃ B, B = w.heap.size := ⟨_, rfl⟩
  go_wp2_with fail
  go_loopw [7, 8] (fun ov iv wr => ∃ (i : Nat) (av : Option Addr) (cv : Nat), ov = .slice av i cv ∧ iv = .int .i64 (i : Int) ∧ i ≤ m2 ∧ wr.ownsRow B 3 1 (.slice av i cv) i (valsI ((M.take i).map fun x => (fpS L x : Int))) ∧ Below B w wr) (fun _ iv _ => m2 - (intOf iv).toNat)
  case atStart => exact ⟨0, none, 0, rfl, rfl, Nat.zero_le _, World.ownsRow_nil _ _ _ _, by rw [hB]; exact Below.refl _ _⟩
  case round =>
    obtain ⟨i, av, cv, rfl, rfl, hi, ho, hb⟩ := hrel
    clear h
    have h := live_belS HLV.out hb (by rw [hB]; exact Nat.le_refl _)
    have hBW : W.heap.size ≤ B := by rw [hB]; exact HLV.out.out.2.2.2.size
    have hsz := hb.size
    by_cases hil : i < m2
    · have e3 : (i : Int) < (m2 : Int) := by omega
      obtain ⟨bb, off, rfl, hc⟩ := HT.out.2 (by omega)
      have hck := (h.out.2.2.2.cell (p := ⟨bb, off + i, none⟩) (World.block_lt_of_cell? W _ (hc i hil))).trans (hc i hil)
      rw [getD_S (by rw [HM.out]; exact hil)] at hck
      have hf4 := HB.out i
      obtain ⟨f, hf⟩ : ∃ f, f = fpS L (M.getD i 0) := ⟨_, rfl⟩
      have HSN := Lib.hid (fpL_take (L := L) (M := M) (i := i) (f := f) (by rw [HM.out]; exact hil) hf)
      obtain ⟨tx, htx⟩ : ∃ tx, tx = S (M.getD i 0) := ⟨_, rfl⟩
      rw [← htx] at hck
      rw [← hf] at hf4
      have y1 := h.out.2.2.1.c1
      have y2 := h.out.2.1.c1
      have l1 := h.out.2.2.1.lt
      have l2 := h.out.2.1.lt
      have HQ : Hid (∀ z, Below wr.heap.size wr z → Calls Tryz.prog 33 #[.slice b1 m1 d1, .string tx] z fun e w' => e = .returned (.int .i64 (f : Int)) ∧ Below wr.heap.size wr w') := Lib.hid fun z hz => by
        have k5 := KF.out i z (h.out.2.2.2.trans (hz.mono h.out.2.2.2.size))
        rw [fp_S, ← htx, ← hf] at k5
        exact k5.mono fun e w' k => ⟨k.1, by rw [← k.2]; exact hz⟩
      have HO := Lib.hid ho
      have HBB := Lib.hid hb
      clear hc htx hf ho hb h
      have hq : Below wr.heap.size wr wr := Below.refl _ _
      have hqz := hq.size
      go_wp2_with fail
      go_region_law (first | (go_simp; go_at_call 33; refine (HQ.out _ (by repeat' (first | exact hq | refine Below.drew ?_ | refine below_drewN ?_ _ | refine Below.alloc ?_ ?_ _ | exact hqz | exact Nat.le_refl _ | omega | (simp; done) | (simp; omega)))).mono ?_; rintro e wq ⟨rfl, hq⟩; have hqz := hq.size) | (refine stepI wq B (.tmp 26) (.tmp 35) av i cv _ (f : Int) rfl rfl rfl rfl rfl rfl rfl rfl (own_below HO.out (hq.mono (by omega))) (by omega) (by omega) ?_; intro av' cv' w9 hown9 hg9 _))
      all_goals
        have hb9 : Below B wq w9 := own_grown (own_below HO.out (hq.mono (by omega))) hg9 (by omega)
        have hb10 := (HBB.out.trans (hq.mono (by omega))).trans hb9
        rw [show [(.int .i64 (f : Int) : Value)] = valsI [(f : Int)] from rfl, ← HSN.out] at hown9
        clear hq hg9 hb9 HO HBB hck y1 y2
        go_wp2_with fail
        go_roundw
        case rel => exact ⟨i + 1, av', cv', rfl, by go_num, by omega, hown9, hb10⟩
        case measure => simp [intOf]; omega
    · have e3 : ¬ (i : Int) < (m2 : Int) := by omega
      obtain rfl : i = m2 := by omega
      have e5 : M.take i = M := List.take_of_length_le (by rw [HM.out]; exact Nat.le_refl _)
      rw [e5] at ho
      have hsl := Lib.hid (own_sl ho)
      clear ho hb
      have x2 := h.out.2.1.c0
      have y2 := h.out.2.1.c1
      have l2 := h.out.2.1.lt
      have HQ : Hid (∀ z, Below wr.heap.size wr z → Calls Tryz.prog 30 #[.slice av i cv] z fun e w' => ∃ a n c b m d, e = .returned (.agg #[.slice a n c, .slice b m d]) ∧ Vl w' a n b m [(i : Int)] ((M.map fun x => (fpS L x : Int)).map S) ∧ Cp n c m d ∧ Below wr.heap.size wr w') := Lib.hid fun z hz => (KI.out z av cv (hsl.out.below hz)).mono fun e w' k => by
        obtain ⟨a, n, c, b, m, d, k1, k2, k3, k4⟩ := k
        exact ⟨a, n, c, b, m, d, k1, k2, k3, hz.trans (k4.mono hz.size)⟩
      have HH := Lib.hid h
      clear KI h
      have hq : Below wr.heap.size wr wr := Below.refl _ _
      have hqz := hq.size
      go_wp2_with fail
      go_region_law (go_simp; go_at_call 30; refine (HQ.out _ (by repeat' (first | exact hq | refine Below.drew ?_ | refine below_drewN ?_ _ | refine Below.alloc ?_ ?_ _ | exact hqz | exact Nat.le_refl _ | omega | (simp; done) | (simp; omega)))).mono ?_; rintro e wa ⟨ar, nr, cr, br, mr, dr, rfl, hv, hcp, hq⟩; have hfd := run_elems ar br nr cr mr dr; have hqz := hq.size; have x5 := (hq.cell (p := ⟨W.heap.size + 1, 0, none⟩) l2).trans x2; have hh := live_belS HH.out hq (Nat.le_refl _); have y0 := hh.out.1.c0; have y3 := hh.out.1.c1; have f0 := hh.out.1.f 0; have f1 := hh.out.1.f 1)
      all_goals
        have h := live_belS HH.out hq (Nat.le_refl _)
        have hmr : mr = i := by have := hv.t.1; rw [List.length_map, List.length_map, HM.out] at this; exact this.symm
        have hV : Vl wa a2 n2 br mr (TS (some (r.1, M.map fun x => (fpS L x : Int)))).1 (TS (some (r.1, M.map fun x => (fpS L x : Int)))).2 := ⟨by rw [show (TS (some (r.1, M.map fun x => (fpS L x : Int)))).1 = m from HU.out.2.2.2.1]; exact HU.out.1.below h.out.2.2.2, hv.t, by omega⟩
        go_wp2_with fail
        have hR := h.out.1.set a2 n2 c2 br mr dr
        have r0 := hR.c0
        have r1 := hR.c1
        exact bodyPost_ret (v := .tuple #[.agg #[.slice a2 n2 c2, .slice br mr dr], .int .i64 0]) (by simp [results, Tryz.results17, go_sem, r0, r1]) rfl (mend_box (r := (some (r.1, M.map fun x => (fpS L x : Int)), 0)) h.out.1 h.out.2.2.2 (by omega) hV ⟨HU.out.2.1, HU.out.2.2.1, hcp.3, hcp.4⟩ HR.out)
theorem rFind_is {a1 b1 a2 b2 : Option Addr} {n1 c1 m1 d1 n2 c2 m2 d2 : Nat} {l m : List Int} {es fs : List ByteArray} {W : World} {o p : Option Ar} (h1 : Av W a1 n1 c1 b1 m1 d1 l es o) (h2 : Av W a2 n2 c2 b2 m2 d2 m fs p) : Calls Tryz.prog 17 #[.agg #[.slice a1 n1 c1, .slice b1 m1 d1], .agg #[.slice a2 n2 c2, .slice b2 m2 d2]] W (MEnd (fdK o p) W) := by
  cases p with
  | none => rw [fd_none]; exact rfd_none (l := l) (es := es) h2
  | some r =>
    by_cases hv : vcE o = 0
    · obtain ⟨q, rfl, hl⟩ := vc_yes hv
      rw [fd_yes hl]; exact rfd_yes h1 h2 hv hl
    · rw [fd_no hv]; exact rfd_no h1 h2 hv
end Go.Proofs.YtpledghphljfkaaGreatDoor
/-
  The reference's places, by its contract.
-/
namespace Go.Proofs.YtpledghphljfkaaGreatDoor
set_option linter.unusedVariables false
set_option linter.unusedSimpArgs false
open Go.RowKit

def PlO (q : Ar) (many : Int) (W : World) (e : Ending) (W' : World) : Prop :=
  ∃ a n c, e = .returned (.tuple #[.slice a n c, .int .i64 (plE q many)]) ∧ (plE q many = 0 → n = q.2.length ∧ Sl W' a n q.2 ∧ n ≤ c ∧ c ≤ maxLen) ∧ Below W.heap.size W W'
theorem pl_far {q : Ar} {many : Int} (h : q.2.all nearM = false) : plE q many = 5 := by
  unfold plE; rw [if_pos h]
theorem pl_bad {q : Ar} {many : Int} (h : q.2.all nearM = true) {j : Nat} (hj : j < q.2.length) (h2 : q.2.getD j 0 < 0 ∨ many ≤ q.2.getD j 0) : plE q many = 6 := by
  unfold plE
  rw [h, if_neg (by simp), if_pos]
  refine ⟨q.2[j], List.getElem_mem hj, ?_⟩
  rw [List.getD_eq_getElem?_getD, List.getElem?_eq_getElem hj, Option.getD_some] at h2
  exact h2
theorem pl_all {q : Ar} {many : Int} (h : q.2.all nearM = true) (h2 : ∀ j, j < q.2.length → ¬ (q.2.getD j 0 < 0 ∨ many ≤ q.2.getD j 0)) : plE q many = 0 := by
  unfold plE
  rw [h, if_neg (by simp), if_neg]
  rintro ⟨x, hx, hc⟩
  obtain ⟨j, hj, rfl⟩ := List.getElem_of_mem hx
  have := h2 j hj
  rw [List.getD_eq_getElem?_getD, List.getElem?_eq_getElem hj, Option.getD_some] at this
  exact this hc
set_option maxRecDepth 100000 in
set_option maxHeartbeats 3200000 in
theorem rpl_far {a1 b1 : Option Addr} {n1 c1 m1 d1 : Nat} {l : List Int} {es : List ByteArray} {W : World} {q : Ar} {many : Int} (h1 : Av W a1 n1 c1 b1 m1 d1 l es (some q)) (hal : q.2.all nearM = false) :
    Calls Tryz.prog 43 #[.agg #[.slice a1 n1 c1, .slice b1 m1 d1], .int .i64 many] W (PlO q many W) := by
  have KA := Lib.hid (fun w (hb : Below W.heap.size W w) => rAll_av (c := c1) (d := d1) (s := l) w (by have := h1.v; rw [h1.i.2.1] at this; exact this.below hb) h1.i.2.2.2 (by have := h1.mlen.2.2; omega))
  have HE := Lib.hid (pl_far (many := many) hal)
  have hal2 := Lib.hid hal
  clear h1 hal
  have h := live10 W a1 n1 c1 b1 m1 d1
  go_enter Tryz.func43, Tryz.ntmps43
  have x1 := h.out.1.c0
  have y1 := h.out.1.c1
  go_wp2_with fail
  refine (live_al h (KA.out _ h.out.2)).mono ?_
  clear h x1 y1
  rintro e w ⟨aa, na, ca, z, rfl, hz, h⟩
  have hz5 : z = 5 := by
    rcases hz with ⟨g, _⟩ | ⟨_, g⟩
    · rw [hal2.out] at g; cases g
    · exact g
  subst hz5
  clear hz
  go_wp2_with fail
  go_ret2
  exact ⟨none, 0, 0, by rw [HE.out]; rfl, (fun h => by rw [HE.out] at h; cases h), h.out.2⟩
set_option maxRecDepth 100000 in
set_option maxHeartbeats 3200000 in
theorem rpl_yes {a1 b1 : Option Addr} {n1 c1 m1 d1 : Nat} {l : List Int} {es : List ByteArray} {W : World} {q : Ar} {many : Int} (h1 : Av W a1 n1 c1 b1 m1 d1 l es (some q)) (hal : q.2.all nearM = true) :
    Calls Tryz.prog 43 #[.agg #[.slice a1 n1 c1, .slice b1 m1 d1], .int .i64 many] W (PlO q many W) := by
  have KA := Lib.hid (fun w (hb : Below W.heap.size W w) => rAll_av (c := c1) (d := d1) (s := l) w (by have := h1.v; rw [h1.i.2.1] at this; exact this.below hb) h1.i.2.2.2 (by have := h1.mlen.2.2; omega))
  have HL := Lib.hid h1.mlen.1.symm
  have hm4 := h1.mlen.2.2
  have hal2 := Lib.hid hal
  clear h1 hal
  have h := live10 W a1 n1 c1 b1 m1 d1
  go_enter Tryz.func43, Tryz.ntmps43
  have x1 := h.out.1.c0
  have y1 := h.out.1.c1
  go_wp2_with fail
  refine (live_al h (KA.out _ h.out.2)).mono ?_
  clear h x1 y1
  rintro e w ⟨aa, na, ca, z, rfl, hz, h⟩
  obtain ⟨rfl, hna, hS⟩ : z = 0 ∧ na = m1 ∧ Sl w aa na q.2 ∧ na ≤ ca ∧ ca ≤ maxLen := by
    rcases hz with ⟨_, g1, g2, g3, g4, g5⟩ | ⟨g, _⟩
    · exact ⟨g1, g2.trans HL.out, g3, g4, g5⟩
    · rw [hal2.out] at g; cases g
  subst hna
  have HS := Lib.hid hS
  clear hz hS KA
  go_wp2_with fail
  go_loop [8] (fun iv => ∃ k : Nat, iv = .int .i64 (k : Int) ∧ k ≤ na ∧ Hid (∀ j, j < k → ¬ (q.2.getD j 0 < 0 ∨ many ≤ q.2.getD j 0))) (fun iv => na - (intOf iv).toNat)
  case atStart => exact ⟨0, rfl, Nat.zero_le _, Lib.hid fun j hj => by omega⟩
  case round =>
    obtain ⟨k, rfl, hk, HN⟩ := hrel
    by_cases hlt : k < na
    · have e2 : (k : Int) < (na : Int) := by omega
      obtain ⟨bb, off, rfl, hc⟩ := HS.out.1.2 (by omega)
      have hck := hc k hlt
      have hg := fun h2 => pl_bad (many := many) hal2.out (j := k) (by rw [HL.out]; exact hlt) h2
      obtain ⟨x, hx⟩ : ∃ x, x = q.2.getD k 0 := ⟨_, rfl⟩
      rw [← hx] at hck hg
      have HXX := Lib.hid hx
      clear hc hx
      by_cases h0 : x < 0
      · have HE := Lib.hid (hg (.inl h0))
        clear hg
        go_wp2_with fail
        go_ret2
        exact ⟨none, 0, 0, by rw [HE.out]; rfl, (fun h => by rw [HE.out] at h; cases h), h.out.2⟩
      · by_cases h2 : many ≤ x
        · have HE := Lib.hid (hg (.inr h2))
          clear hg
          go_wp2_with fail
          go_ret2
          exact ⟨none, 0, 0, by rw [HE.out]; rfl, (fun h => by rw [HE.out] at h; cases h), h.out.2⟩
        · clear hg
          go_wp2_with fail
          go_round
          case rel => exact ⟨k + 1, by go_num, by omega, Lib.hid fun j hj => by
            by_cases e : j = k
            · rw [e, ← HXX.out]; exact fun h => h.elim h0 h2
            · exact HN.out j (by omega)⟩
          case measure => simp [intOf]; omega
    · have e2 : ¬ (k : Int) < (na : Int) := by omega
      obtain rfl : k = na := by omega
      have HE := Lib.hid (pl_all (many := many) hal2.out fun j hj => HN.out j (by rw [HL.out] at hj; exact hj))
      go_wp2_with fail
      go_ret2
      exact ⟨aa, k, ca, by rw [HE.out]; rfl, (fun _ => ⟨HL.out.symm, HS.out⟩), h.out.2⟩
theorem rplaces_is {a1 b1 : Option Addr} {n1 c1 m1 d1 : Nat} {l : List Int} {es : List ByteArray} {W : World} {q : Ar} (many : Int) (h1 : Av W a1 n1 c1 b1 m1 d1 l es (some q)) : Calls Tryz.prog 43 #[.agg #[.slice a1 n1 c1, .slice b1 m1 d1], .int .i64 many] W (PlO q many W) := by
  rcases Bool.eq_false_or_eq_true (q.2.all nearM) with ha | ha
  · exact rpl_yes h1 ha
  · exact rpl_far h1 ha
theorem live_pl {P : World → Prop} {w : World} {f : FuncId} {args : Array Value} {q : Ar} {many : Int} (h : Lv P w) (hc : Calls Tryz.prog f args w (PlO q many w))
    (hs : Stb P := by repeat' (first | exact Stb.bel _ | exact Stb.bx | exact Stb.vl | exact Stb.sl | exact Stb.st | refine Stb.and ?_ ?_ | exact Stb.triv)) :
    Calls Tryz.prog f args w fun e w' => ∃ a n c, e = .returned (.tuple #[.slice a n c, .int .i64 (plE q many)]) ∧ (plE q many = 0 → n = q.2.length ∧ Sl w' a n q.2 ∧ n ≤ c ∧ c ≤ maxLen) ∧ Lv P w' :=
  hc.mono fun _ _ ⟨a, n, c, h1, h2, h3⟩ => ⟨a, n, c, h1, h2, ⟨hs _ _ h.out h3⟩⟩
end Go.Proofs.YtpledghphljfkaaGreatDoor

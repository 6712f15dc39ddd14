import Derived.Test.YtpledghphljfkaaGreatDoorMaw
/-
  The reference's Where, by its contract.
-/
namespace Go.Proofs.YtpledghphljfkaaGreatDoor
set_option linter.unusedVariables false
set_option linter.unusedSimpArgs false
open Go.RowKit

theorem natL_take (l : List Int) (k : Nat) : (natL (l.take k)).sum ≤ (natL l).sum := by
  have e : natL l = natL (l.take k) ++ natL (l.drop k) := by unfold natL; rw [← List.map_append, List.take_append_drop]
  rw [e, List.sum_append]; omega
theorem natL_snoc {l : List Int} {k x : Nat} (hk : k < l.length) (hx : l.getD k 0 = (x : Int)) : natL (l.take (k + 1)) = natL (l.take k) ++ [x] := by
  rw [takeI_snoc hk, hx]
  simp [natL]
theorem natL_len (l : List Int) : (natL l).length = l.length := by simp [natL]
theorem rep_succ (L : List Nat) (p k : Nat) : valsI (intL (L ++ List.replicate (p + 1) k)) = valsI (intL (L ++ List.replicate p k)) ++ valsI [(k : Int)] := by
  rw [List.replicate_succ', ← List.append_assoc, int_snoc]
theorem wh_yes {q : Ar} (hl : q.1.length = 1) (ha : q.2.all nearM = true) : whK (some q) = if ∃ x ∈ q.2, x < 0 then (none, 5) else if 4096 < (natL q.2).sum then (none, 8) else (some ([((natL q.2).sum : Int)], intL (whS 0 (natL q.2))), 0) := by
  unfold whK
  dsimp only
  rw [if_neg (fun e => e hl), ha, if_neg (by simp)]
theorem wh_far {q : Ar} (hl : q.1.length = 1) (ha : q.2.all nearM = false) : whK (some q) = (none, 5) := by
  unfold whK
  dsimp only
  rw [if_neg (fun e => e hl), if_pos ha]
theorem whS_I64 {l : List Nat} (h : l.length ≤ 100000) {j : Nat} : I64 ((intL (whS 0 l)).getD j 0) := by
  rcases Nat.lt_or_ge j (intL (whS 0 l)).length with hj | hj
  · rw [List.getD_eq_getElem?_getD, List.getElem?_eq_getElem hj]
    obtain ⟨i, hi, e⟩ := List.mem_map.1 (List.getElem_mem hj)
    have := (wh_mem hi).2
    show I64 (intL (whS 0 l))[j]
    rw [← e]
    unfold I64; omega
  · rw [List.getD_eq_getElem?_getD, List.getElem?_eq_none hj]
    show I64 0
    unfold I64; omega
set_option maxRecDepth 100000 in
set_option maxHeartbeats 3200000 in
theorem rwh_no {a1 b1 : Option Addr} {n1 c1 m1 d1 : Nat} {l : List Int} {es : List ByteArray} {W : World} {o : Option Ar} (h1 : Av W a1 n1 c1 b1 m1 d1 l es o) (hv : vcE o ≠ 0) :
    Calls Tryz.prog 12 #[.agg #[.slice a1 n1 c1, .slice b1 m1 d1]] W (MEnd (none, vcE o) W) := by
  have KC := Lib.hid (fun w (hb : Below W.heap.size W w) => rvec_is (h1.below hb))
  generalize vcE o = k at *
  have hk : (k != 0) = true := by simpa using hv
  clear h1 hv
  have h := live1 W a1 n1 c1 b1 m1 d1
  go_enter Tryz.func12, Tryz.ntmps12
  have x1 := h.out.2.1.c0
  have y1 := h.out.2.1.c1
  go_wp2_with fail
  with_reducible refine (live h (KC.out _ h.out.2.2)).mono ?_
  clear h x1 y1
  rintro e w ⟨rfl, h⟩
  have y0 := h.out.1.c0
  have y3 := h.out.1.c1
  have f0 := h.out.1.f 0
  have f1 := h.out.1.f 1
  go_wp2_with fail
  have hR := h.out.1.set none 0 0 none 0 0
  have r0 := hR.c0
  have r1 := hR.c1
  exact bodyPost_ret (v := .tuple #[.agg #[.slice none 0 0, .slice none 0 0], .int .i64 k]) (by simp [results, Tryz.results12, go_sem, r0, r1]) rfl (mend_no h.out.1 h.out.2.2 (by omega))
set_option maxRecDepth 100000 in
set_option maxHeartbeats 3200000 in
theorem rwh_far {a1 b1 : Option Addr} {n1 c1 m1 d1 : Nat} {l : List Int} {es : List ByteArray} {W : World} {q : Ar} (h1 : Av W a1 n1 c1 b1 m1 d1 l es (some q)) (hv : vcE (some q) = 0) (hal : q.2.all nearM = false) :
    Calls Tryz.prog 12 #[.agg #[.slice a1 n1 c1, .slice b1 m1 d1]] W (MEnd (none, 5) W) := by
  have KC := Lib.hid (fun w (hb : Below W.heap.size W w) => rvec_is (h1.below hb))
  have KA := Lib.hid (fun w (hb : Below W.heap.size W w) => rAll_av (c := c1) (d := d1) (s := l) w (by have := h1.v; rw [h1.i.2.1] at this; exact this.below hb) h1.i.2.2.2 (by have := h1.mlen.2.2; omega))
  rw [hv] at KC
  have hal2 := Lib.hid hal
  clear h1 hv hal
  have h := live1 W a1 n1 c1 b1 m1 d1
  go_enter Tryz.func12, Tryz.ntmps12
  have x1 := h.out.2.1.c0
  have y1 := h.out.2.1.c1
  go_wp2_with fail
  with_reducible refine (live h (KC.out _ h.out.2.2)).mono ?_
  clear h x1 y1
  rintro e w ⟨rfl, h⟩
  have x1 := h.out.2.1.c0
  have y1 := h.out.2.1.c1
  go_wp2_with fail
  refine (live_al h (KA.out _ h.out.2.2)).mono ?_
  clear h x1 y1
  rintro e w ⟨aa, na, ca, z, rfl, hz, h⟩
  have hz5 : z = 5 := by
    rcases hz with ⟨g, _⟩ | ⟨_, g⟩
    · rw [hal2.out] at g; cases g
    · exact g
  subst hz5
  clear hz
  have y0 := h.out.1.c0
  have y3 := h.out.1.c1
  have f0 := h.out.1.f 0
  have f1 := h.out.1.f 1
  go_wp2_with fail
  have hR := h.out.1.set none 0 0 none 0 0
  have r0 := hR.c0
  have r1 := hR.c1
  exact bodyPost_ret (v := .tuple #[.agg #[.slice none 0 0, .slice none 0 0], .int .i64 5]) (by simp [results, Tryz.results12, go_sem, r0, r1]) rfl (mend_no h.out.1 h.out.2.2 (by omega))
set_option maxRecDepth 100000 in
set_option maxHeartbeats 3200000 in
theorem rwh_yes {a1 b1 : Option Addr} {n1 c1 m1 d1 : Nat} {l : List Int} {es : List ByteArray} {W : World} {q : Ar} (h1 : Av W a1 n1 c1 b1 m1 d1 l es (some q)) (hv : vcE (some q) = 0) (hlq : q.1.length = 1) (hal : q.2.all nearM = true) :
    Calls Tryz.prog 12 #[.agg #[.slice a1 n1 c1, .slice b1 m1 d1]] W (MEnd (whK (some q)) W) := by
  have KC := Lib.hid (fun w (hb : Below W.heap.size W w) => rvec_is (h1.below hb))
  have KA := Lib.hid (fun w (hb : Below W.heap.size W w) => rAll_av (c := c1) (d := d1) (s := l) w (by have := h1.v; rw [h1.i.2.1] at this; exact this.below hb) h1.i.2.2.2 (by have := h1.mlen.2.2; omega))
  rw [hv] at KC
  have hm4 := h1.mlen.2.2
  have hml := h1.mlen.1
  obtain ⟨L, hL⟩ : ∃ L, L = q.2 := ⟨_, rfl⟩
  obtain ⟨R, hR⟩ : ∃ R, R = whK (some q) := ⟨_, rfl⟩
  rw [wh_yes hlq hal, ← hL] at hR
  rw [← hL] at KA hal hml
  rw [show whK (some q) = R by rw [hR, wh_yes hlq (by rw [← hL]; exact hal), ← hL]]
  have HX := Lib.hid (fun j (hj : j < m1) => nearM_yes.1 (near_all.1 hal j (by omega)))
  have hal2 := Lib.hid hal
  have HL := Lib.hid hml.symm
  have F5 := Lib.hid (fun j (hj : j < m1) (h0 : L.getD j 0 < 0) => (show R = (none, 5) from hR.trans (if_pos ⟨L.getD j 0, by rw [List.getD_eq_getElem?_getD, List.getElem?_eq_getElem (by omega)]; exact List.getElem_mem _, h0⟩)))
  have F0 := fun (h0 : ∀ j, j < m1 → 0 ≤ L.getD j 0) => (show ¬ ∃ x ∈ L, x < 0 from by
    rintro ⟨x, hx, h⟩
    obtain ⟨j, hj, rfl⟩ := List.getElem_of_mem hx
    have := h0 j (by omega)
    rw [List.getD_eq_getElem?_getD, List.getElem?_eq_getElem hj, Option.getD_some] at this
    omega)
  have F8 := Lib.hid (fun h0 (hs : 4096 < (natL L).sum) => (show R = (none, 8) from hR.trans (by rw [if_neg (F0 h0), if_pos hs])))
  have FY := Lib.hid (fun h0 (hs : (natL L).sum ≤ 4096) => (show R = (some ([((natL L).sum : Int)], intL (whS 0 (natL L))), 0) from hR.trans (by rw [if_neg (F0 h0), if_neg (by omega)])))
  have KI := Lib.hid (fun w a c (hs : Sl w a (natL L).sum (intL (whS 0 (natL L)))) (h4 : (natL L).sum ≤ 4096) => rints_is a (natL L).sum c (intL (whS 0 (natL L))) w hs (fun j _ => whS_I64 (by rw [natL_len]; omega)) (by omega))
  clear h1 hv hlq hal hml hR hL F0
  have h := live1 W a1 n1 c1 b1 m1 d1
  go_enter Tryz.func12, Tryz.ntmps12
  have x1 := h.out.2.1.c0
  have y1 := h.out.2.1.c1
  go_wp2_with fail
  with_reducible refine (live h (KC.out _ h.out.2.2)).mono ?_
  clear h x1 y1
  rintro e w ⟨rfl, h⟩
  have x1 := h.out.2.1.c0
  have y1 := h.out.2.1.c1
  go_wp2_with fail
  refine (live_al h (KA.out _ h.out.2.2)).mono ?_
  clear h x1 y1
  rintro e w ⟨aa, na, ca, z, rfl, hz, h⟩
  obtain ⟨rfl, hna, hS⟩ : z = 0 ∧ na = m1 ∧ Sl w aa na L := by
    rcases hz with ⟨_, g1, g2, g3, _⟩ | ⟨g, _⟩
    · exact ⟨g1, g2.trans HL.out, g3⟩
    · rw [hal2.out] at g; cases g
  subst hna
  have HS := Lib.hid hS
  clear hz hS KC KA
  go_wp2_with fail
  go_loop [7] (fun iv => ∃ k : Nat, iv = .int .i64 (k : Int) ∧ k ≤ na ∧ Hid (∀ j, j < k → 0 ≤ L.getD j 0)) (fun iv => na - (intOf iv).toNat)
  case atStart => exact ⟨0, rfl, Nat.zero_le _, Lib.hid fun j hj => by omega⟩
  case round =>
    obtain ⟨k, rfl, hk, HN⟩ := hrel
    by_cases hlt : k < na
    · have e2 : (k : Int) < (na : Int) := by omega
      obtain ⟨bb, off, rfl, hc⟩ := HS.out.2 (by omega)
      have hck := hc k hlt
      have hg := F5.out k hlt
      obtain ⟨x, hx⟩ : ∃ x, x = L.getD k 0 := ⟨_, rfl⟩
      rw [← hx] at hck hg
      have HXX := Lib.hid hx
      clear hc hx
      by_cases h0 : x < 0
      · have HG := Lib.hid (hg h0)
        clear hg
        have y0 := h.out.1.c0
        have y3 := h.out.1.c1
        have f0 := h.out.1.f 0
        have f1 := h.out.1.f 1
        go_wp2_with fail
        have hR := h.out.1.set none 0 0 none 0 0
        have r0 := hR.c0
        have r1 := hR.c1
        exact bodyPost_ret (v := .tuple #[.agg #[.slice none 0 0, .slice none 0 0], .int .i64 5]) (by simp [results, Tryz.results12, go_sem, r0, r1]) rfl (by rw [HG.out]; exact mend_no h.out.1 h.out.2.2 (by omega))
      · clear hg
        go_wp2_with fail
        go_round
        case rel => exact ⟨k + 1, by go_num, by omega, Lib.hid fun j hj => by
          by_cases e : j = k
          · rw [e, ← HXX.out]; omega
          · exact HN.out j (by omega)⟩
        case measure => simp [intOf]; omega
    · have e2 : ¬ (k : Int) < (na : Int) := by omega
      obtain rfl : k = na := by omega
      have F8' := Lib.hid (F8.out HN.out)
      have FY' := Lib.hid (FY.out HN.out)
      clear F5 F8 FY hlt hk
      obtain ⟨B, hB⟩ : ∃ B, B = w.heap.size := ⟨_, rfl⟩
      have HB := Lib.hid hB
      go_wp2_with fail
      go_loopw [8, 9] (fun ov iv wr => ∃ (i s : Nat) (av : Option Addr) (cv : Nat), ov = .slice av s cv ∧ iv = .int .i64 (i : Int) ∧ i ≤ k ∧ s ≤ 4096 ∧ Hid (s = (natL (L.take i)).sum) ∧ wr.ownsRow B 3 1 (.slice av s cv) s (valsI (intL (whS 0 (natL (L.take i))))) ∧ Below B w wr) (fun _ iv _ => k - (intOf iv).toNat)
      case atStart => exact ⟨0, 0, none, 0, rfl, rfl, Nat.zero_le _, Nat.zero_le _, Lib.hid rfl, World.ownsRow_nil _ _ _ _, by rw [hB]; exact Below.refl _ _⟩
      case round =>
        obtain ⟨i, s, av, cv, rfl, rfl, hi, hs4, HSS, ho, hb⟩ := hrel
        by_cases hil : i < k
        · have e3 : (i : Int) < (k : Int) := by omega
          obtain ⟨bb, off, rfl, hc⟩ := HS.out.2 (by omega)
          have hck := (hb.cell (p := ⟨bb, off + i, none⟩) (by rw [hB]; exact World.block_lt_of_cell? w _ (hc i hil))).trans (hc i hil)
          obtain ⟨x, hx⟩ : ∃ x : Nat, L.getD i 0 = (x : Int) := ⟨(L.getD i 0).toNat, by have := HN.out i hil; omega⟩
          have hx2 := (HX.out i hil).2
          have hsn := natL_snoc (l := L) (k := i) (by rw [HL.out]; exact hil) hx
          have hsum : (natL (L.take (i + 1))).sum = s + x := by rw [hsn, List.sum_append, HSS.out]; simp
          have hw0 := Lib.hid (show whS 0 (natL (L.take (i + 1))) = whS 0 (natL (L.take i)) ++ List.replicate x i from by rw [hsn, wh_snoc, natL_len, List.length_take, HL.out, show 0 + min i k = i by omega])
          have hle := natL_take L (i + 1)
          rw [hsum] at hle
          have HC0 := hc i hil
          rw [hx] at hck hx2 HC0
          replace HC0 := Lib.hid HC0
          have hw : IntKind.i64.wrap ((4096 : Int) - (s : Int)) = 4096 - (s : Int) := IntWalk.i64_in _ (by omega)
          have HSU := Lib.hid hsum
          clear hc hx hsn hsum
          generalize whS 0 (natL (L.take i)) = LI at *
          by_cases hbig : (4096 : Int) - (s : Int) < (x : Int)
          · have HG := Lib.hid (F8'.out (by omega))
            replace h := live_belS h hb (by rw [hB]; exact Nat.le_refl _)
            clear ho hb
            have y0 := h.out.1.c0
            have y3 := h.out.1.c1
            have f0 := h.out.1.f 0
            have f1 := h.out.1.f 1
            go_wp2_with fail
            have hR := h.out.1.set none 0 0 none 0 0
            have r0 := hR.c0
            have r1 := hR.c1
            exact bodyPost_ret (v := .tuple #[.agg #[.slice none 0 0, .slice none 0 0], .int .i64 8]) (by simp [results, Tryz.results12, go_sem, r0, r1]) rfl (by rw [HG.out]; exact mend_no h.out.1 h.out.2.2 (by omega))
          · have lck := World.block_lt_of_cell? wr _ hck
            have HH := Lib.hid h
            have HBB := Lib.hid hb
            clear h hb
            go_wp2_with fail
            go_loopw [8, 10] (fun ov kv wz => ∃ (p : Nat) (az : Option Addr) (cz : Nat), ov = .slice az (s + p) cz ∧ kv = .int .i64 (p : Int) ∧ p ≤ x ∧ wz.ownsRow B 3 1 (.slice az (s + p) cz) (s + p) (valsI (intL (LI ++ List.replicate p i))) ∧ Below B w wz) (fun _ kv _ => x - (intOf kv).toNat)
            case atStart => exact ⟨0, av, cv, rfl, rfl, Nat.zero_le _, by rw [List.replicate_zero, List.append_nil]; exact ho, HBB.out⟩
            case round =>
              obtain ⟨p, az, cz, rfl, rfl, hp, hoz, hbz⟩ := hrel
              clear ho HBB hck
              have hck := (hbz.cell (p := ⟨bb, off + i, none⟩) (by rw [hB]; exact World.block_lt_of_cell? w _ HC0.out)).trans HC0.out
              by_cases hpx : p < x
              · have e4 : (p : Int) < (x : Int) := by omega
                have ho2 := Lib.hid (hoz.alloc (.cells #[.int .i64 (i : Int)] 3))
                have hr5 := Lib.hid (own_rd (own_new1 wr (i : Int)))
                have hsz5 := hbz.size
                have HBZ := Lib.hid hbz
                clear hoz hbz
                go_upto_region 20 with (at_builtin; refine wpList_append_rd rfl (.tmp 61) (.tmp 63) 22 rfl B 3 (.int .i64 0) 8 Tryz.underlying22 infoInt1 rfl (by decide) _ (s + p) _ rfl ho2.out _ 1 1 (valsI [(i : Int)]) rfl hr5.out (valsI_one _) (by omega) (by simp; omega) ?_; intro av' cv' w3 hown3 hg3)
                have hb6 : Below B w w3 := (HBZ.out.alloc (by omega) _).trans (grown_below' hg3 (fun g' hg' => (ho2.out.lt g' hg').1) (by simp; omega))
                rw [← rep_succ] at hown3
                clear hg3 ho2 hr5
                go_wp2_with fail
                go_roundw
                case rel => exact ⟨p + 1, av', cv', rfl, by go_num, by omega, hown3, hb6⟩
                case measure => simp [intOf]; omega
              · have e4 : ¬ (p : Int) < (x : Int) := by omega
                obtain rfl : p = x := by omega
                rw [← hw0.out] at hoz
                go_wp2_with fail
                go_roundw
                case rel => exact ⟨i + 1, s + p, az, cz, rfl, by go_num, by omega, by omega, Lib.hid HSU.out.symm, hoz, hbz⟩
                case measure => simp [intOf]; omega
        · have e3 : ¬ (i : Int) < (k : Int) := by omega
          obtain rfl : i = k := by omega
          have e5 : L.take i = L := List.take_of_length_le (by rw [HL.out]; exact Nat.le_refl _)
          rw [e5] at HSS ho
          have hs := HSS.out
          subst hs
          have hsl := Lib.hid (own_sl ho)
          have HRR := Lib.hid (FY'.out hs4)
          have HRK := Lib.hid (wh_rok hs4 (by rw [natL_len, HL.out]; exact hm4))
          replace h := live_belS h hb (by rw [hB]; exact Nat.le_refl _)
          have KJ := Lib.hid (fun w a c hs => KI.out w a c hs hs4)
          clear ho hb KI
          generalize (natL L).sum = s at *
          generalize intL (whS 0 (natL L)) = LL at *
          have y0 := h.out.1.c0
          have y3 := h.out.1.c1
          have f0 := h.out.1.f 0
          have f1 := h.out.1.f 1
          go_wp2_with fail
          with_reducible refine (live_pt h (KJ.out _ _ cv hsl.out)).mono ?_
          clear h y0 y3 f0 f1
          rintro e w ⟨ar, nr, cr, br, mr, dr, rfl, h, hv, hc⟩
          have y0 := h.out.1.c0
          have y3 := h.out.1.c1
          have f0 := h.out.1.f 0
          have f1 := h.out.1.f 1
          go_wp2_with fail
          have hR := h.out.1.set ar nr cr br mr dr
          have r0 := hR.c0
          have r1 := hR.c1
          exact bodyPost_ret (v := .tuple #[.agg #[.slice ar nr cr, .slice br mr dr], .int .i64 0]) (by simp [results, Tryz.results12, go_sem, r0, r1]) rfl (by
            rw [HRR.out]
            exact mend_box (r := (some ([(s : Int)], LL), 0)) h.out.1 h.out.2.2 (by omega) hv hc HRK.out)
theorem rWhere_is {a1 b1 : Option Addr} {n1 c1 m1 d1 : Nat} {l : List Int} {es : List ByteArray} {W : World} {o : Option Ar} (h1 : Av W a1 n1 c1 b1 m1 d1 l es o) : Calls Tryz.prog 12 #[.agg #[.slice a1 n1 c1, .slice b1 m1 d1]] W (MEnd (whK o) W) := by
  by_cases hv : vcE o = 0
  · obtain ⟨q, rfl, hl⟩ := vc_yes hv
    rcases Bool.eq_false_or_eq_true (q.2.all nearM) with ha | ha
    · exact rwh_yes h1 hv hl ha
    · rw [wh_far hl ha]; exact rwh_far h1 hv ha
  · rw [wh_no hv]; exact rwh_no h1 hv
end Go.Proofs.YtpledghphljfkaaGreatDoor
/-
  The reference's Unique, Find, by their contracts.
-/
namespace Go.Proofs.YtpledghphljfkaaGreatDoor
set_option linter.unusedVariables false
set_option linter.unusedSimpArgs false
open Go.RowKit

theorem un_no {o : Option Ar} (h : vcE o ≠ 0) : unK o = (none, vcE o) := by
  cases o with
  | none => rfl
  | some v =>
    unfold vcE at h ⊢
    unfold unK
    dsimp only at h ⊢
    by_cases hl : v.1.length ≠ 1
    · rw [if_pos hl, if_pos hl]
    · rw [if_neg hl] at h; exact absurd rfl h
theorem un_yes {q : Ar} (hl : q.1.length = 1) : unK (some q) = (some ([((unS q.2).length : Int)], unS q.2), 0) := by
  unfold unK
  dsimp only
  rw [if_neg (fun e => e hl)]
theorem fp_S (xs : List Int) (x : Int) : fpS (xs.map S) (S x) = fpS xs x := by
  induction xs with
  | nil => rfl
  | cons y r ih =>
    show (if S y = S x then 0 else fpS (r.map S) (S x) + 1) = if y = x then 0 else fpS r x + 1
    by_cases h : y = x
    · rw [if_pos (by rw [h]), if_pos h]
    · rw [if_neg (fun e => h (S_inj e)), if_neg h, ih]
theorem fp_here {xs : List Int} {i : Nat} (hi : i < xs.length) : fpS xs (xs.getD i 0) = i ↔ xs.getD i 0 ∉ xs.take i := by
  have e : xs.getD i 0 = xs[i] := by rw [List.getD_eq_getElem?_getD, List.getElem?_eq_getElem hi]; rfl
  rw [e]
  constructor
  · intro h hm
    obtain ⟨j, hj, e2⟩ := List.getElem_of_mem hm
    rw [List.length_take] at hj
    rw [List.getElem_take] at e2
    exact fp_min (l := xs) (x := xs[i]) (k := j) (by omega) (by rw [List.getElem?_eq_getElem (by omega), e2])
  · intro h
    exact fp_one hi (List.getElem?_eq_getElem hi) fun j hj e2 => h (by
      rw [List.getElem?_eq_getElem (by omega)] at e2
      injection e2 with e2
      rw [← e2]
      exact List.mem_take_iff_getElem.2 ⟨j, by omega, rfl⟩)
theorem un_take {xs : List Int} {i : Nat} (hi : i < xs.length) : unS (xs.take (i + 1)) = unS (xs.take i) ++ (if fpS xs (xs.getD i 0) = i then [xs.getD i 0] else []) := by
  rw [takeI_snoc hi, un_snoc]
  congr 1
  by_cases h : fpS xs (xs.getD i 0) = i
  · rw [if_pos h, if_neg ((fp_here hi).1 h)]
  · rw [if_neg h, if_pos (by
      by_cases hm : xs.getD i 0 ∈ xs.take i
      · exact hm
      · exact absurd ((fp_here hi).2 hm) h)]
set_option maxRecDepth 100000 in
set_option maxHeartbeats 3200000 in
theorem run_no {a1 b1 : Option Addr} {n1 c1 m1 d1 : Nat} {l : List Int} {es : List ByteArray} {W : World} {o : Option Ar} (h1 : Av W a1 n1 c1 b1 m1 d1 l es o) (hv : vcE o ≠ 0) :
    Calls Tryz.prog 14 #[.agg #[.slice a1 n1 c1, .slice b1 m1 d1]] W (MEnd (none, vcE o) W) := by
  have KC := Lib.hid (fun w (hb : Below W.heap.size W w) => rvec_is (h1.below hb))
  generalize vcE o = k at *
  have hk : (k != 0) = true := by simpa using hv
  clear h1 hv
  have h := live1 W a1 n1 c1 b1 m1 d1
  go_enter Tryz.func14, Tryz.ntmps14
  have x1 := h.out.2.1.c0
  have y1 := h.out.2.1.c1
  go_wp2_with fail
  with_reducible refine (live h (KC.out _ h.out.2.2)).mono ?_
  clear h x1 y1
  rintro e w ⟨rfl, h⟩
  have y0 := h.out.1.c0
  have y3 := h.out.1.c1
  have f0 := h.out.1.f 0
  have f1 := h.out.1.f 1
  go_wp2_with fail
  have hR := h.out.1.set none 0 0 none 0 0
  have r0 := hR.c0
  have r1 := hR.c1
  exact bodyPost_ret (v := .tuple #[.agg #[.slice none 0 0, .slice none 0 0], .int .i64 k]) (by simp [results, Tryz.results14, go_sem, r0, r1]) rfl (mend_no h.out.1 h.out.2.2 (by omega))
set_option maxRecDepth 100000 in
set_option maxHeartbeats 3200000 in
theorem run_yes {a1 b1 : Option Addr} {n1 c1 m1 d1 : Nat} {l : List Int} {es : List ByteArray} {W : World} {q : Ar} (h1 : Av W a1 n1 c1 b1 m1 d1 l es (some q)) (hv : vcE (some q) = 0) (hlq : q.1.length = 1) :
    Calls Tryz.prog 14 #[.agg #[.slice a1 n1 c1, .slice b1 m1 d1]] W (MEnd (some ([((unS q.2).length : Int)], unS q.2), 0) W) := by
  have KC := Lib.hid (fun w (hb : Below W.heap.size W w) => rvec_is (h1.below hb))
  rw [hv] at KC
  have hm4 := h1.mlen.2.2
  have hml := h1.mlen.1
  have HR := Lib.hid (un_rok h1.i.rok (by rw [← hml]; exact hm4))
  have HS := Lib.hid (show St W b1 m1 (q.2.map S) from by have := h1.v.t; rwa [h1.i.2.1] at this)
  obtain ⟨L, hL⟩ : ∃ L, L = q.2 := ⟨_, rfl⟩
  rw [← hL] at HR HS hml
  rw [← hL]
  have KF := Lib.hid (fun i w (hb : Below W.heap.size W w) => rfirst_is b1 m1 d1 (L.map S) (S (L.getD i 0)) w (HS.out.below hb) (by omega))
  have HL := Lib.hid hml.symm
  clear h1 hv hlq hml hL
  have h := live1 W a1 n1 c1 b1 m1 d1
  go_enter Tryz.func14, Tryz.ntmps14
  have x1 := h.out.2.1.c0
  have y1 := h.out.2.1.c1
  go_wp2_with fail
  with_reducible refine (live h (KC.out _ h.out.2.2)).mono ?_
  clear h x1 y1
  rintro e w ⟨rfl, h⟩
  have HLV := Lib.hid h
  obtain ⟨B, hB⟩ : ∃ B, B = w.heap.size := ⟨_, rfl⟩
  go_wp2_with fail
  go_loopw [5, 6] (fun ov iv wr => ∃ (i s : Nat) (av : Option Addr) (cv : Nat), ov = .slice av s cv ∧ iv = .int .i64 (i : Int) ∧ i ≤ m1 ∧ s ≤ i ∧ Hid (s = (unS (L.take i)).length) ∧ wr.ownsRow B 9 1 (.slice av s cv) s (valsS ((unS (L.take i)).map S)) ∧ Below B w wr) (fun _ iv _ => m1 - (intOf iv).toNat)
  case atStart => exact ⟨0, 0, none, 0, rfl, rfl, Nat.zero_le _, Nat.zero_le _, Lib.hid rfl, World.ownsRow_nil _ _ _ _, by rw [hB]; exact Below.refl _ _⟩
  case round =>
    obtain ⟨i, s, av, cv, rfl, rfl, hi, hsi, HSS, ho, hb⟩ := hrel
    clear h
    have h := live_belS HLV.out hb (by rw [hB]; exact Nat.le_refl _)
    have hBW : W.heap.size ≤ B := by rw [hB]; exact HLV.out.out.2.2.size
    have hsz := hb.size
    by_cases hil : i < m1
    · have e3 : (i : Int) < (m1 : Int) := by omega
      obtain ⟨bb, off, rfl, hc⟩ := HS.out.2 (by omega)
      have hck := (h.out.2.2.cell (p := ⟨bb, off + i, none⟩) (World.block_lt_of_cell? W _ (hc i hil))).trans (hc i hil)
      rw [getD_S (by rw [HL.out]; exact hil)] at hck
      have KQ := KF.out i wr h.out.2.2
      have HU := Lib.hid (un_take (xs := L) (i := i) (by rw [HL.out]; exact hil))
      rw [fp_S] at KQ
      obtain ⟨x, hx⟩ : ∃ x, x = L.getD i 0 := ⟨_, rfl⟩
      rw [← hx] at hck KQ HU
      obtain ⟨f, hf⟩ : ∃ f, f = fpS L x := ⟨_, rfl⟩
      rw [← hf] at KQ HU
      have lck := World.block_lt_of_cell? wr _ hck
      have y1 := h.out.2.1.c1
      have l1 := h.out.2.1.lt
      have HQ : Hid (∀ z, Below wr.heap.size wr z → Calls Tryz.prog 33 #[.slice (some ⟨bb, off, none⟩) m1 d1, .string (S x)] z fun e w' => e = .returned (.int .i64 (f : Int)) ∧ Below wr.heap.size wr w') := Lib.hid fun z hz => by
        have k5 := KF.out i z (h.out.2.2.trans (hz.mono h.out.2.2.size))
        rw [fp_S, ← hx, ← hf] at k5
        exact k5.mono fun e w' k => ⟨k.1, by rw [← k.2]; exact hz⟩
      have HO := Lib.hid ho
      have HBB := Lib.hid hb
      clear hc hx hf KQ ho hb h
      obtain ⟨tx, htx⟩ : ∃ tx, tx = S x := ⟨_, rfl⟩
      rw [← htx] at hck HQ
      have HTX := Lib.hid htx
      clear htx
      have hq : Below wr.heap.size wr wr := Below.refl _ _
      have hqz := hq.size
      by_cases hfi : f = i
      · have e4 : ((f : Int) == (i : Int)) = true := by rw [hfi]; exact beq_self_eq_true _
        go_wp2_with fail
        go_region_law (go_simp; go_at_call 33; refine (HQ.out _ (by repeat' (first | exact hq | refine Below.drew ?_ | refine below_drewN ?_ _ | refine Below.alloc ?_ ?_ _ | exact hqz | exact Nat.le_refl _ | omega | (simp; done) | (simp; omega)))).mono ?_; rintro e wa ⟨rfl, hq⟩; have hqz := hq.size)
        all_goals
          have ho2 := Lib.hid ((own_below HO.out (hq.mono (by omega))).alloc (.cells #[.string tx] 9))
          have hr5 := Lib.hid (own_rd (own_newS1 wa tx))
          have hb5 := Lib.hid (HBB.out.trans (hq.mono (by omega)))
          have hsz5 := hb5.out.size
          have hck5 := (hq.cell (p := ⟨bb, off + i, none⟩) lck).trans hck
          have y5 := (hq.cell (p := ⟨W.heap.size, 1, none⟩) l1).trans y1
          clear hq hck y1 HO
          go_upto_region 7 with (at_builtin; refine wpList_append_rd rfl (.tmp 30) (.tmp 36) 23 rfl B 9 (.string ⟨#[]⟩) 16 Tryz.underlying23 infoStr rfl (by decide) _ s _ rfl ho2.out _ 1 1 (valsS [tx]) rfl hr5.out (valsS_one _) (by omega) (by simp; omega) ?_; intro av' cv' w3 hown3 hg3)
          have hb6 : Below B w w3 := (hb5.out.alloc (by omega) _).trans (grown_below' hg3 (fun g' hg' => (ho2.out.lt g' hg').1) (by simp; omega))
          rw [valsS_add] at hown3
          clear hg3 ho2 hr5
          go_wp2_with fail
          go_roundw
          case rel => exact ⟨i + 1, s + 1, av', cv', rfl, by go_num, by omega, by omega, Lib.hid (by rw [HU.out, if_pos hfi, List.length_append, ← HSS.out]; rfl), by rw [HU.out, if_pos hfi, List.map_append]; rw [List.map_singleton, ← HTX.out]; exact hown3, hb6⟩
          case measure => simp [intOf]; omega
      · have e4 : ((f : Int) == (i : Int)) = false := beq_eq_false_iff_ne.2 (by omega)
        go_wp2_with fail
        go_region_law (go_simp; go_at_call 33; refine (HQ.out _ (by repeat' (first | exact hq | refine Below.drew ?_ | refine below_drewN ?_ _ | refine Below.alloc ?_ ?_ _ | exact hqz | exact Nat.le_refl _ | omega | (simp; done) | (simp; omega)))).mono ?_; rintro e wa ⟨rfl, hq⟩; have hqz := hq.size)
        all_goals
          have ho5 := own_below HO.out (hq.mono (by omega))
          have hb5 := HBB.out.trans (hq.mono (by omega))
          clear hq HO HBB
          go_wp2_with fail
          go_roundw
          case rel => exact ⟨i + 1, s, av, cv, rfl, by go_num, by omega, by omega, Lib.hid (by rw [HU.out, if_neg hfi, List.append_nil]; exact HSS.out), by rw [HU.out, if_neg hfi, List.append_nil]; exact ho5, hb5⟩
          case measure => simp [intOf]; omega
    · have e3 : ¬ (i : Int) < (m1 : Int) := by omega
      obtain rfl : i = m1 := by omega
      have e5 : L.take i = L := List.take_of_length_le (by rw [HL.out]; exact Nat.le_refl _)
      rw [e5] at HSS ho
      have hs := HSS.out
      subst hs
      have hst := Lib.hid (own_st ho)
      have hcp := Lib.hid (own_caps ho)
      clear ho hb
      have y1 := h.out.2.1.c1
      generalize hUL : unS L = UL at *
      have y0 := h.out.1.c0
      have y3 := h.out.1.c1
      have f0 := h.out.1.f 0
      have f1 := h.out.1.f 1
      have l0 := h.out.1.lt
      go_wp2_with fail
      have hA : Below wr.heap.size wr (wr.alloc (.cells #[.int .i64 (UL.length : Int)] 3)) := (Below.refl _ _).alloc (Nat.le_refl _) _
      have hx := sl_new1 wr (UL.length : Int)
      have hst2 := hst.out.below hA
      replace h := live_to h hA
      have hR := h.out.1.set (some ⟨wr.heap.size, 0, none⟩) 1 1 av UL.length cv
      have r0 := hR.c0
      have r1 := hR.c1
      have hE := mend_box (a := some ⟨wr.heap.size, 0, none⟩) (n := 1) (c := 1) (b := av) (m := UL.length) (d := cv) (r := (some ([(UL.length : Int)], UL), 0)) h.out.1 h.out.2.2 (by omega) ⟨hx, hst2, by omega⟩ ⟨Nat.le_refl _, by unfold maxLen; omega, hcp.out.1, hcp.out.2⟩ HR.out
      rw [World.setCell_alloc_past (hn := l0), World.setCell_alloc_past (hn := by simpa using l0)] at hE r0 r1
      exact bodyPost_ret (v := .tuple #[.agg #[.slice (some ⟨wr.heap.size, 0, none⟩) 1 1, .slice av UL.length cv], .int .i64 0]) (by simp [results, Tryz.results14, go_sem, r0, r1]) rfl hE
theorem rUnique_is {a1 b1 : Option Addr} {n1 c1 m1 d1 : Nat} {l : List Int} {es : List ByteArray} {W : World} {o : Option Ar} (h1 : Av W a1 n1 c1 b1 m1 d1 l es o) : Calls Tryz.prog 14 #[.agg #[.slice a1 n1 c1, .slice b1 m1 d1]] W (MEnd (unK o) W) := by
  by_cases hv : vcE o = 0
  · obtain ⟨q, rfl, hl⟩ := vc_yes hv
    rw [un_yes hl]; exact run_yes h1 hv hl
  · rw [un_no hv]; exact run_no h1 hv
end Go.Proofs.YtpledghphljfkaaGreatDoor

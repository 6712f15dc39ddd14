import Derived.Test.YtpledghphljfkaaGreatDoorMay
import Derived.Test.YtpledghphljfkaaGreatDoorMbd
/-
  The reference's Index, by its contract.
-/
namespace Go.Proofs.YtpledghphljfkaaGreatDoor
set_option linter.unusedVariables false
set_option linter.unusedSimpArgs false
open Go.RowKit

theorem ix_1 (p : Option Ar) : ixK none p = (none, 1) := by cases p <;> rfl
theorem ix_2 (q : Ar) : ixK (some q) none = (none, 1) := rfl
theorem ix_3 {q : Ar} (r : Ar) (h : q.1 = []) : ixK (some q) (some r) = (none, 3) := by
  unfold ixK; dsimp only; rw [if_pos h]
theorem ix_4 {q r : Ar} (h : q.1 ≠ []) (hp : plE r (q.1.getD 0 0) ≠ 0) : ixK (some q) (some r) = (none, plE r (q.1.getD 0 0)) := by
  unfold ixK; dsimp only; rw [if_neg h, if_pos hp]
theorem ix_5 {q r : Ar} (h : q.1 ≠ []) (hp : plE r (q.1.getD 0 0) = 0) (hz : szE (r.1 ++ q.1.tail) ≠ 0) : ixK (some q) (some r) = (none, szE (r.1 ++ q.1.tail)) := by
  unfold ixK; dsimp only; rw [if_neg h, if_neg (fun e => e hp), if_pos hz]
theorem ix_6 {q r : Ar} (h : q.1 ≠ []) (hp : plE r (q.1.getD 0 0) = 0) (hz : szE (r.1 ++ q.1.tail) = 0) : ixK (some q) (some r) = (some (r.1 ++ q.1.tail, its q.2 (kI q.1) (natL r.2)), 0) := by
  unfold ixK; dsimp only; rw [if_neg h, if_neg (fun e => e hp), if_neg (fun e => e hz)]
theorem tail_snoc2 {l A : List Int} {k : Nat} (h0 : 1 ≤ k) (hk : k < l.length) : valsI (A ++ l.tail.take (k + 1 - 1)) = valsI (A ++ l.tail.take (k - 1)) ++ [.int .i64 (l.getD k 0)] := by
  obtain ⟨j, rfl⟩ : ∃ j, k = j + 1 := ⟨k - 1, by omega⟩
  have e : l.tail.take (j + 1) = l.tail.take j ++ [l.getD (j + 1) 0] := by
    rw [takeI_snoc (by rw [List.length_tail]; omega)]
    congr 2
    simp [List.getD_eq_getElem?_getD, List.getElem?_tail]
  show valsI (A ++ l.tail.take (j + 1)) = valsI (A ++ l.tail.take j) ++ _
  rw [e, ← List.append_assoc]; simp [valsI]
theorem getD_snoc {l : List Int} {k : Nat} (hk : k < l.length) : valsI (l.take (k + 1)) = valsI (l.take k) ++ [.int .i64 (l.getD k 0)] := pre_succ hk
def PCut (L : List Int) (N : Nat) (wz : World) (p q : Value) (wx : World) : Prop :=
  ∃ a c, p = .slice a N c ∧ q = .int .i64 0 ∧ Sl wx a N L ∧ Below wz.heap.size wz wx
set_option maxRecDepth 100000 in
set_option maxHeartbeats 3200000 in
theorem rix_1 {a1 b1 a2 b2 : Option Addr} {n1 c1 m1 d1 n2 c2 m2 d2 : Nat} {l m : List Int} {es fs : List ByteArray} {W : World} (h1 : Av W a1 n1 c1 b1 m1 d1 l es none) :
    Calls Tryz.prog 19 #[.agg #[.slice a1 n1 c1, .slice b1 m1 d1], .agg #[.slice a2 n2 c2, .slice b2 m2 d2]] W (MEnd (none, 1) W) := by
  have KV := Lib.hid (fun w (hb : Below W.heap.size W w) => rMay_av (h1.below hb))
  clear h1
  have h := live2 W a1 n1 c1 b1 m1 d1 a2 n2 c2 b2 m2 d2
  go_enter Tryz.func19, Tryz.ntmps19
  have x1 := h.out.2.2.1.c0
  have y1 := h.out.2.2.1.c1
  go_wp2_with fail
  with_reducible refine (live h (KV.out _ h.out.2.2.2)).mono ?_
  clear h x1 y1
  rintro e w ⟨rfl, h⟩
  have y0 := h.out.1.c0
  have y3 := h.out.1.c1
  have f0 := h.out.1.f 0
  have f1 := h.out.1.f 1
  go_wp2_with fail
  have hR := h.out.1.set none 0 0 none 0 0
  have r0 := hR.c0
  have r1 := hR.c1
  exact bodyPost_ret (v := .tuple #[.agg #[.slice none 0 0, .slice none 0 0], .int .i64 1]) (by simp [results, Tryz.results19, go_sem, r0, r1]) rfl (mend_no h.out.1 h.out.2.2.2 (by omega))
set_option maxRecDepth 100000 in
set_option maxHeartbeats 3200000 in
theorem rix_2 {a1 b1 a2 b2 : Option Addr} {n1 c1 m1 d1 n2 c2 m2 d2 : Nat} {l m : List Int} {es fs : List ByteArray} {W : World} {q : Ar} (h1 : Av W a1 n1 c1 b1 m1 d1 l es (some q)) (h2 : Av W a2 n2 c2 b2 m2 d2 m fs none) :
    Calls Tryz.prog 19 #[.agg #[.slice a1 n1 c1, .slice b1 m1 d1], .agg #[.slice a2 n2 c2, .slice b2 m2 d2]] W (MEnd (none, 1) W) := by
  have KV := Lib.hid (fun w (hb : Below W.heap.size W w) => rMay_av (h1.below hb))
  have KU := Lib.hid (fun w (hb : Below W.heap.size W w) => rMay_av (h2.below hb))
  clear h1 h2
  have h := live2 W a1 n1 c1 b1 m1 d1 a2 n2 c2 b2 m2 d2
  go_enter Tryz.func19, Tryz.ntmps19
  have x1 := h.out.2.2.1.c0
  have y1 := h.out.2.2.1.c1
  go_wp2_with fail
  with_reducible refine (live h (KV.out _ h.out.2.2.2)).mono ?_
  clear h x1 y1
  rintro e w ⟨rfl, h⟩
  have x2 := h.out.2.1.c0
  have y2 := h.out.2.1.c1
  go_wp2_with fail
  with_reducible refine (live h (KU.out _ h.out.2.2.2)).mono ?_
  clear h x2 y2
  rintro e w ⟨rfl, h⟩
  have y0 := h.out.1.c0
  have y3 := h.out.1.c1
  have f0 := h.out.1.f 0
  have f1 := h.out.1.f 1
  go_wp2_with fail
  have hR := h.out.1.set none 0 0 none 0 0
  have r0 := hR.c0
  have r1 := hR.c1
  exact bodyPost_ret (v := .tuple #[.agg #[.slice none 0 0, .slice none 0 0], .int .i64 1]) (by simp [results, Tryz.results19, go_sem, r0, r1]) rfl (mend_no h.out.1 h.out.2.2.2 (by omega))
set_option maxRecDepth 100000 in
set_option maxHeartbeats 3200000 in
theorem rix_3 {a1 b1 a2 b2 : Option Addr} {n1 c1 m1 d1 n2 c2 m2 d2 : Nat} {l m : List Int} {es fs : List ByteArray} {W : World} {q r : Ar} (h1 : Av W a1 n1 c1 b1 m1 d1 l es (some q)) (h2 : Av W a2 n2 c2 b2 m2 d2 m fs (some r)) (h0 : n1 = 0) :
    Calls Tryz.prog 19 #[.agg #[.slice a1 n1 c1, .slice b1 m1 d1], .agg #[.slice a2 n2 c2, .slice b2 m2 d2]] W (MEnd (none, 3) W) := by
  have KV := Lib.hid (fun w (hb : Below W.heap.size W w) => rMay_av (h1.below hb))
  have KU := Lib.hid (fun w (hb : Below W.heap.size W w) => rMay_av (h2.below hb))
  have hn0 : (n1 : Int) = 0 := by omega
  clear h1 h2 h0
  have h := live2 W a1 n1 c1 b1 m1 d1 a2 n2 c2 b2 m2 d2
  go_enter Tryz.func19, Tryz.ntmps19
  have x1 := h.out.2.2.1.c0
  have y1 := h.out.2.2.1.c1
  go_wp2_with fail
  with_reducible refine (live h (KV.out _ h.out.2.2.2)).mono ?_
  clear h x1 y1
  rintro e w ⟨rfl, h⟩
  have x2 := h.out.2.1.c0
  have y2 := h.out.2.1.c1
  go_wp2_with fail
  with_reducible refine (live h (KU.out _ h.out.2.2.2)).mono ?_
  clear h x2 y2
  rintro e w ⟨rfl, h⟩
  have x1 := h.out.2.2.1.c0
  have y1 := h.out.2.2.1.c1
  have y0 := h.out.1.c0
  have y3 := h.out.1.c1
  have f0 := h.out.1.f 0
  have f1 := h.out.1.f 1
  go_wp2_with fail
  have hR := h.out.1.set none 0 0 none 0 0
  have r0 := hR.c0
  have r1 := hR.c1
  exact bodyPost_ret (v := .tuple #[.agg #[.slice none 0 0, .slice none 0 0], .int .i64 3]) (by simp [results, Tryz.results19, go_sem, r0, r1]) rfl (mend_no h.out.1 h.out.2.2.2 (by omega))
set_option maxRecDepth 100000 in
set_option maxHeartbeats 3200000 in
theorem rix_4 {a1 b1 a2 b2 : Option Addr} {n1 c1 m1 d1 n2 c2 m2 d2 : Nat} {l m : List Int} {es fs : List ByteArray} {W : World} {q r : Ar} (h1 : Av W a1 n1 c1 b1 m1 d1 l es (some q)) (h2 : Av W a2 n2 c2 b2 m2 d2 m fs (some r)) (hn : 0 < n1) (h0 : q.1 ≠ []) (hpl : plE r (q.1.getD 0 0) ≠ 0) :
    Calls Tryz.prog 19 #[.agg #[.slice a1 n1 c1, .slice b1 m1 d1], .agg #[.slice a2 n2 c2, .slice b2 m2 d2]] W (MEnd (ixK (some q) (some r)) W) := by
  have KV := Lib.hid (fun w (hb : Below W.heap.size W w) => rMay_av (h1.below hb))
  have KU := Lib.hid (fun w (hb : Below W.heap.size W w) => rMay_av (h2.below hb))
  have hn0 : (n1 : Int) ≠ 0 := by omega
  have hi0 : (0 : Int) < (n1 : Int) := by omega
  have e1 := h1.fst
  have e2 := h2.fst
  subst e1 e2
  obtain ⟨M, hM⟩ : ∃ M, M = q.1.getD 0 0 := ⟨_, rfl⟩
  have KP := Lib.hid (fun w (hb : Below W.heap.size W w) => rplaces_is (c1 := c2) (d1 := d2) M (h2.below hb))
  obtain ⟨bb, off, rfl, hc⟩ := h1.v.s.2 hn
  have hc0 := hc 0 hn
  rw [← hM, Nat.add_zero] at hc0
  have HCK := Lib.hid hc0
  clear hc hc0
  rw [ix_4 (r := r) h0 hpl, ← hM]
  rw [← hM] at hpl
  clear h1 h2 h0 hM
  have h := live2 W (some ⟨bb, off, none⟩) n1 c1 b1 m1 d1 a2 n2 c2 b2 m2 d2
  go_enter Tryz.func19, Tryz.ntmps19
  have x1 := h.out.2.2.1.c0
  have y1 := h.out.2.2.1.c1
  go_wp2_with fail
  with_reducible refine (live h (KV.out _ h.out.2.2.2)).mono ?_
  clear h x1 y1
  rintro e w ⟨rfl, h⟩
  have x2 := h.out.2.1.c0
  have y2 := h.out.2.1.c1
  go_wp2_with fail
  with_reducible refine (live h (KU.out _ h.out.2.2.2)).mono ?_
  clear h x2 y2
  rintro e w ⟨rfl, h⟩
  have x1 := h.out.2.2.1.c0
  have x2 := h.out.2.1.c0
  have y2 := h.out.2.1.c1
  have hck := (h.out.2.2.2.cell (p := ⟨bb, off, none⟩) (World.block_lt_of_cell? W _ HCK.out)).trans HCK.out
  have HQ : Hid (∀ z, Below w.heap.size w z → Calls Tryz.prog 43 #[.agg #[.slice a2 n2 c2, .slice b2 m2 d2], .int .i64 M] z fun e w' => ∃ a n c, e = .returned (.tuple #[.slice a n c, .int .i64 (plE r M)]) ∧ (plE r M = 0 → n = r.2.length ∧ Sl w' a n r.2 ∧ n ≤ c ∧ c ≤ maxLen) ∧ Below w.heap.size w w') := Lib.hid fun z hz => (KP.out z (h.out.2.2.2.trans (hz.mono h.out.2.2.2.size))).mono fun e w' k => by
    obtain ⟨a, n, c, k1, k2, k3⟩ := k
    exact ⟨a, n, c, k1, k2, hz.trans (k3.mono hz.size)⟩
  have HH := Lib.hid h
  have hq : Below w.heap.size w w := Below.refl _ _
  have hqz := hq.size
  clear h KP
  have HPL := Lib.hid hpl
  clear hpl
  go_upto_region 5 with fail
  generalize plE r M = k at *
  have hk : (k != 0) = true := by simpa using HPL.out
  go_region_law (go_simp; go_at_call 43; refine (HQ.out _ (by repeat' (first | exact hq | refine Below.drew ?_ | refine below_drewN ?_ _ | refine Below.alloc ?_ ?_ _ | exact hqz | exact Nat.le_refl _ | omega | (simp; done) | (simp; omega)))).mono ?_; rintro e wa ⟨pa, pn, pc, rfl, hp, hq⟩; replace hp := Lib.hid hp; have hqz := hq.size)
  all_goals
    have h := live_belS HH.out hq (Nat.le_refl _)
    clear hp hq x1 x2 y2 hck HQ
    have y0 := h.out.1.c0
    have y3 := h.out.1.c1
    have f0 := h.out.1.f 0
    have f1 := h.out.1.f 1
    go_wp2_with fail
    have hR := h.out.1.set none 0 0 none 0 0
    have r0 := hR.c0
    have r1 := hR.c1
    exact bodyPost_ret (v := .tuple #[.agg #[.slice none 0 0, .slice none 0 0], .int .i64 k]) (by simp [results, Tryz.results19, go_sem, r0, r1]) rfl (mend_no h.out.1 h.out.2.2.2 (by omega))
set_option maxRecDepth 100000 in
set_option maxHeartbeats 3200000 in
theorem rix_5 {a1 b1 a2 b2 : Option Addr} {n1 c1 m1 d1 n2 c2 m2 d2 : Nat} {l m : List Int} {es fs : List ByteArray} {W : World} {q r : Ar} (h1 : Av W a1 n1 c1 b1 m1 d1 l es (some q)) (h2 : Av W a2 n2 c2 b2 m2 d2 m fs (some r)) (hn : 0 < n1) (h0 : q.1 ≠ []) (hpl : plE r (q.1.getD 0 0) = 0) :
    Calls Tryz.prog 19 #[.agg #[.slice a1 n1 c1, .slice b1 m1 d1], .agg #[.slice a2 n2 c2, .slice b2 m2 d2]] W (MEnd (ixK (some q) (some r)) W) := by
  have KV := Lib.hid (fun w (hb : Below W.heap.size W w) => rMay_av (h1.below hb))
  have KU := Lib.hid (fun w (hb : Below W.heap.size W w) => rMay_av (h2.below hb))
  have hn3 := h1.n3
  have hn4 := h2.n3
  have hm1 := h1.mlen.2.2
  have hm2 := h2.mlen.2.2
  have hmm := h2.mlen.1
  have e3 := h1.i.2.1
  subst e3
  have hn0 : (n1 : Int) ≠ 0 := by omega
  have hi0 : (0 : Int) < (n1 : Int) := by omega
  have e1 := h1.fst
  have e2 := h2.fst
  subst e1 e2
  obtain ⟨M, hM⟩ : ∃ M, M = q.1.getD 0 0 := ⟨_, rfl⟩
  have KP := Lib.hid (fun w (hb : Below W.heap.size W w) => rplaces_is (c1 := c2) (d1 := d2) M (h2.below hb))
  obtain ⟨bb, off, rfl, hc⟩ := h1.v.s.2 hn
  have hc0 := hc 0 hn
  rw [← hM, Nat.add_zero] at hc0
  have HCK := Lib.hid hc0
  clear hc hc0
  obtain ⟨R, hR⟩ : ∃ R, R = ixK (some q) (some r) := ⟨_, rfl⟩
  rw [← hR]
  have hok := plE_ok hpl
  have hin := natL_lt (n := nI q.1) (l := r.2) (fun x hx => by have := hok.2 x hx; unfold nI; omega)
  have hit := h1.items
  rw [mN_nI h0] at hit
  have hLn : (natL r.2).length = m2 := by rw [natL_len]; exact hmm.symm
  have hes : (q.2.map S).length = nI q.1 * kI q.1 := by rw [h1.v.t.1]; exact hit.1
  have HZ := Lib.hid (fun h => hR.trans (ix_5 h0 hpl h))
  have HY := Lib.hid (fun h => And.intro (hR.trans (ix_6 h0 hpl h)) (And.intro (ix_rok h1.i.rok h1.fits h0 h2.i.rok h hin (by
    have hmay := szE_may.1 h1.i.rok.1
    exact pr_nonneg fun j hj => by
      have := hmay.nn (j + 1) (by rw [List.length_tail] at hj; omega)
      simpa [List.getD_eq_getElem?_getD, List.getElem?_tail] using this)) (show m2 * kI q.1 ≤ 4096 from by
    have hpp := (szE_may.1 h).pr
    rw [pr_append, ← h2.i.rok.2.1, ← hmm] at hpp
    have hk : 0 ≤ pr q.1.tail := by
      have hmay := szE_may.1 h1.i.rok.1
      exact pr_nonneg fun j hj => by
        have := hmay.nn (j + 1) (by rw [List.length_tail] at hj; omega)
        simpa [List.getD_eq_getElem?_getD, List.getElem?_tail] using this
    have e : ((kI q.1 : Nat) : Int) = pr q.1.tail := Int.toNat_of_nonneg hk
    rw [← e] at hpp
    exact_mod_cast hpp)))
  have KT := Lib.hid (fun w (hb : Below W.heap.size W w) i (hi : i < nI q.1) => rItem_yes (h1.below hb) hn hi)
  have HS := Lib.hid (fun j (hj : j < m2) => And.intro (its_snoc (q.2.map S) (kI q.1) (L := natL r.2) (j := j) (by omega)) (And.intro (its_length hes (l := (natL r.2).take j) (fun i hi => hin i (List.mem_of_mem_take hi))) (part_length (es := q.2.map S) (k := kI q.1) (i := (natL r.2).getD j 0) (by
    rw [hes]
    refine Nat.mul_le_mul_right _ ?_
    rw [List.getD_eq_getElem?_getD, List.getElem?_eq_getElem (by omega)]
    exact hin _ (List.getElem_mem _)))))
  have HIN := Lib.hid (fun j (hj : j < m2) => (show (natL r.2).getD j 0 < nI q.1 from by
    rw [List.getD_eq_getElem?_getD, List.getElem?_eq_getElem (by omega)]
    exact hin _ (List.getElem_mem _)))
  have HAT := Lib.hid (fun j (hj : j < m2) => natL_at (l := r.2) (fun x hx => (hok.2 x hx).1) (k := j) (by omega))
  have HSV := Lib.hid h1.v.s
  have HSW := Lib.hid h2.v.s
  have KZ := Lib.hid (fun w a n c (hs : Sl w a n (r.1 ++ q.1.tail)) => rSize_is a n c (r.1 ++ q.1.tail) w hs)
  unfold SizeIs at KZ
  have HLN := Lib.hid hLn
  have HM2 := Lib.hid hmm.symm
  have HL1 := Lib.hid (And.intro h1.v.s.1 h2.v.s.1)
  have HMAP := Lib.hid (its_map q.2 (kI q.1) (natL r.2))
  have hPL : plE r M = 0 := by rw [hM]; exact hpl
  clear h1 h2 h0 hM hpl hR hok hin hit hes hLn hmm
  generalize kI q.1 = K at *
  generalize nI q.1 = NI at *
  have h := live2 W (some ⟨bb, off, none⟩) n1 c1 b1 m1 d1 a2 n2 c2 b2 m2 d2
  go_enter Tryz.func19, Tryz.ntmps19
  have x1 := h.out.2.2.1.c0
  have y1 := h.out.2.2.1.c1
  go_wp2_with fail
  with_reducible refine (live h (KV.out _ h.out.2.2.2)).mono ?_
  clear h x1 y1
  rintro e w ⟨rfl, h⟩
  have x2 := h.out.2.1.c0
  have y2 := h.out.2.1.c1
  go_wp2_with fail
  with_reducible refine (live h (KU.out _ h.out.2.2.2)).mono ?_
  clear h x2 y2
  rintro e w ⟨rfl, h⟩
  have x1 := h.out.2.2.1.c0
  have x2 := h.out.2.1.c0
  have y2 := h.out.2.1.c1
  have hck := (h.out.2.2.2.cell (p := ⟨bb, off, none⟩) (World.block_lt_of_cell? W _ HCK.out)).trans HCK.out
  have HQ : Hid (∀ z, Below w.heap.size w z → Calls Tryz.prog 43 #[.agg #[.slice a2 n2 c2, .slice b2 m2 d2], .int .i64 M] z fun e w' => ∃ a n c, e = .returned (.tuple #[.slice a n c, .int .i64 (plE r M)]) ∧ (plE r M = 0 → n = r.2.length ∧ Sl w' a n r.2 ∧ n ≤ c ∧ c ≤ maxLen) ∧ Below w.heap.size w w') := Lib.hid fun z hz => (KP.out z (h.out.2.2.2.trans (hz.mono h.out.2.2.2.size))).mono fun e w' k => by
    obtain ⟨a, n, c, k1, k2, k3⟩ := k
    exact ⟨a, n, c, k1, k2, hz.trans (k3.mono hz.size)⟩
  have HH := Lib.hid h
  have hq : Below w.heap.size w w := Below.refl _ _
  have hqz := hq.size
  clear h KP
  go_upto_region 5 with fail
  rw [hPL] at HQ
  go_cut [6, 7] (fun p q wx => PCut r.2 m2 w p q wx)
  case first =>
    go_region_law (go_simp; go_at_call 43; refine (HQ.out _ (by repeat' (first | exact hq | refine Below.drew ?_ | refine below_drewN ?_ _ | refine Below.alloc ?_ ?_ _ | exact hqz | exact Nat.le_refl _ | omega | (simp; done) | (simp; omega)))).mono ?_; rintro e wa ⟨pa, pn, pc, rfl, hp, hq⟩; replace hp := Lib.hid hp; have hqz := hq.size)
    all_goals
      obtain ⟨hpn, hps, _, _⟩ := hp.out rfl
      have hpn2 := (hpn.trans HM2.out).symm
      clear hpn
      subst hpn2
      clear hp
      go_wp2_with fail
      go_meet
      case rel => exact ⟨pa, pc, rfl, rfl, hps, hq⟩
  case rest =>
  clear hq hqz HQ x1 x2 y2 hck
  obtain ⟨wo, hwo⟩ : ∃ z, z = wc := ⟨_, rfl⟩
  subst hwo
  obtain ⟨pa, pc, rfl, rfl, hPS, hbc⟩ := hcut
  have HLV := Lib.hid (live_belS HH.out hbc (Nat.le_refl _))
  clear hbc HH
  have HPS := Lib.hid hPS
  clear hPS
  go_wp2_with fail
  have hO0 := Bx.new wo none 0 0 none 0 0
  have hb0 : Below wo.heap.size wo (wo.alloc (.cells #[.slice none 0 0, .slice none 0 0] 25)) := (Below.refl _ _).alloc (Nat.le_refl _) _
  go_loopw [9] (fun iv wr => ∃ (i : Nat) (av : Option Addr) (cv : Nat), iv = .int .i64 (i : Int) ∧ i ≤ n2 ∧ Bx wr wo.heap.size av i cv none 0 0 ∧ wr.ownsRow (wo.heap.size + 1) 3 1 (.slice av i cv) i (valsI (r.1.take i)) ∧ Below wo.heap.size wo wr) (fun iv _ => n2 - (intOf iv).toNat)
  case atStart => exact ⟨0, none, 0, rfl, Nat.zero_le _, hO0, World.ownsRow_nil _ _ _ _, hb0⟩
  case round =>
    obtain ⟨i, av, cv, rfl, hi, hO, ho, hb⟩ := hrel
    clear hO0 hb0
    have h := live_belS HLV.out hb (Nat.le_refl _)
    have x2 := h.out.2.1.c0
    have lO := hO.lt
    by_cases hlt : i < n2
    · have e2 : (i : Int) < (n2 : Int) := by omega
      have HN := Lib.hid (getD_snoc (l := r.1) (k := i) (by rw [HL1.out.2]; exact hlt))
      obtain ⟨bl, ol, rfl, hc⟩ := HSW.out.2 (by omega)
      have hck := (h.out.2.2.2.cell (p := ⟨bl, ol + i, none⟩) (World.block_lt_of_cell? W _ (hc i hlt))).trans (hc i hlt)
      clear hc
      generalize r.1.getD i 0 = x at *
      have u0 := hO.c0
      have HO := Lib.hid hO
      have HW := Lib.hid ho
      have HB2 := Lib.hid hb
      clear hO ho hb h
      go_wp2_with fail
      go_region_law (refine stepI wr (wo.heap.size + 1) (.tmp 52) (.tmp 58) av i cv _ x rfl rfl rfl rfl rfl rfl rfl rfl HW.out (by omega) (by omega) ?_; intro av' cv' w9 hown9 hg9 _; have hO9 := Bx.grownV HW.out (by decide) hg9 HO.out; have z1 := hO9.c0; have g2 := hO9.f 0)
      all_goals
        rw [← HN.out] at hown9
        have hb10 := HB2.out.trans ((own_grown HW.out hg9 (by omega)).mono (by omega))
        have hO11 := Lib.hid (hO9.set0 av' (i + 1) cv')
        have hr11 := Lib.hid (own_set_bx hown9 (by decide) hO9 0 (.slice av' (i + 1) cv'))
        have hb11 := Lib.hid (hb10.setCell (p := ⟨wo.heap.size, 0, none⟩) (Nat.le_refl _) (.slice av' (i + 1) cv'))
        clear hO9 hg9 hown9 hb10 u0 z1 g2 HO HW HB2 hck x2
        go_wp2_with fail
        go_roundw
        case rel => exact ⟨i + 1, av', cv', by go_num, by omega, hO11.out, hr11.out, hb11.out⟩
        case measure => simp [intOf]; omega
    · have e2 : ¬ (i : Int) < (n2 : Int) := by omega
      obtain rfl : i = n2 := by omega
      rw [List.take_of_length_le (by rw [HL1.out.2]; exact Nat.le_refl _)] at ho
      clear h hlt
      go_wp2_with fail
      go_loopw [10] (fun iv wr => ∃ (j : Nat) (av : Option Addr) (cv : Nat), iv = .int .i64 (j : Int) ∧ 1 ≤ j ∧ j ≤ n1 ∧ Bx wr wo.heap.size av (i + (j - 1)) cv none 0 0 ∧ wr.ownsRow (wo.heap.size + 1) 3 1 (.slice av (i + (j - 1)) cv) (i + (j - 1)) (valsI (r.1 ++ q.1.tail.take (j - 1))) ∧ Below wo.heap.size wo wr) (fun iv _ => n1 - (intOf iv).toNat)
      case atStart => exact ⟨1, av, cv, rfl, Nat.le_refl _, hn, hO, by rw [show 1 - 1 = 0 from rfl, List.take_zero, List.append_nil]; exact ho, hb⟩
      case round =>
        obtain ⟨j, av, cv, rfl, hj1, hj, hO, ho, hb⟩ := hrel
        have h := live_belS HLV.out hb (Nat.le_refl _)
        have x1 := h.out.2.2.1.c0
        have lO := hO.lt
        by_cases hlt : j < n1
        · have e2 : (j : Int) < (n1 : Int) := by omega
          have HN := Lib.hid (tail_snoc2 (l := q.1) (A := r.1) (k := j) hj1 (by rw [HL1.out.1]; exact hlt))
          obtain ⟨bl, ol, hbo, hc⟩ := HSV.out.2 (by omega)
          obtain ⟨rfl, rfl⟩ : bb = bl ∧ off = ol := by injection hbo with e; injection e with e1 e2; exact ⟨e1, e2⟩
          have hck := (h.out.2.2.2.cell (p := ⟨bb, off + j, none⟩) (World.block_lt_of_cell? W _ (hc j hlt))).trans (hc j hlt)
          clear hc hbo
          generalize q.1.getD j 0 = x at *
          obtain ⟨C, hC⟩ : ∃ C, C = i + (j - 1) := ⟨_, rfl⟩
          have hC2 : i + (j + 1 - 1) = C + 1 := by omega
          rw [← hC] at hO ho
          have hC9 : C ≤ 1000 := by omega
          replace hC2 := Lib.hid hC2
          clear hC
          have u0 := hO.c0
          have HO := Lib.hid hO
          have HW := Lib.hid ho
          have HB2 := Lib.hid hb
          clear hO ho hb h
          go_wp2_with fail
          go_region_law (refine stepI wr (wo.heap.size + 1) (.tmp 69) (.tmp 75) av C cv _ x rfl rfl rfl rfl rfl rfl rfl rfl HW.out (by omega) (by omega) ?_; intro av' cv' w9 hown9 hg9 _; have hO9 := Bx.grownV HW.out (by decide) hg9 HO.out; have z1 := hO9.c0; have g2 := hO9.f 0)
          all_goals
            rw [← HN.out] at hown9
            have hb10 := HB2.out.trans ((own_grown HW.out hg9 (by omega)).mono (by omega))
            have hO11 := Lib.hid (hO9.set0 av' (C + 1) cv')
            have hr11 := Lib.hid (own_set_bx hown9 (by decide) hO9 0 (.slice av' (C + 1) cv'))
            have hb11 := Lib.hid (hb10.setCell (p := ⟨wo.heap.size, 0, none⟩) (Nat.le_refl _) (.slice av' (C + 1) cv'))
            clear hO9 hg9 hown9 hb10 u0 z1 g2 HO HW HB2 hck x1
            go_wp2_with fail
            go_roundw
            case rel => exact ⟨j + 1, av', cv', by go_num, by omega, by omega, by rw [hC2.out]; exact hO11.out, by rw [hC2.out]; exact hr11.out, hb11.out⟩
            case measure => simp [intOf]; omega
        · have e2 : ¬ (j : Int) < (n1 : Int) := by omega
          obtain rfl : j = n1 := by omega
          rw [List.take_of_length_le (by rw [List.length_tail, HL1.out.1]; exact Nat.le_refl _)] at ho
          obtain ⟨N, hN⟩ : ∃ N, N = i + (j - 1) := ⟨_, rfl⟩
          rw [← hN] at hO ho
          have hN7 : N ≤ 1000000 := by omega
          have HSL := Lib.hid (own_sl ho)
          have hcp := Lib.hid (own_caps ho)
          obtain ⟨B2, hB2⟩ : ∃ B2, B2 = wr.heap.size := ⟨_, rfl⟩
          have hsb : Hid (∀ p, av = some p → p.block < B2) := Lib.hid fun p hp => by rw [hB2]; exact (ho.lt p.block (by rw [hp]; rfl)).2
          have hgb : wo.heap.size < B2 := by rw [hB2]; exact hO.lt
          have hB3 : B2 ≤ wr.heap.size := by omega
          have z0 := hO.c0
          clear ho hlt hB2 hN
          obtain ⟨SH, hSH⟩ : ∃ SH, SH = r.1 ++ q.1.tail := ⟨_, rfl⟩
          rw [← hSH] at KZ HZ HY HSL
          obtain ⟨E, hE⟩ : ∃ E, E = szE SH := ⟨_, rfl⟩
          rw [← hE] at KZ HZ HY
          generalize szV SH = vz at *
          clear hE
          go_wp2_with fail
          refine (KZ.out _ _ _ cv HSL.out).mono ?_
          rintro e wy ⟨rfl, rfl⟩
          by_cases hE0 : E = 0
          · subst hE0
            obtain ⟨HRR0, HRK0, h4⟩ := HY.out rfl
            have HRR := Lib.hid HRR0
            have HRK := Lib.hid HRK0
            clear HRR0 HRK0
            have hSL := HSL.out
            clear HSL HY HZ KZ z0
            go_wp2_with fail
            go_loopw [13] (fun iv wr => ∃ (k : Nat) (bv : Option Addr) (dv : Nat), iv = .int .i64 k ∧ k ≤ m2 ∧ Bx wr wo.heap.size av N cv bv (its (q.2.map S) K ((natL r.2).take k)).length dv ∧ wr.ownsRow B2 9 1 (.slice bv (its (q.2.map S) K ((natL r.2).take k)).length dv) (its (q.2.map S) K ((natL r.2).take k)).length (valsS (its (q.2.map S) K ((natL r.2).take k))) ∧ Sl wr av N SH ∧ Below wo.heap.size wo wr ∧ B2 ≤ wr.heap.size) (fun iv _ => m2 - (intOf iv).toNat)
            case atStart => exact ⟨0, none, 0, rfl, Nat.zero_le _, hO, World.ownsRow_nil _ _ _ _, hSL, hb, hB3⟩
            case round =>
              obtain ⟨k, bv, dv, rfl, hk, hO1, ho1, hS1, hb1, hB1⟩ := hrel
              clear hO hSL hb hB3 h
              have h := live_belS HLV.out hb1 (Nat.le_refl _)
              by_cases hlt : k < m2
              · have e2 : (k : Int) < (m2 : Int) := by omega
                obtain ⟨bl, ol, rfl, hcl⟩ := HPS.out.2 (by omega)
                have hck := (hb1.cell (p := ⟨bl, ol + k, none⟩) (World.block_lt_of_cell? wo _ (hcl k hlt))).trans (hcl k hlt)
                rw [← HAT.out k hlt] at hck
                obtain ⟨hst, hp1, hp2⟩ := HS.out k hlt
                have hi0 := HIN.out k hlt
                have h41 : (k + 1) * K ≤ 4096 := Nat.le_trans (Nat.mul_le_mul_right _ hlt) h4
                rw [List.length_take, HLN.out, Nat.min_eq_left (Nat.le_of_lt hlt)] at hp1
                have KT2 := KT.out
                generalize (natL r.2).getD k 0 = i0 at *
                clear hcl
                obtain ⟨P, hP⟩ : ∃ P, P = its (q.2.map S) K ((natL r.2).take k) := ⟨_, rfl⟩
                obtain ⟨X, hX⟩ : ∃ X, X = part (q.2.map S) K i0 := ⟨_, rfl⟩
                rw [← hP] at hO1 ho1 hst hp1
                rw [← hX] at hst hp2
                have Q1 : Hid (∀ z, Below wr.heap.size wr z → Calls Tryz.prog 45 #[.agg #[.slice (some ⟨bb, off, none⟩) j c1, .slice b1 m1 d1], .int .i64 (i0 : Int)] z fun e w' => ∃ a n c b m d, e = .returned (.tuple #[.agg #[.slice a n c, .slice b m d], .bool true]) ∧ Vl w' a n b m q.1.tail X ∧ (∀ p, b = some p → wr.heap.size ≤ p.block) ∧ Below wr.heap.size wr w' ∧ Below z.heap.size z w') := Lib.hid fun z hz => (KT2 z (h.out.2.2.2.trans (hz.mono h.out.2.2.2.size)) i0 hi0).mono fun e w' k => by
                  obtain ⟨a, n, c, b, m, d, k1, k2, k3, k4⟩ := k
                  exact ⟨a, n, c, b, m, d, k1, by rw [hX]; exact k2, fun p hp => Nat.le_trans hz.size (k4 p hp), hz.trans (k3.mono hz.size), k3⟩
                have HST := Lib.hid (And.intro hst (And.intro hp1 hp2))
                have hC4 : P.length + K ≤ 4096 := by rw [hp1]; rw [Nat.add_mul, Nat.one_mul] at h41; exact h41
                clear hst hp1 hp2 hi0 h41 hP hX KT2
                have lck := World.block_lt_of_cell? wr _ hck
                have uv := h.out.2.2.1.c0
                have vv := h.out.2.2.1.c1
                have lv := h.out.2.2.1.lt
                have HO := Lib.hid hO1
                have HW := Lib.hid ho1
                have HS1 := Lib.hid hS1
                have HBW := Lib.hid hb1
                have hq : Below wr.heap.size wr wr := Below.refl _ _
                have hqz := hq.size
                clear hO1 ho1 hS1 hb1 h
                go_wp2_with fail
                go_cut [14, 15] from 88 to 108 (fun p q' wx => ICut q.1.tail X wr p q' wx)
                case first =>
                  go_region_held3 (fun w' => w'.cell? ⟨W.heap.size, 0, none⟩ = some (.slice (some ⟨bb, off, none⟩) j c1) ∧ w'.cell? ⟨W.heap.size, 1, none⟩ = some (.slice b1 m1 d1) ∧ w'.cell? ⟨bl, ol + k, none⟩ = some (.int .i64 (i0 : Int)))
                    (first | exact ⟨(Below.cell (p := ⟨W.heap.size, 0, none⟩) (by repeat' (first | exact hq | refine Below.drew ?_ | refine below_drewN ?_ _ | refine Below.alloc ?_ ?_ _ | refine Below.setCell ?_ ?_ _ | exact hqz | exact Nat.le_refl _ | omega | (simp; done) | (simp; omega))) lv).trans uv, (Below.cell (p := ⟨W.heap.size, 1, none⟩) (by repeat' (first | exact hq | refine Below.drew ?_ | refine below_drewN ?_ _ | refine Below.alloc ?_ ?_ _ | refine Below.setCell ?_ ?_ _ | exact hqz | exact Nat.le_refl _ | omega | (simp; done) | (simp; omega))) lv).trans vv, (Below.cell (p := ⟨bl, ol + k, none⟩) (by repeat' (first | exact hq | refine Below.drew ?_ | refine below_drewN ?_ _ | refine Below.alloc ?_ ?_ _ | refine Below.setCell ?_ ?_ _ | exact hqz | exact Nat.le_refl _ | omega | (simp; done) | (simp; omega))) lck).trans hck⟩ | fail)
                    (first
                      | (go_at_call 45; (with_reducible refine (Q1.out _ (by repeat' (first | exact hq | refine Below.drew ?_ | refine below_drewN ?_ _ | refine Below.alloc ?_ ?_ _ | refine Below.setCell ?_ ?_ _ | exact hqz | exact Nat.le_refl _ | omega | (simp; done) | (simp; omega)))).mono ?_); rintro e wa ⟨a', n', c', b', m', d', rfl, hv', hf', hq, hr⟩; have hqz := hq.size; (try (have hZ1 := Bx.on (by first | exact Bz.d _ _ | exact Bz.e _ _ | exact Bz.f _ _ | exact Bz.g _ _ | exact Bz.h _ _ | exact Bz.i _ _ | exact Bz.j _ _ | exact Bz.k _ _ | exact Bz.a _ | exact Bz.b _ | exact Bz.c _ | exact Bz.l _) hr; have y0 := hZ1.c0; have y1 := hZ1.c1; have g0 := hZ1.f 0; have g1 := hZ1.f 1)))
                      | fail)
                  all_goals
                    go_wp2_with fail
                    go_meet
                    case rel => with_reducible first | exact ICut.new hq hv' hf' | (refine ICut.set hq hv' hf' hZ1 ?_ <;> first | exact Nat.le_refl _ | exact hqz | omega | (simp; done) | (simp; omega))
                case rest =>
                  clear hq hqz Q1 uv vv lv hck lck
                  obtain ⟨gx, ax, nx, cx, bx, mx, dx, rfl, rfl, hX, hV, hgx, hfx, hbc⟩ := hcut
                  have hOX := HO.out.below hbc HO.out.lt
                  have hWX := own_below HW.out hbc
                  have hSX := HS1.out.below hbc
                  have hbW := HBW.out.trans (hbc.mono HBW.out.size)
                  have hbX : B2 ≤ wc.heap.size := Nat.le_trans hB1 hbc.size
                  have hm : mx = K := by rw [← HST.out.2.2]; exact hV.t.1.symm
                  subst hm
                  have hgne : wo.heap.size ≠ gx := by have := HO.out.lt; omega
                  have hX1 := hX.c1
                  have z1 := hOX.c1
                  have lOX := hOX.lt
                  obtain ⟨C, hC⟩ : ∃ C, C = P.length := ⟨_, rfl⟩
                  rw [← hC] at hOX hWX hC4 z1
                  have HC := Lib.hid hC
                  have hrd := Lib.hid hV.t.rd
                  have HOX := Lib.hid hOX
                  have HWX := Lib.hid hWX
                  have HSX := Lib.hid hSX
                  have HBX := Lib.hid hbW
                  clear hOX hWX hSX hbW HO HW HS1 HBW hC hfx hbc hB1 hV hX
                  go_upto_region 22 with (at_builtin; refine wpList_append_rd rfl (.tmp 104) (.tmp 106) 23 rfl B2 9 (.string ⟨#[]⟩) 16 Tryz.underlying23 infoStr rfl (by decide) _ C (valsS P) rfl HWX.out _ mx dx (valsS X) rfl hrd.out (valsS_one _) (by omega) hbX ?_; intro av' cv' w9 hown9 hg9; have hO9 := Bx.grownV HWX.out (by decide) hg9 HOX.out; have z2 := hO9.c1; have g2 := hO9.f 1)
                  rw [valsS_add, ← HST.out.1] at hown9
                  have hb10 := HBX.out.trans ((own_grown HWX.out hg9 hbX).mono (by omega))
                  have hS9 := HSX.out.grown_far hg9 (fun p hp h0 e => by have h5 := (HWX.out.lt _ e.symm).1; have h6 := hsb.out p hp; omega)
                  have hlen : (its (q.2.map S) mx ((natL r.2).take (k + 1))).length = C + mx := by rw [HST.out.1, List.length_append, HST.out.2.2, HC.out]
                  have hO11 := Lib.hid (hO9.set1 av' (C + mx) cv')
                  have hr11 := Lib.hid (own_set_bx hown9 (by decide) hO9 1 (.slice av' (C + mx) cv'))
                  have hS11 := Lib.hid (hO9.sl1 hS9 (.inr rfl) (.slice av' (C + mx) cv'))
                  have hb11 := Lib.hid (hb10.setCell (p := ⟨wo.heap.size, 1, none⟩) (Nat.le_refl _) (.slice av' (C + mx) cv'))
                  have hz9 : B2 ≤ w9.heap.size := Nat.le_trans hbX hg9.size
                  clear hO9 hg9 hown9 hb10 z1 z2 g2 HOX HWX HSX HBX hrd hX1 hS9
                  go_wp2_with fail
                  go_roundw
                  case rel => exact ⟨k + 1, av', cv', by go_num, by omega, by rw [hlen]; exact hO11.out, by rw [hlen]; exact hr11.out, hS11.out, hb11.out, by simpa using hz9⟩
                  case measure => simp [intOf]; omega
              · have e2 : ¬ (k : Int) < (m2 : Int) := by omega
                obtain rfl : k = m2 := by omega
                rw [List.take_of_length_le (by rw [HLN.out]; exact Nat.le_refl _), HMAP.out] at hO1 ho1
                have x0 := hO1.c0
                have x1 := hO1.c1
                have hst := Lib.hid (own_st ho1)
                have hcp2 := Lib.hid (own_caps ho1)
                have hV : Hid (Vl wr av N bv ((its q.2 K (natL r.2)).map S).length (TS (some (SH, its q.2 K (natL r.2)))).1 (TS (some (SH, its q.2 K (natL r.2)))).2) := Lib.hid ⟨hS1, hst.out, by
                  have h9 := HRK.out.2.1
                  have h8 := (szE_may.1 HRK.out.1).pr
                  rw [List.length_map]
                  have h7 : (((its q.2 K (natL r.2)).length : Nat) : Int) ≤ 4096 := by
                    refine Int.le_trans (Int.le_of_eq h9) ?_
                    exact h8
                  omega⟩
                clear hO1 ho1 hS1 hb1
                generalize ((its q.2 K (natL r.2)).map S).length = NB at *
                have y0 := h.out.1.c0
                have y3 := h.out.1.c1
                have f0 := h.out.1.f 0
                have f1 := h.out.1.f 1
                go_wp2_with fail
                have hR := h.out.1.set av N cv bv NB dv
                have r0 := hR.c0
                have r1 := hR.c1
                exact bodyPost_ret (v := .tuple #[.agg #[.slice av N cv, .slice bv NB dv], .int .i64 0]) (by simp [results, Tryz.results19, go_sem, r0, r1]) rfl (by
                  rw [HRR.out]
                  exact mend_box (r := (some (SH, its q.2 K (natL r.2)), 0)) h.out.1 h.out.2.2.2 (by omega) hV.out ⟨hcp.out.1, hcp.out.2, hcp2.out.1, hcp2.out.2⟩ HRK.out)
          · have HG := Lib.hid (HZ.out hE0)
            have hk : (E != 0) = true := by simpa using hE0
            clear HSL HY HZ KZ z0 hO
            have y0 := h.out.1.c0
            have y3 := h.out.1.c1
            have f0 := h.out.1.f 0
            have f1 := h.out.1.f 1
            go_wp2_with fail
            have hR := h.out.1.set none 0 0 none 0 0
            have r0 := hR.c0
            have r1 := hR.c1
            exact bodyPost_ret (v := .tuple #[.agg #[.slice none 0 0, .slice none 0 0], .int .i64 E]) (by simp [results, Tryz.results19, go_sem, r0, r1]) rfl (by rw [HG.out]; exact mend_no h.out.1 h.out.2.2.2 (by omega))
theorem rIndex_is {a1 b1 a2 b2 : Option Addr} {n1 c1 m1 d1 n2 c2 m2 d2 : Nat} {l m : List Int} {es fs : List ByteArray} {W : World} {o p : Option Ar} (h1 : Av W a1 n1 c1 b1 m1 d1 l es o) (h2 : Av W a2 n2 c2 b2 m2 d2 m fs p) : Calls Tryz.prog 19 #[.agg #[.slice a1 n1 c1, .slice b1 m1 d1], .agg #[.slice a2 n2 c2, .slice b2 m2 d2]] W (MEnd (ixK o p) W) := by
  cases o with
  | none => rw [ix_1]; exact rix_1 (m := m) (fs := fs) h1
  | some q =>
  cases p with
  | none => rw [ix_2]; exact rix_2 h1 h2
  | some r =>
    have hl := h1.v.s.1
    by_cases h0 : q.1 = []
    · rw [ix_3 r h0]; exact rix_3 h1 h2 (by rw [← hl, ← h1.fst, h0]; rfl)
    · have hn : 0 < n1 := by
        rw [← hl, ← h1.fst]
        exact List.length_pos_iff.2 h0
      by_cases hp : plE r (q.1.getD 0 0) = 0
      · exact rix_5 h1 h2 hn h0 hp
      · exact rix_4 h1 h2 hn h0 hp
end Go.Proofs.YtpledghphljfkaaGreatDoor

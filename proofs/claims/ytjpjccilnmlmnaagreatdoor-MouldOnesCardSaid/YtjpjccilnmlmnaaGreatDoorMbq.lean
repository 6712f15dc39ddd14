import Derived.Test.YtjpjccilnmlmnaaGreatDoorMbn
/-
  The reference's Reshape, by its contract.
-/
namespace Go.Proofs.YtjpjccilnmlmnaaGreatDoor
set_option linter.unusedVariables false
set_option linter.unusedSimpArgs false
open Go.RowKit

set_option maxRecDepth 100000 in
set_option maxHeartbeats 3200000 in
theorem rrs_1 {a1 b1 a2 b2 : Option Addr} {n1 c1 m1 d1 n2 c2 m2 d2 : Nat} {l m : List Int} {es fs : List ByteArray} {W : World} (h1 : Av W a1 n1 c1 b1 m1 d1 l es none) :
    Calls Tryz.prog 21 #[.agg #[.slice a1 n1 c1, .slice b1 m1 d1], .agg #[.slice a2 n2 c2, .slice b2 m2 d2]] W (MEnd (none, 1) W) := by
  have KV := Lib.hid (fun w (hb : Below W.heap.size W w) => rMay_av (h1.below hb))
  clear h1
  have h := live2 W a1 n1 c1 b1 m1 d1 a2 n2 c2 b2 m2 d2
  go_enter Tryz.func21, Tryz.ntmps21
  have x1 := h.out.2.2.1.c0
  have y1 := h.out.2.2.1.c1
  go_wp2_with fail
  with_reducible refine (live h (KV.out _ h.out.2.2.2)).mono ?_
  clear h x1 y1
  rintro e w ⟨rfl, h⟩
  have y0 := h.out.1.c0
  have y3 := h.out.1.c1
  have f0 := h.out.1.f 0
  have f1 := h.out.1.f 1
  go_wp2_with fail
  have hR := h.out.1.set none 0 0 none 0 0
  have r0 := hR.c0
  have r1 := hR.c1
  exact bodyPost_ret (v := .tuple #[.agg #[.slice none 0 0, .slice none 0 0], .int .i64 1]) (by simp [results, Tryz.results21, go_sem, r0, r1]) rfl (mend_no h.out.1 h.out.2.2.2 (by omega))
set_option maxRecDepth 100000 in
set_option maxHeartbeats 3200000 in
theorem rrs_2 {a1 b1 a2 b2 : Option Addr} {n1 c1 m1 d1 n2 c2 m2 d2 : Nat} {l m : List Int} {es fs : List ByteArray} {W : World} {q : Ar} (h1 : Av W a1 n1 c1 b1 m1 d1 l es (some q)) (h2 : Av W a2 n2 c2 b2 m2 d2 m fs none) :
    Calls Tryz.prog 21 #[.agg #[.slice a1 n1 c1, .slice b1 m1 d1], .agg #[.slice a2 n2 c2, .slice b2 m2 d2]] W (MEnd (none, 1) W) := by
  have KV := Lib.hid (fun w (hb : Below W.heap.size W w) => rMay_av (h1.below hb))
  have KU := Lib.hid (fun w (hb : Below W.heap.size W w) => rMay_av (h2.below hb))
  clear h1 h2
  have h := live2 W a1 n1 c1 b1 m1 d1 a2 n2 c2 b2 m2 d2
  go_enter Tryz.func21, Tryz.ntmps21
  have x1 := h.out.2.2.1.c0
  have y1 := h.out.2.2.1.c1
  go_wp2_with fail
  with_reducible refine (live h (KV.out _ h.out.2.2.2)).mono ?_
  clear h x1 y1
  rintro e w ⟨rfl, h⟩
  have x2 := h.out.2.1.c0
  have y2 := h.out.2.1.c1
  go_wp2_with fail
  with_reducible refine (live h (KU.out _ h.out.2.2.2)).mono ?_
  clear h x2 y2
  rintro e w ⟨rfl, h⟩
  have y0 := h.out.1.c0
  have y3 := h.out.1.c1
  have f0 := h.out.1.f 0
  have f1 := h.out.1.f 1
  go_wp2_with fail
  have hR := h.out.1.set none 0 0 none 0 0
  have r0 := hR.c0
  have r1 := hR.c1
  exact bodyPost_ret (v := .tuple #[.agg #[.slice none 0 0, .slice none 0 0], .int .i64 1]) (by simp [results, Tryz.results21, go_sem, r0, r1]) rfl (mend_no h.out.1 h.out.2.2.2 (by omega))
set_option maxRecDepth 100000 in
set_option maxHeartbeats 3200000 in
theorem rrs_3 {a1 b1 a2 b2 : Option Addr} {n1 c1 m1 d1 n2 c2 m2 d2 : Nat} {l m : List Int} {es fs : List ByteArray} {W : World} {q r : Ar} (h1 : Av W a1 n1 c1 b1 m1 d1 l es (some q)) (h2 : Av W a2 n2 c2 b2 m2 d2 m fs (some r)) (hn : 1 < n1) :
    Calls Tryz.prog 21 #[.agg #[.slice a1 n1 c1, .slice b1 m1 d1], .agg #[.slice a2 n2 c2, .slice b2 m2 d2]] W (MEnd (none, 3) W) := by
  have KV := Lib.hid (fun w (hb : Below W.heap.size W w) => rMay_av (h1.below hb))
  have KU := Lib.hid (fun w (hb : Below W.heap.size W w) => rMay_av (h2.below hb))
  have hn1 : (1 : Int) < (n1 : Int) := by omega
  clear h1 h2 hn
  have h := live2 W a1 n1 c1 b1 m1 d1 a2 n2 c2 b2 m2 d2
  go_enter Tryz.func21, Tryz.ntmps21
  have x1 := h.out.2.2.1.c0
  have y1 := h.out.2.2.1.c1
  go_wp2_with fail
  with_reducible refine (live h (KV.out _ h.out.2.2.2)).mono ?_
  clear h x1 y1
  rintro e w ⟨rfl, h⟩
  have x2 := h.out.2.1.c0
  have y2 := h.out.2.1.c1
  go_wp2_with fail
  with_reducible refine (live h (KU.out _ h.out.2.2.2)).mono ?_
  clear h x2 y2
  rintro e w ⟨rfl, h⟩
  have x1 := h.out.2.2.1.c0
  have y1 := h.out.2.2.1.c1
  have y0 := h.out.1.c0
  have y3 := h.out.1.c1
  have f0 := h.out.1.f 0
  have f1 := h.out.1.f 1
  go_wp2_with fail
  have hR := h.out.1.set none 0 0 none 0 0
  have r0 := hR.c0
  have r1 := hR.c1
  exact bodyPost_ret (v := .tuple #[.agg #[.slice none 0 0, .slice none 0 0], .int .i64 3]) (by simp [results, Tryz.results21, go_sem, r0, r1]) rfl (mend_no h.out.1 h.out.2.2.2 (by omega))
set_option maxRecDepth 100000 in
set_option maxHeartbeats 3200000 in
theorem rrs_4 {a1 b1 a2 b2 : Option Addr} {n1 c1 m1 d1 n2 c2 m2 d2 : Nat} {l m : List Int} {es fs : List ByteArray} {W : World} {q r : Ar} (h1 : Av W a1 n1 c1 b1 m1 d1 l es (some q)) (h2 : Av W a2 n2 c2 b2 m2 d2 m fs (some r)) (hn : n1 ≤ 1) (hal : q.2.all nearM = false) :
    Calls Tryz.prog 21 #[.agg #[.slice a1 n1 c1, .slice b1 m1 d1], .agg #[.slice a2 n2 c2, .slice b2 m2 d2]] W (MEnd (none, 5) W) := by
  have KV := Lib.hid (fun w (hb : Below W.heap.size W w) => rMay_av (h1.below hb))
  have KU := Lib.hid (fun w (hb : Below W.heap.size W w) => rMay_av (h2.below hb))
  have hn1 : ¬ ((1 : Int) < (n1 : Int)) := by omega
  have KA := Lib.hid (fun w (hb : Below W.heap.size W w) => rAll_av (c := c1) (d := d1) (s := l) w (by have := h1.v; rw [h1.i.2.1] at this; exact this.below hb) h1.i.2.2.2 (by have := h1.mlen.2.2; omega))
  have hal2 := Lib.hid hal
  clear h1 h2 hn hal
  have h := live2 W a1 n1 c1 b1 m1 d1 a2 n2 c2 b2 m2 d2
  go_enter Tryz.func21, Tryz.ntmps21
  have x1 := h.out.2.2.1.c0
  have y1 := h.out.2.2.1.c1
  go_wp2_with fail
  with_reducible refine (live h (KV.out _ h.out.2.2.2)).mono ?_
  clear h x1 y1
  rintro e w ⟨rfl, h⟩
  have x2 := h.out.2.1.c0
  have y2 := h.out.2.1.c1
  go_wp2_with fail
  with_reducible refine (live h (KU.out _ h.out.2.2.2)).mono ?_
  clear h x2 y2
  rintro e w ⟨rfl, h⟩
  have x1 := h.out.2.2.1.c0
  have y1 := h.out.2.2.1.c1
  go_wp2_with fail
  refine (live_al h (KA.out _ h.out.2.2.2)).mono ?_
  clear h x1 y1
  rintro e w ⟨aa, na, ca, z, rfl, hz, h⟩
  have hz5 : z = 5 := by
    rcases hz with ⟨g, _⟩ | ⟨_, g⟩
    · rw [hal2.out] at g; cases g
    · exact g
  subst hz5
  clear hz
  have y0 := h.out.1.c0
  have y3 := h.out.1.c1
  have f0 := h.out.1.f 0
  have f1 := h.out.1.f 1
  go_wp2_with fail
  have hR := h.out.1.set none 0 0 none 0 0
  have r0 := hR.c0
  have r1 := hR.c1
  exact bodyPost_ret (v := .tuple #[.agg #[.slice none 0 0, .slice none 0 0], .int .i64 5]) (by simp [results, Tryz.results21, go_sem, r0, r1]) rfl (mend_no h.out.1 h.out.2.2.2 (by omega))
set_option maxRecDepth 100000 in
set_option maxHeartbeats 3200000 in
theorem rrs_5 {a1 b1 a2 b2 : Option Addr} {n1 c1 m1 d1 n2 c2 m2 d2 : Nat} {l m : List Int} {es fs : List ByteArray} {W : World} {q r : Ar} (h1 : Av W a1 n1 c1 b1 m1 d1 l es (some q)) (h2 : Av W a2 n2 c2 b2 m2 d2 m fs (some r)) (hn : n1 ≤ 1) (hal : q.2.all nearM = true) (hz : szE q.2 ≠ 0) :
    Calls Tryz.prog 21 #[.agg #[.slice a1 n1 c1, .slice b1 m1 d1], .agg #[.slice a2 n2 c2, .slice b2 m2 d2]] W (MEnd (none, szE q.2) W) := by
  have KV := Lib.hid (fun w (hb : Below W.heap.size W w) => rMay_av (h1.below hb))
  have KU := Lib.hid (fun w (hb : Below W.heap.size W w) => rMay_av (h2.below hb))
  have hn1 : ¬ ((1 : Int) < (n1 : Int)) := by omega
  have KA := Lib.hid (fun w (hb : Below W.heap.size W w) => rAll_av (c := c1) (d := d1) (s := l) w (by have := h1.v; rw [h1.i.2.1] at this; exact this.below hb) h1.i.2.2.2 (by have := h1.mlen.2.2; omega))
  have hal2 := Lib.hid hal
  have KZ := Lib.hid (fun w a n c (hs : Sl w a n q.2) => rSize_is a n c q.2 w hs)
  unfold SizeIs at KZ
  rw [szV_zero hz] at KZ
  generalize szE q.2 = E at *
  have hE : (E != 0) = true := by simpa using hz
  clear h1 h2 hn hal hz
  have h := live2 W a1 n1 c1 b1 m1 d1 a2 n2 c2 b2 m2 d2
  go_enter Tryz.func21, Tryz.ntmps21
  have x1 := h.out.2.2.1.c0
  have y1 := h.out.2.2.1.c1
  go_wp2_with fail
  with_reducible refine (live h (KV.out _ h.out.2.2.2)).mono ?_
  clear h x1 y1
  rintro e w ⟨rfl, h⟩
  have x2 := h.out.2.1.c0
  have y2 := h.out.2.1.c1
  go_wp2_with fail
  with_reducible refine (live h (KU.out _ h.out.2.2.2)).mono ?_
  clear h x2 y2
  rintro e w ⟨rfl, h⟩
  have x1 := h.out.2.2.1.c0
  have y1 := h.out.2.2.1.c1
  go_wp2_with fail
  refine (live_al h (KA.out _ h.out.2.2.2)).mono ?_
  clear h x1 y1
  rintro e w ⟨aa, na, ca, z, rfl, hz, h⟩
  obtain ⟨hz5, hna, hsa, hca, hcm⟩ : z = 0 ∧ na = q.2.length ∧ Sl w aa na q.2 ∧ na ≤ ca ∧ ca ≤ maxLen := by
    rcases hz with ⟨_, g1, g2, g3, g4, g5⟩ | ⟨g, _⟩
    · exact ⟨g1, g2, g3, g4, g5⟩
    · rw [hal2.out] at g; cases g
  subst hz5
  have HS := Lib.hid (And.intro hna (And.intro hsa (And.intro hca hcm)))
  clear hz hna hsa hca hcm
  go_wp2_with fail
  refine (KZ.out _ _ _ _ HS.out.2.1).mono ?_
  rintro e w9 ⟨rfl, rfl⟩
  have y0 := h.out.1.c0
  have y3 := h.out.1.c1
  have f0 := h.out.1.f 0
  have f1 := h.out.1.f 1
  go_wp2_with fail
  have hR := h.out.1.set none 0 0 none 0 0
  have r0 := hR.c0
  have r1 := hR.c1
  exact bodyPost_ret (v := .tuple #[.agg #[.slice none 0 0, .slice none 0 0], .int .i64 E]) (by simp [results, Tryz.results21, go_sem, r0, r1]) rfl (mend_no h.out.1 h.out.2.2.2 (by omega))
set_option maxRecDepth 100000 in
set_option maxHeartbeats 3200000 in
theorem rrs_6 {a1 b1 a2 b2 : Option Addr} {n1 c1 m1 d1 n2 c2 m2 d2 : Nat} {l m : List Int} {es fs : List ByteArray} {W : World} {q r : Ar} (h1 : Av W a1 n1 c1 b1 m1 d1 l es (some q)) (h2 : Av W a2 n2 c2 b2 m2 d2 m fs (some r)) (hn : n1 ≤ 1) (hal : q.2.all nearM = true) (hz : szE q.2 = 0) (hpn : pr q.2 ≠ 0) (he : r.2 = []) :
    Calls Tryz.prog 21 #[.agg #[.slice a1 n1 c1, .slice b1 m1 d1], .agg #[.slice a2 n2 c2, .slice b2 m2 d2]] W (MEnd (none, 5) W) := by
  have KV := Lib.hid (fun w (hb : Below W.heap.size W w) => rMay_av (h1.below hb))
  have KU := Lib.hid (fun w (hb : Below W.heap.size W w) => rMay_av (h2.below hb))
  have hn1 : ¬ ((1 : Int) < (n1 : Int)) := by omega
  have KA := Lib.hid (fun w (hb : Below W.heap.size W w) => rAll_av (c := c1) (d := d1) (s := l) w (by have := h1.v; rw [h1.i.2.1] at this; exact this.below hb) h1.i.2.2.2 (by have := h1.mlen.2.2; omega))
  have hal2 := Lib.hid hal
  have KZ := Lib.hid (fun w a n c (hs : Sl w a n q.2) => rSize_is a n c q.2 w hs)
  unfold SizeIs at KZ
  rw [szV_pr hz, hz] at KZ
  have hp0 := (may_pr hz).1
  generalize pr q.2 = p at *
  have hp : (0 : Int) < p := by omega
  have hm : (m2 : Int) = 0 := by have := h2.mlen.1; rw [he] at this; simp at this; omega
  clear h1 h2 hn hal hz hp0 hpn he
  have h := live2 W a1 n1 c1 b1 m1 d1 a2 n2 c2 b2 m2 d2
  go_enter Tryz.func21, Tryz.ntmps21
  have x1 := h.out.2.2.1.c0
  have y1 := h.out.2.2.1.c1
  go_wp2_with fail
  with_reducible refine (live h (KV.out _ h.out.2.2.2)).mono ?_
  clear h x1 y1
  rintro e w ⟨rfl, h⟩
  have x2 := h.out.2.1.c0
  have y2 := h.out.2.1.c1
  go_wp2_with fail
  with_reducible refine (live h (KU.out _ h.out.2.2.2)).mono ?_
  clear h x2 y2
  rintro e w ⟨rfl, h⟩
  have x1 := h.out.2.2.1.c0
  have y1 := h.out.2.2.1.c1
  go_wp2_with fail
  refine (live_al h (KA.out _ h.out.2.2.2)).mono ?_
  clear h x1 y1
  rintro e w ⟨aa, na, ca, z, rfl, hz, h⟩
  obtain ⟨hz5, hna, hsa, hca, hcm⟩ : z = 0 ∧ na = q.2.length ∧ Sl w aa na q.2 ∧ na ≤ ca ∧ ca ≤ maxLen := by
    rcases hz with ⟨_, g1, g2, g3, g4, g5⟩ | ⟨g, _⟩
    · exact ⟨g1, g2, g3, g4, g5⟩
    · rw [hal2.out] at g; cases g
  subst hz5
  have HS := Lib.hid (And.intro hna (And.intro hsa (And.intro hca hcm)))
  clear hz hna hsa hca hcm
  have x2 := h.out.2.1.c0
  have y2 := h.out.2.1.c1
  go_wp2_with fail
  refine (KZ.out _ _ _ _ HS.out.2.1).mono ?_
  rintro e w9 ⟨rfl, rfl⟩
  have y0 := h.out.1.c0
  have y3 := h.out.1.c1
  have f0 := h.out.1.f 0
  have f1 := h.out.1.f 1
  go_wp2_with fail
  have hR := h.out.1.set none 0 0 none 0 0
  have r0 := hR.c0
  have r1 := hR.c1
  exact bodyPost_ret (v := .tuple #[.agg #[.slice none 0 0, .slice none 0 0], .int .i64 5]) (by simp [results, Tryz.results21, go_sem, r0, r1]) rfl (mend_no h.out.1 h.out.2.2.2 (by omega))
theorem mod_next {i m : Nat} (hm : 0 < m) : (i + 1) % m = if i % m + 1 = m then 0 else i % m + 1 := by
  have h1 := Nat.div_add_mod i m
  have h2 := Nat.mod_lt i hm
  split
  · rename_i h
    rw [show i + 1 = m * (i / m + 1) by rw [Nat.mul_add, Nat.mul_one]; omega, Nat.mul_mod_right]
  · rename_i h
    rw [show i + 1 = m * (i / m) + (i % m + 1) by omega, Nat.mul_add_mod, Nat.mod_eq_of_lt (by omega)]
theorem cy_snoc (es : List Int) (i : Nat) : cyM es (i + 1) = cyM es i ++ [es.getD (i % es.length) 0] := by
  simp [cyM, List.range_succ]
set_option maxRecDepth 100000 in
set_option maxHeartbeats 3200000 in
theorem rrs_7 {a1 b1 a2 b2 : Option Addr} {n1 c1 m1 d1 n2 c2 m2 d2 : Nat} {l m : List Int} {es fs : List ByteArray} {W : World} {q r : Ar} (h1 : Av W a1 n1 c1 b1 m1 d1 l es (some q)) (h2 : Av W a2 n2 c2 b2 m2 d2 m fs (some r)) (hn : n1 ≤ 1) (hal : q.2.all nearM = true) (hz : szE q.2 = 0) (h0 : ¬ (pr q.2 ≠ 0 ∧ r.2 = [])) :
    Calls Tryz.prog 21 #[.agg #[.slice a1 n1 c1, .slice b1 m1 d1], .agg #[.slice a2 n2 c2, .slice b2 m2 d2]] W (MEnd (some (q.2, cyM r.2 (pr q.2).toNat), 0) W) := by
  have KV := Lib.hid (fun w (hb : Below W.heap.size W w) => rMay_av (h1.below hb))
  have KU := Lib.hid (fun w (hb : Below W.heap.size W w) => rMay_av (h2.below hb))
  have hn1 : ¬ ((1 : Int) < (n1 : Int)) := by omega
  have KA := Lib.hid (fun w (hb : Below W.heap.size W w) => rAll_av (c := c1) (d := d1) (s := l) w (by have := h1.v; rw [h1.i.2.1] at this; exact this.below hb) h1.i.2.2.2 (by have := h1.mlen.2.2; omega))
  have hal2 := Lib.hid hal
  have KZ := Lib.hid (fun w a n c (hs : Sl w a n q.2) => rSize_is a n c q.2 w hs)
  unfold SizeIs at KZ
  rw [szV_pr hz, hz] at KZ
  have hp0 := may_pr hz
  have HR := Lib.hid (rs_rok hz h2.i.rok h0)
  obtain ⟨z, hzz⟩ : ∃ z : Nat, z = (pr q.2).toNat := ⟨_, rfl⟩
  have hpz : pr q.2 = (z : Int) := by omega
  have hz4 : z ≤ 4096 := by omega
  rw [hpz] at KZ
  rw [← hzz] at HR ⊢
  obtain ⟨hm1, hmp, hm4⟩ := h2.mlen
  clear hmp
  have hmd := h2.c.md
  have hzm : z = 0 ∨ 0 < m2 := by
    rcases Nat.eq_zero_or_pos z with g | g
    · exact .inl g
    · refine .inr ?_
      rcases Nat.eq_zero_or_pos m2 with g2 | g2
      · exact absurd ⟨by omega, List.length_eq_zero_iff.1 (hm1.symm.trans g2)⟩ h0
      · exact g2
  have KT := Lib.hid (fun w (hb : Below W.heap.size W w) => (h2.v.t.below hb : St w b2 m2 fs))
  have HE := Lib.hid (And.intro h2.i.2.1 hm1)
  clear h1 h2 hn hal hz h0 hp0 hpz hzz hm1
  have h := live2 W a1 n1 c1 b1 m1 d1 a2 n2 c2 b2 m2 d2
  go_enter Tryz.func21, Tryz.ntmps21
  have x1 := h.out.2.2.1.c0
  have y1 := h.out.2.2.1.c1
  go_wp2_with fail
  with_reducible refine (live h (KV.out _ h.out.2.2.2)).mono ?_
  clear h x1 y1
  rintro e w ⟨rfl, h⟩
  have x2 := h.out.2.1.c0
  have y2 := h.out.2.1.c1
  go_wp2_with fail
  with_reducible refine (live h (KU.out _ h.out.2.2.2)).mono ?_
  clear h x2 y2
  rintro e w ⟨rfl, h⟩
  have x1 := h.out.2.2.1.c0
  have y1 := h.out.2.2.1.c1
  go_wp2_with fail
  refine (live_al h (KA.out _ h.out.2.2.2)).mono ?_
  clear h x1 y1
  rintro e w ⟨aa, na, ca, zz, rfl, hz, h⟩
  obtain ⟨hz5, hna, hsa, hca, hcm⟩ : zz = 0 ∧ na = q.2.length ∧ Sl w aa na q.2 ∧ na ≤ ca ∧ ca ≤ maxLen := by
    rcases hz with ⟨_, g1, g2, g3, g4, g5⟩ | ⟨g, _⟩
    · exact ⟨g1, g2, g3, g4, g5⟩
    · rw [hal2.out] at g; cases g
  subst hz5
  have HS := Lib.hid (And.intro hna (And.intro hsa (And.intro hca hcm)))
  clear hz hna hsa hca hcm
  have x2 := h.out.2.1.c0
  have y2 := h.out.2.1.c1
  go_wp2_with fail
  refine (KZ.out _ _ _ _ HS.out.2.1).mono ?_
  rintro e w9 ⟨rfl, rfl⟩
  have hzc : ((0 : Int) < (z : Int) ∧ ((m2 : Int) == 0) = false) ∨ ¬ ((0 : Int) < (z : Int)) := by
    by_cases g : 0 < z
    · exact .inl ⟨by omega, beq_eq_false_iff_ne.2 (by omega)⟩
    · exact .inr (by omega)
  rcases hzc with ⟨hz1, hz2⟩ | hz1
  ·
    have lW := h.out.2.1.lt
    go_wp2_with fail
    have hO := Bx.new w aa na ca none 0 0
    have hbO : Below w.heap.size w (w.alloc (.cells #[.slice aa na ca, .slice none 0 0] 25)) := (Below.refl _ _).alloc (Nat.le_refl _) _
    clear x2 y2
    go_loopw [11, 12] (fun kv iv wr => ∃ (i : Nat) (bv : Option Addr) (dv : Nat), kv = .int .i64 ((i % m2 : Nat) : Int) ∧ iv = .int .i64 i ∧ i ≤ z ∧ Bx wr w.heap.size aa na ca bv i dv ∧ wr.ownsRow (w.heap.size + 1) 9 1 (.slice bv i dv) i (valsS ((cyM r.2 i).map S)) ∧ Below w.heap.size w wr) (fun _ iv _ => z - (intOf iv).toNat)
    case atStart => exact ⟨0, none, 0, by rw [Nat.zero_mod]; rfl, rfl, by omega, hO, World.ownsRow_nil _ _ _ _, hbO⟩
    case round =>
      obtain ⟨i, bv, dv, rfl, rfl, hi, hO1, ho1, hb1⟩ := hrel
      clear hO hbO
      replace h := live_belS h hb1 (Nat.le_refl _)
      by_cases hlt : i < z
      · have hm0 : 0 < m2 := by rcases hzm with g | g; exact absurd g (by omega); exact g
        have e2 : (i : Int) < (z : Int) := by omega
        obtain ⟨k, hk⟩ : ∃ k, k = i % m2 := ⟨_, rfl⟩
        have hkm : k < m2 := by rw [hk]; exact Nat.mod_lt _ hm0
        have hnext := mod_next (i := i) hm0
        rw [← hk] at hnext ⊢
        have HN := Lib.hid (show valsS ((cyM r.2 (i + 1)).map S) = valsS ((cyM r.2 i).map S) ++ [.string (S (r.2.getD k 0))] by
          rw [cy_snoc, ← HE.out.2, ← hk]; exact valsS_map_snoc _ _)
        obtain ⟨bb, off, rfl, hc⟩ := (KT.out wr h.out.2.2.2).2 hm0
        have hck := hc k hkm
        rw [HE.out.1, getD_S (by rw [← HE.out.2]; exact hkm)] at hck
        generalize S (r.2.getD k 0) = x at *
        have x2 := h.out.2.1.c0
        have y2 := h.out.2.1.c1
        have u1 := hO1.c1
        have lO := hO1.lt
        have lV := h.out.2.1.lt
        have HO := Lib.hid hO1
        have HR1 := Lib.hid ho1
        have HB := Lib.hid hb1
        have HX := Lib.hid h.out.2.1
        have HNX := Lib.hid hnext
        clear hO1 ho1 hb1 hc hk hnext h hzm
        go_wp2_with fail
        go_region_law (refine stepS wr (w.heap.size + 1) (.tmp 62) (.tmp 68) bv i dv _ x rfl rfl rfl rfl rfl rfl rfl rfl HR1.out (by omega) (by omega) ?_; intro av' cv' w9 hown9 hg9 _; have hO9 := Bx.grownV HR1.out (by decide) hg9 HO.out; have z1 := hO9.c1; have g2 := hO9.f 1)
        all_goals
          rw [← HN.out] at hown9
          have hX9 := (Bx.grownV HR1.out (by decide) hg9 HX.out).setOther (p := ⟨w.heap.size, 1, none⟩) (by show W.heap.size + 1 ≠ w.heap.size; omega) (.slice av' (i + 1) cv')
          have x5 := hX9.c0
          have y5 := hX9.c1
          have hb10 := HB.out.trans ((own_grown HR1.out hg9 (by omega)).mono (by omega))
          have hO11 := Lib.hid (hO9.set1 av' (i + 1) cv')
          have hr11 := Lib.hid (own_set hown9 (p := ⟨w.heap.size, 1, none⟩) (Nat.lt_succ_self _) (.slice av' (i + 1) cv'))
          have hb11 := Lib.hid (hb10.setCell (p := ⟨w.heap.size, 1, none⟩) (Nat.le_refl _) (.slice av' (i + 1) cv'))
          clear hO9 hg9 hown9 hb10 u1 z1 g2 HO HR1 HB x2 y2 hck hX9
          by_cases hkk : k + 1 = m2
          · have e6 : (k : Int) + 1 = (m2 : Int) := by omega
            go_wp2_with fail
            go_roundw
            case rel => exact ⟨i + 1, av', cv', by rw [HNX.out, if_pos hkk]; rfl, by go_num, by omega, hO11.out, hr11.out, hb11.out⟩
            case measure => simp [intOf]; omega
          · have e6 : ¬ ((k : Int) + 1 = (m2 : Int)) := by omega
            go_wp2_with fail
            go_roundw
            case rel => exact ⟨i + 1, av', cv', by rw [HNX.out, if_neg hkk]; go_num, by go_num, by omega, hO11.out, hr11.out, hb11.out⟩
            case measure => simp [intOf]; omega
      · have e2 : ¬ (i : Int) < (z : Int) := by omega
        obtain rfl : i = z := by omega
        have hsa := HS.out.2.1.below hb1
        have HO := Lib.hid (And.intro ho1 hsa)
        have x1 := hO1.c0
        have x2 := hO1.c1
        clear ho1 hO1 hb1 hsa
        have y0 := h.out.1.c0
        have y3 := h.out.1.c1
        have f0 := h.out.1.f 0
        have f1 := h.out.1.f 1
        go_wp2_with fail
        have hV : Vl wr aa na bv i (TS (some (q.2, cyM r.2 i))).1 (TS (some (q.2, cyM r.2 i))).2 := ⟨HO.out.2, own_st HO.out.1, by omega⟩
        have hR := h.out.1.set aa na ca bv i dv
        have r0 := hR.c0
        have r1 := hR.c1
        exact bodyPost_ret (v := .tuple #[.agg #[.slice aa na ca, .slice bv i dv], .int .i64 0]) (by simp [results, Tryz.results21, go_sem, r0, r1]) rfl (mend_box (r := _) h.out.1 h.out.2.2.2 (by omega) hV ⟨HS.out.2.2.1, HS.out.2.2.2, (own_caps HO.out.1).1, (own_caps HO.out.1).2⟩ HR.out)
  ·
    have lW := h.out.2.1.lt
    go_wp2_with fail
    have hO := Bx.new w aa na ca none 0 0
    have hbO : Below w.heap.size w (w.alloc (.cells #[.slice aa na ca, .slice none 0 0] 25)) := (Below.refl _ _).alloc (Nat.le_refl _) _
    clear x2 y2
    go_loopw [11, 12] (fun kv iv wr => ∃ (i : Nat) (bv : Option Addr) (dv : Nat), kv = .int .i64 ((i % m2 : Nat) : Int) ∧ iv = .int .i64 i ∧ i ≤ z ∧ Bx wr w.heap.size aa na ca bv i dv ∧ wr.ownsRow (w.heap.size + 1) 9 1 (.slice bv i dv) i (valsS ((cyM r.2 i).map S)) ∧ Below w.heap.size w wr) (fun _ iv _ => z - (intOf iv).toNat)
    case atStart => exact ⟨0, none, 0, by rw [Nat.zero_mod]; rfl, rfl, by omega, hO, World.ownsRow_nil _ _ _ _, hbO⟩
    case round =>
      obtain ⟨i, bv, dv, rfl, rfl, hi, hO1, ho1, hb1⟩ := hrel
      clear hO hbO
      replace h := live_belS h hb1 (Nat.le_refl _)
      by_cases hlt : i < z
      · exact absurd hlt (by omega)
      · have e2 : ¬ (i : Int) < (z : Int) := by omega
        obtain rfl : i = z := by omega
        have hsa := HS.out.2.1.below hb1
        have HO := Lib.hid (And.intro ho1 hsa)
        have x1 := hO1.c0
        have x2 := hO1.c1
        clear ho1 hO1 hb1 hsa
        have y0 := h.out.1.c0
        have y3 := h.out.1.c1
        have f0 := h.out.1.f 0
        have f1 := h.out.1.f 1
        go_wp2_with fail
        have hV : Vl wr aa na bv i (TS (some (q.2, cyM r.2 i))).1 (TS (some (q.2, cyM r.2 i))).2 := ⟨HO.out.2, own_st HO.out.1, by omega⟩
        have hR := h.out.1.set aa na ca bv i dv
        have r0 := hR.c0
        have r1 := hR.c1
        exact bodyPost_ret (v := .tuple #[.agg #[.slice aa na ca, .slice bv i dv], .int .i64 0]) (by simp [results, Tryz.results21, go_sem, r0, r1]) rfl (mend_box (r := _) h.out.1 h.out.2.2.2 (by omega) hV ⟨HS.out.2.2.1, HS.out.2.2.2, (own_caps HO.out.1).1, (own_caps HO.out.1).2⟩ HR.out)
theorem rReshape_is {a1 b1 a2 b2 : Option Addr} {n1 c1 m1 d1 n2 c2 m2 d2 : Nat} {l m : List Int} {es fs : List ByteArray} {W : World} {o p : Option Ar} (h1 : Av W a1 n1 c1 b1 m1 d1 l es o) (h2 : Av W a2 n2 c2 b2 m2 d2 m fs p) : Calls Tryz.prog 21 #[.agg #[.slice a1 n1 c1, .slice b1 m1 d1], .agg #[.slice a2 n2 c2, .slice b2 m2 d2]] W (MEnd (rsM o p) W) := by
  cases o with
  | none => exact rrs_1 (m := m) (fs := fs) h1
  | some q =>
  cases p with
  | none => exact rrs_2 h1 h2
  | some r =>
  have hl : q.1.length = n1 := by rw [h1.fst]; exact h1.v.s.1
  by_cases hn : 1 < n1
  · have e : rsM (some q) (some r) = (none, 3) := by unfold rsM; dsimp only; rw [if_pos (by omega)]
    rw [e]; exact rrs_3 h1 h2 hn
  · have hn' : ¬ (1 < q.1.length) := by omega
    cases hal : q.2.all nearM
    · have e : rsM (some q) (some r) = (none, 5) := by unfold rsM; dsimp only; rw [if_neg hn', if_pos hal]
      rw [e]; exact rrs_4 h1 h2 (by omega) hal
    · by_cases hz : szE q.2 = 0
      · by_cases h0 : pr q.2 ≠ 0 ∧ r.2 = []
        · have e : rsM (some q) (some r) = (none, 5) := by unfold rsM; dsimp only; rw [if_neg hn', if_neg (by rw [hal]; simp), if_neg (fun h => h hz), if_pos h0]
          rw [e]; exact rrs_6 h1 h2 (by omega) hal hz h0.1 h0.2
        · have e : rsM (some q) (some r) = (some (q.2, cyM r.2 (pr q.2).toNat), 0) := by unfold rsM; dsimp only; rw [if_neg hn', if_neg (by rw [hal]; simp), if_neg (fun h => h hz), if_neg h0]
          rw [e]; exact rrs_7 h1 h2 (by omega) hal hz h0
      · have e : rsM (some q) (some r) = (none, szE q.2) := by unfold rsM; dsimp only; rw [if_neg hn', if_neg (by rw [hal]; simp), if_pos hz]
        rw [e]; exact rrs_5 h1 h2 (by omega) hal hz
end Go.Proofs.YtjpjccilnmlmnaaGreatDoor

import Derived.Test.YtpledghphljfkaaGreatDoorMay
import Derived.Test.YtpledghphljfkaaGreatDoorMbh
/-
  The reference's Amend, by its contract.
-/
namespace Go.Proofs.YtpledghphljfkaaGreatDoor
set_option linter.unusedVariables false
set_option linter.unusedSimpArgs false
open Go.RowKit

theorem live3 (W : World) (a : Option Addr) (n c : Nat) (b : Option Addr) (m d : Nat) (a2 : Option Addr) (n2 c2 : Nat) (b2 : Option Addr) (m2 d2 : Nat) (a3 : Option Addr) (n3 c3 : Nat) (b3 : Option Addr) (m3 d3 : Nat) :
    Lv (fun w => Bx w (W.heap.size + 1 + 1 + 1) none 0 0 none 0 0 ∧ Bx w (W.heap.size + 1 + 1) a3 n3 c3 b3 m3 d3 ∧ Bx w (W.heap.size + 1) a2 n2 c2 b2 m2 d2 ∧ Bx w W.heap.size a n c b m d ∧ Below W.heap.size W w)
      ((((W.alloc (.cells #[.slice a n c, .slice b m d] 25)).alloc (.cells #[.slice a2 n2 c2, .slice b2 m2 d2] 25)).alloc (.cells #[.slice a3 n3 c3, .slice b3 m3 d3] 25)).alloc (.cells #[.slice none 0 0, .slice none 0 0] 25)) :=
  ⟨⟨Bx.newG _ _ (by simp) _ _ _ _ _ _, (Bx.newG _ _ (by simp) _ _ _ _ _ _).alloc _, ((Bx.newG _ _ (by simp) _ _ _ _ _ _).alloc _).alloc _, (((Bx.new W a n c b m d).alloc _).alloc _).alloc _, ((((Below.refl _ _).alloc (Nat.le_refl _) _).alloc (by simp) _).alloc (by simp; omega) _).alloc (by simp; omega) _⟩⟩
theorem am_1 (o r : Option Ar) : amK o none r = (none, 1) := by cases o <;> cases r <;> rfl
theorem am_2 (o : Option Ar) (t : Ar) : amK o (some t) none = (none, 1) := by cases o <;> rfl
theorem am_3 {o : Option Ar} (t r : Ar) (h : vcE o ≠ 0) : amK o (some t) (some r) = (none, vcE o) := by
  cases o with
  | none => rfl
  | some v =>
    unfold vcE at h ⊢
    unfold amK
    dsimp only at h ⊢
    by_cases hl : v.1.length ≠ 1
    · rw [if_pos hl, if_pos hl]
    · rw [if_neg hl] at h; exact absurd rfl h
theorem am_4 {q t : Ar} (r : Ar) (hl : q.1.length = 1) (h : 1 < t.1.length) : amK (some q) (some t) (some r) = (none, 3) := by
  unfold amK; dsimp only; rw [if_neg (fun e => e hl), if_pos h]
theorem am_5 {q t : Ar} (r : Ar) (hl : q.1.length = 1) (h : ¬ 1 < t.1.length) (hp : plE t (q.2.length : Int) ≠ 0) : amK (some q) (some t) (some r) = (none, plE t (q.2.length : Int)) := by
  unfold amK; dsimp only; rw [if_neg (fun e => e hl), if_neg h, if_pos hp]
theorem am_6 {q t r : Ar} (hl : q.1.length = 1) (h : ¬ 1 < t.1.length) (hp : plE t (q.2.length : Int) = 0) (hs : r.1 ≠ [] ∧ t.1 ≠ r.1) : amK (some q) (some t) (some r) = (none, 4) := by
  unfold amK; dsimp only; rw [if_neg (fun e => e hl), if_neg h, if_neg (fun e => e hp), if_pos hs]
theorem am_7 {q t r : Ar} (hl : q.1.length = 1) (h : ¬ 1 < t.1.length) (hp : plE t (q.2.length : Int) = 0) (hs : ¬ (r.1 ≠ [] ∧ t.1 ≠ r.1)) : amK (some q) (some t) (some r) = (some (q.1, amS q.2 (natL t.2) (wsL r t.2.length)), 0) := by
  unfold amK; dsimp only; rw [if_neg (fun e => e hl), if_neg h, if_neg (fun e => e hp), if_neg hs]
theorem am_step (es : List Int) {L : List Nat} {ws : List Int} (h : L.length = ws.length) {k : Nat} (hk : k < L.length) : amS es (L.take (k + 1)) (ws.take (k + 1)) = (amS es (L.take k) (ws.take k)).set (L.getD k 0) (ws.getD k 0) := by
  have hk2 : k < ws.length := by omega
  rw [List.take_succ_eq_append_getElem hk, List.take_succ_eq_append_getElem hk2, am_snoc es (by rw [List.length_take, List.length_take]; omega)]
  simp [List.getD_eq_getElem?_getD, List.getElem?_eq_getElem hk, List.getElem?_eq_getElem hk2]
theorem ws_len {r : Ar} {n : Nat} (h : r.1 ≠ [] → r.2.length = n) : (wsL r n).length = n := by
  unfold wsL
  split
  · simp
  · rename_i h1; exact h h1
theorem ws_one {r : Ar} {n k : Nat} (h : r.1 = []) (hk : k < n) : (wsL r n).getD k 0 = r.2.getD 0 0 := by
  unfold wsL
  rw [if_pos h]
  simp [List.getD_eq_getElem?_getD, List.getElem?_replicate, hk]
theorem ws_all {r : Ar} {n : Nat} (h : r.1 ≠ []) : wsL r n = r.2 := if_neg h
/-- Behind the region that makes the box: the elements, the call's own. -/
def ACut (a : Option Addr) (n c : Nat) (es : List ByteArray) (wz : World) (p : Value) (wx : World) : Prop :=
  ∃ g ea ec, p = .pointer (some ⟨g, 0, none⟩) ∧ Bx wx g a n c ea es.length ec ∧ wz.heap.size ≤ g ∧ Fr wx wz.heap.size 9 ea es.length ec (valsS es) ∧ Below wz.heap.size wz wx
theorem ACut.new {es : List ByteArray} {wz wb : World} {a ea : Option Addr} {n c m ec : Nat} (hb : Below wz.heap.size wz wb) (hF : Fr wb wz.heap.size 9 ea m ec (valsS es)) (hm : m = es.length) : ACut a n c es wz (.pointer (some ⟨wb.heap.size, 0, none⟩)) (wb.alloc (.cells #[.slice a n c, .slice ea m ec] 25)) := by
  subst hm
  have h1 : Below wb.heap.size wb (wb.alloc (.cells #[.slice a n c, .slice ea es.length ec] 25)) := (Below.refl _ _).alloc (Nat.le_refl _) _
  exact ⟨_, ea, ec, rfl, Bx.new _ _ _ _ _ _ _, hb.size, hF.below h1, hb.alloc hb.size _⟩
theorem ACut.set {es : List ByteArray} {wz wb : World} {a ea : Option Addr} {n c m g ec : Nat} (hb : Below wz.heap.size wz wb) (hF : Fr wb wz.heap.size 9 ea m ec (valsS es)) (hm : m = es.length) (hZ : Bx wb g none 0 0 none 0 0) (hg : wz.heap.size ≤ g) : ACut a n c es wz (.pointer (some ⟨g, 0, none⟩)) ((wb.setCell ⟨g, 0, none⟩ (.slice a n c)).setCell ⟨g, 1, none⟩ (.slice ea m ec)) := by
  subst hm
  have hZ1 := hZ.set0 a n c
  refine ⟨_, ea, ec, rfl, hZ.set _ _ _ _ _ _, hg, ⟨?_, fun h0 => own_set_bx (own_set_bx (hF.2.1 h0) (by decide) hZ 0 _) (by decide) hZ1 1 _, hF.2.2⟩, (hb.setCell hg _).setCell hg _⟩
  exact (hZ1.st1 (hZ.st1 hF.1.st (.inl rfl) _) (.inr rfl) _).rd
set_option maxRecDepth 100000 in
set_option maxHeartbeats 3200000 in
theorem ram_1 {a1 b1 a2 b2 a3 b3 : Option Addr} {n1 c1 m1 d1 n2 c2 m2 d2 n3 c3 m3 d3 : Nat} {l m k : List Int} {es fs gs : List ByteArray} {W : World} (h2 : Av W a2 n2 c2 b2 m2 d2 m fs none) :
    Calls Tryz.prog 21 #[.agg #[.slice a1 n1 c1, .slice b1 m1 d1], .agg #[.slice a2 n2 c2, .slice b2 m2 d2], .agg #[.slice a3 n3 c3, .slice b3 m3 d3]] W (MEnd (none, 1) W) := by
  have KU := Lib.hid (fun w (hb : Below W.heap.size W w) => rMay_av (h2.below hb))
  clear h2
  have h := live3 W a1 n1 c1 b1 m1 d1 a2 n2 c2 b2 m2 d2 a3 n3 c3 b3 m3 d3
  go_enter Tryz.func21, Tryz.ntmps21
  have x2 := h.out.2.2.1.c0
  have y2 := h.out.2.2.1.c1
  go_wp2_with fail
  with_reducible refine (live h (KU.out _ h.out.2.2.2.2)).mono ?_
  clear h x2 y2
  rintro e w ⟨rfl, h⟩
  have y0 := h.out.1.c0
  have y3 := h.out.1.c1
  have f0 := h.out.1.f 0
  have f1 := h.out.1.f 1
  go_wp2_with fail
  have hR := h.out.1.set none 0 0 none 0 0
  have r0 := hR.c0
  have r1 := hR.c1
  exact bodyPost_ret (v := .tuple #[.agg #[.slice none 0 0, .slice none 0 0], .int .i64 1]) (by simp [results, Tryz.results21, go_sem, r0, r1]) rfl (mend_no h.out.1 h.out.2.2.2.2 (by omega))
set_option maxRecDepth 100000 in
set_option maxHeartbeats 3200000 in
theorem ram_2 {a1 b1 a2 b2 a3 b3 : Option Addr} {n1 c1 m1 d1 n2 c2 m2 d2 n3 c3 m3 d3 : Nat} {l m k : List Int} {es fs gs : List ByteArray} {W : World} {t : Ar} (h2 : Av W a2 n2 c2 b2 m2 d2 m fs (some t)) (h3 : Av W a3 n3 c3 b3 m3 d3 k gs none) :
    Calls Tryz.prog 21 #[.agg #[.slice a1 n1 c1, .slice b1 m1 d1], .agg #[.slice a2 n2 c2, .slice b2 m2 d2], .agg #[.slice a3 n3 c3, .slice b3 m3 d3]] W (MEnd (none, 1) W) := by
  have KU := Lib.hid (fun w (hb : Below W.heap.size W w) => rMay_av (h2.below hb))
  have KX := Lib.hid (fun w (hb : Below W.heap.size W w) => rMay_av (h3.below hb))
  clear h2 h3
  have h := live3 W a1 n1 c1 b1 m1 d1 a2 n2 c2 b2 m2 d2 a3 n3 c3 b3 m3 d3
  go_enter Tryz.func21, Tryz.ntmps21
  have x2 := h.out.2.2.1.c0
  have y2 := h.out.2.2.1.c1
  go_wp2_with fail
  with_reducible refine (live h (KU.out _ h.out.2.2.2.2)).mono ?_
  clear h x2 y2
  rintro e w ⟨rfl, h⟩
  have x3 := h.out.2.1.c0
  have y3 := h.out.2.1.c1
  go_wp2_with fail
  with_reducible refine (live h (KX.out _ h.out.2.2.2.2)).mono ?_
  clear h x3 y3
  rintro e w ⟨rfl, h⟩
  have y0 := h.out.1.c0
  have y3 := h.out.1.c1
  have f0 := h.out.1.f 0
  have f1 := h.out.1.f 1
  go_wp2_with fail
  have hR := h.out.1.set none 0 0 none 0 0
  have r0 := hR.c0
  have r1 := hR.c1
  exact bodyPost_ret (v := .tuple #[.agg #[.slice none 0 0, .slice none 0 0], .int .i64 1]) (by simp [results, Tryz.results21, go_sem, r0, r1]) rfl (mend_no h.out.1 h.out.2.2.2.2 (by omega))
set_option maxRecDepth 100000 in
set_option maxHeartbeats 3200000 in
theorem ram_3 {a1 b1 a2 b2 a3 b3 : Option Addr} {n1 c1 m1 d1 n2 c2 m2 d2 n3 c3 m3 d3 : Nat} {l m k : List Int} {es fs gs : List ByteArray} {W : World} {o : Option Ar} (h1 : Av W a1 n1 c1 b1 m1 d1 l es o) {t r : Ar} (h2 : Av W a2 n2 c2 b2 m2 d2 m fs (some t)) (h3 : Av W a3 n3 c3 b3 m3 d3 k gs (some r)) (hv : vcE o ≠ 0) :
    Calls Tryz.prog 21 #[.agg #[.slice a1 n1 c1, .slice b1 m1 d1], .agg #[.slice a2 n2 c2, .slice b2 m2 d2], .agg #[.slice a3 n3 c3, .slice b3 m3 d3]] W (MEnd (none, vcE o) W) := by
  have KU := Lib.hid (fun w (hb : Below W.heap.size W w) => rMay_av (h2.below hb))
  have KX := Lib.hid (fun w (hb : Below W.heap.size W w) => rMay_av (h3.below hb))
  have KC := Lib.hid (fun w (hb : Below W.heap.size W w) => rvec_is (h1.below hb))
  generalize vcE o = v at *
  have hk : (v != 0) = true := by simpa using hv
  clear h1 h2 h3 hv
  have h := live3 W a1 n1 c1 b1 m1 d1 a2 n2 c2 b2 m2 d2 a3 n3 c3 b3 m3 d3
  go_enter Tryz.func21, Tryz.ntmps21
  have x2 := h.out.2.2.1.c0
  have y2 := h.out.2.2.1.c1
  go_wp2_with fail
  with_reducible refine (live h (KU.out _ h.out.2.2.2.2)).mono ?_
  clear h x2 y2
  rintro e w ⟨rfl, h⟩
  have x3 := h.out.2.1.c0
  have y3 := h.out.2.1.c1
  go_wp2_with fail
  with_reducible refine (live h (KX.out _ h.out.2.2.2.2)).mono ?_
  clear h x3 y3
  rintro e w ⟨rfl, h⟩
  have x1 := h.out.2.2.2.1.c0
  have y1 := h.out.2.2.2.1.c1
  go_wp2_with fail
  with_reducible refine (live h (KC.out _ h.out.2.2.2.2)).mono ?_
  clear h x1 y1
  rintro e w ⟨rfl, h⟩
  have y0 := h.out.1.c0
  have y3 := h.out.1.c1
  have f0 := h.out.1.f 0
  have f1 := h.out.1.f 1
  go_wp2_with fail
  have hR := h.out.1.set none 0 0 none 0 0
  have r0 := hR.c0
  have r1 := hR.c1
  exact bodyPost_ret (v := .tuple #[.agg #[.slice none 0 0, .slice none 0 0], .int .i64 v]) (by simp [results, Tryz.results21, go_sem, r0, r1]) rfl (mend_no h.out.1 h.out.2.2.2.2 (by omega))
set_option maxRecDepth 100000 in
set_option maxHeartbeats 3200000 in
theorem ram_4 {a1 b1 a2 b2 a3 b3 : Option Addr} {n1 c1 m1 d1 n2 c2 m2 d2 n3 c3 m3 d3 : Nat} {l m k : List Int} {es fs gs : List ByteArray} {W : World} {q : Ar} (h1 : Av W a1 n1 c1 b1 m1 d1 l es (some q)) {t r : Ar} (h2 : Av W a2 n2 c2 b2 m2 d2 m fs (some t)) (h3 : Av W a3 n3 c3 b3 m3 d3 k gs (some r)) (hv : vcE (some q) = 0) (hn : 1 < n2) :
    Calls Tryz.prog 21 #[.agg #[.slice a1 n1 c1, .slice b1 m1 d1], .agg #[.slice a2 n2 c2, .slice b2 m2 d2], .agg #[.slice a3 n3 c3, .slice b3 m3 d3]] W (MEnd (none, 3) W) := by
  have KU := Lib.hid (fun w (hb : Below W.heap.size W w) => rMay_av (h2.below hb))
  have KX := Lib.hid (fun w (hb : Below W.heap.size W w) => rMay_av (h3.below hb))
  have KC := Lib.hid (fun w (hb : Below W.heap.size W w) => rvec_is (h1.below hb))
  rw [hv] at KC
  have hn2 : (1 : Int) < (n2 : Int) := by omega
  clear h1 h2 h3 hv hn
  have h := live3 W a1 n1 c1 b1 m1 d1 a2 n2 c2 b2 m2 d2 a3 n3 c3 b3 m3 d3
  go_enter Tryz.func21, Tryz.ntmps21
  have x2 := h.out.2.2.1.c0
  have y2 := h.out.2.2.1.c1
  go_wp2_with fail
  with_reducible refine (live h (KU.out _ h.out.2.2.2.2)).mono ?_
  clear h x2 y2
  rintro e w ⟨rfl, h⟩
  have x3 := h.out.2.1.c0
  have y3 := h.out.2.1.c1
  go_wp2_with fail
  with_reducible refine (live h (KX.out _ h.out.2.2.2.2)).mono ?_
  clear h x3 y3
  rintro e w ⟨rfl, h⟩
  have x1 := h.out.2.2.2.1.c0
  have y1 := h.out.2.2.2.1.c1
  go_wp2_with fail
  with_reducible refine (live h (KC.out _ h.out.2.2.2.2)).mono ?_
  clear h x1 y1
  rintro e w ⟨rfl, h⟩
  have x2 := h.out.2.2.1.c0
  have y2 := h.out.2.2.1.c1
  have y0 := h.out.1.c0
  have y3 := h.out.1.c1
  have f0 := h.out.1.f 0
  have f1 := h.out.1.f 1
  go_wp2_with fail
  have hR := h.out.1.set none 0 0 none 0 0
  have r0 := hR.c0
  have r1 := hR.c1
  exact bodyPost_ret (v := .tuple #[.agg #[.slice none 0 0, .slice none 0 0], .int .i64 3]) (by simp [results, Tryz.results21, go_sem, r0, r1]) rfl (mend_no h.out.1 h.out.2.2.2.2 (by omega))
set_option maxRecDepth 100000 in
set_option maxHeartbeats 3200000 in
theorem ram_5 {a1 b1 a2 b2 a3 b3 : Option Addr} {n1 c1 m1 d1 n2 c2 m2 d2 n3 c3 m3 d3 : Nat} {l m k : List Int} {es fs gs : List ByteArray} {W : World} {q : Ar} (h1 : Av W a1 n1 c1 b1 m1 d1 l es (some q)) {t r : Ar} (h2 : Av W a2 n2 c2 b2 m2 d2 m fs (some t)) (h3 : Av W a3 n3 c3 b3 m3 d3 k gs (some r)) (hv : vcE (some q) = 0) (hn : ¬ 1 < n2) (hpl : plE t (q.2.length : Int) ≠ 0) :
    Calls Tryz.prog 21 #[.agg #[.slice a1 n1 c1, .slice b1 m1 d1], .agg #[.slice a2 n2 c2, .slice b2 m2 d2], .agg #[.slice a3 n3 c3, .slice b3 m3 d3]] W (MEnd (none, plE t (q.2.length : Int)) W) := by
  have KU := Lib.hid (fun w (hb : Below W.heap.size W w) => rMay_av (h2.below hb))
  have KX := Lib.hid (fun w (hb : Below W.heap.size W w) => rMay_av (h3.below hb))
  have KC := Lib.hid (fun w (hb : Below W.heap.size W w) => rvec_is (h1.below hb))
  rw [hv] at KC
  have hn2 : ¬ (1 : Int) < (n2 : Int) := by omega
  have hmq := h1.mlen.1
  rw [← hmq] at hpl
  have KP := Lib.hid (fun w (hb : Below W.heap.size W w) => rplaces_is (c1 := c2) (d1 := d2) (m1 : Int) (h2.below hb))
  rw [← hmq]
  have hk : (plE t (m1 : Int) != 0) = true := by simpa using hpl
  clear h1 h2 h3 hv hn hmq
  have h := live3 W a1 n1 c1 b1 m1 d1 a2 n2 c2 b2 m2 d2 a3 n3 c3 b3 m3 d3
  go_enter Tryz.func21, Tryz.ntmps21
  have x2 := h.out.2.2.1.c0
  have y2 := h.out.2.2.1.c1
  go_wp2_with fail
  with_reducible refine (live h (KU.out _ h.out.2.2.2.2)).mono ?_
  clear h x2 y2
  rintro e w ⟨rfl, h⟩
  have x3 := h.out.2.1.c0
  have y3 := h.out.2.1.c1
  go_wp2_with fail
  with_reducible refine (live h (KX.out _ h.out.2.2.2.2)).mono ?_
  clear h x3 y3
  rintro e w ⟨rfl, h⟩
  have x1 := h.out.2.2.2.1.c0
  have y1 := h.out.2.2.2.1.c1
  go_wp2_with fail
  with_reducible refine (live h (KC.out _ h.out.2.2.2.2)).mono ?_
  clear h x1 y1
  rintro e w ⟨rfl, h⟩
  have x1 := h.out.2.2.2.1.c0
  have y1 := h.out.2.2.2.1.c1
  have x2 := h.out.2.2.1.c0
  have y2 := h.out.2.2.1.c1
  go_wp2_with fail
  refine (live_pl h (KP.out _ h.out.2.2.2.2)).mono ?_
  clear h KP x1 y1 x2 y2
  rintro e w ⟨aa, na, ca, rfl, hp, h⟩
  clear hp
  generalize plE t (m1 : Int) = v at *
  have y0 := h.out.1.c0
  have y3 := h.out.1.c1
  have f0 := h.out.1.f 0
  have f1 := h.out.1.f 1
  go_wp2_with fail
  have hR := h.out.1.set none 0 0 none 0 0
  have r0 := hR.c0
  have r1 := hR.c1
  exact bodyPost_ret (v := .tuple #[.agg #[.slice none 0 0, .slice none 0 0], .int .i64 v]) (by simp [results, Tryz.results21, go_sem, r0, r1]) rfl (mend_no h.out.1 h.out.2.2.2.2 (by omega))
set_option maxRecDepth 100000 in
set_option maxHeartbeats 3200000 in
theorem ram_6 {a1 b1 a2 b2 a3 b3 : Option Addr} {n1 c1 m1 d1 n2 c2 m2 d2 n3 c3 m3 d3 : Nat} {l m k : List Int} {es fs gs : List ByteArray} {W : World} {q : Ar} (h1 : Av W a1 n1 c1 b1 m1 d1 l es (some q)) {t r : Ar} (h2 : Av W a2 n2 c2 b2 m2 d2 m fs (some t)) (h3 : Av W a3 n3 c3 b3 m3 d3 k gs (some r)) (hv : vcE (some q) = 0) (hn : ¬ 1 < n2) (hpl : plE t (q.2.length : Int) = 0) (h30 : n3 ≠ 0) (hs : t.1 ≠ r.1) :
    Calls Tryz.prog 21 #[.agg #[.slice a1 n1 c1, .slice b1 m1 d1], .agg #[.slice a2 n2 c2, .slice b2 m2 d2], .agg #[.slice a3 n3 c3, .slice b3 m3 d3]] W (MEnd (none, 4) W) := by
  have KU := Lib.hid (fun w (hb : Below W.heap.size W w) => rMay_av (h2.below hb))
  have KX := Lib.hid (fun w (hb : Below W.heap.size W w) => rMay_av (h3.below hb))
  have KC := Lib.hid (fun w (hb : Below W.heap.size W w) => rvec_is (h1.below hb))
  rw [hv] at KC
  have hn2 : ¬ (1 : Int) < (n2 : Int) := by omega
  have hmq := h1.mlen.1
  rw [← hmq] at hpl
  have KP := Lib.hid (fun w (hb : Below W.heap.size W w) => rplaces_is (c1 := c2) (d1 := d2) (m1 : Int) (h2.below hb))
  have hi3 : (0 : Int) < (n3 : Int) := by omega
  have e2 := h2.fst
  have e3 := h3.fst
  subst e2 e3
  have hn33 := h3.n3
  have KS := Lib.hid (fun w (hb : Below W.heap.size W w) => (show Calls Tryz.prog 46 #[.slice a2 n2 c2, .slice a3 n3 c3] w (BoolEnd false w) from (rSame_is a2 a3 n2 c2 n3 c3 t.1 r.1 w (h2.v.s.below hb) (h3.v.s.below hb) (by omega) (by omega) false (beq_eq_false_iff_ne.2 hs).symm).mono fun e w' kk => ⟨kk.1, kk.2.below⟩))
  clear h1 h2 h3 hv hn hmq
  have h := live3 W a1 n1 c1 b1 m1 d1 a2 n2 c2 b2 m2 d2 a3 n3 c3 b3 m3 d3
  go_enter Tryz.func21, Tryz.ntmps21
  have x2 := h.out.2.2.1.c0
  have y2 := h.out.2.2.1.c1
  go_wp2_with fail
  with_reducible refine (live h (KU.out _ h.out.2.2.2.2)).mono ?_
  clear h x2 y2
  rintro e w ⟨rfl, h⟩
  have x3 := h.out.2.1.c0
  have y3 := h.out.2.1.c1
  go_wp2_with fail
  with_reducible refine (live h (KX.out _ h.out.2.2.2.2)).mono ?_
  clear h x3 y3
  rintro e w ⟨rfl, h⟩
  have x1 := h.out.2.2.2.1.c0
  have y1 := h.out.2.2.2.1.c1
  go_wp2_with fail
  with_reducible refine (live h (KC.out _ h.out.2.2.2.2)).mono ?_
  clear h x1 y1
  rintro e w ⟨rfl, h⟩
  have x1 := h.out.2.2.2.1.c0
  have y1 := h.out.2.2.2.1.c1
  have x2 := h.out.2.2.1.c0
  have y2 := h.out.2.2.1.c1
  go_wp2_with fail
  refine (live_pl h (KP.out _ h.out.2.2.2.2)).mono ?_
  clear h KP x1 y1 x2 y2
  rintro e w ⟨aa, na, ca, rfl, hp, h⟩
  clear hp
  rw [hpl]
  clear hpl
  have x2 := h.out.2.2.1.c0
  have y2 := h.out.2.2.1.c1
  have x3 := h.out.2.1.c0
  have y3 := h.out.2.1.c1
  go_wp2_with fail
  with_reducible refine (live h (KS.out _ h.out.2.2.2.2)).mono ?_
  clear h x2 y2 x3 y3
  rintro e w ⟨rfl, h⟩
  have y0 := h.out.1.c0
  have y3 := h.out.1.c1
  have f0 := h.out.1.f 0
  have f1 := h.out.1.f 1
  go_wp2_with fail
  have hR := h.out.1.set none 0 0 none 0 0
  have r0 := hR.c0
  have r1 := hR.c1
  exact bodyPost_ret (v := .tuple #[.agg #[.slice none 0 0, .slice none 0 0], .int .i64 4]) (by simp [results, Tryz.results21, go_sem, r0, r1]) rfl (mend_no h.out.1 h.out.2.2.2.2 (by omega))
set_option maxRecDepth 100000 in
set_option maxHeartbeats 3200000 in
theorem ram_7a {a1 b1 a2 b2 a3 b3 : Option Addr} {n1 c1 m1 d1 n2 c2 m2 d2 n3 c3 m3 d3 : Nat} {l m k : List Int} {es fs gs : List ByteArray} {W : World} {q : Ar} (h1 : Av W a1 n1 c1 b1 m1 d1 l es (some q)) {t r : Ar} (h2 : Av W a2 n2 c2 b2 m2 d2 m fs (some t)) (h3 : Av W a3 n3 c3 b3 m3 d3 k gs (some r)) (hv : vcE (some q) = 0) (hn : ¬ 1 < n2) (hpl : plE t (q.2.length : Int) = 0) (h30 : n3 = 0) :
    Calls Tryz.prog 21 #[.agg #[.slice a1 n1 c1, .slice b1 m1 d1], .agg #[.slice a2 n2 c2, .slice b2 m2 d2], .agg #[.slice a3 n3 c3, .slice b3 m3 d3]] W (MEnd (some (q.1, amS q.2 (natL t.2) (wsL r t.2.length)), 0) W) := by
  have KU := Lib.hid (fun w (hb : Below W.heap.size W w) => rMay_av (h2.below hb))
  have KX := Lib.hid (fun w (hb : Below W.heap.size W w) => rMay_av (h3.below hb))
  have KC := Lib.hid (fun w (hb : Below W.heap.size W w) => rvec_is (h1.below hb))
  rw [hv] at KC
  have hn2 : ¬ (1 : Int) < (n2 : Int) := by omega
  have hmq := h1.mlen.1
  rw [← hmq] at hpl
  have KP := Lib.hid (fun w (hb : Below W.heap.size W w) => rplaces_is (c1 := c2) (d1 := d2) (m1 : Int) (h2.below hb))
  have e1 := h1.fst
  have e2 := h2.fst
  have e3 := h3.fst
  subst e1 e2 e3
  have hn33 := h3.n3
  have hm1 := h1.mlen.2.2
  have hm2 := h2.mlen.2.2
  have hm3 := h3.mlen.2.2
  have hmt := h2.mlen.1
  have hmr := h3.mlen.1
  have hi3 : ¬ (0 : Int) < (n3 : Int) := by omega
  have hz3 : (n3 : Int) = 0 := by omega
  have hr0 : r.1 = [] := List.length_eq_zero_iff.1 (h3.v.s.1.trans h30)
  have hm31 : m3 = 1 := by
    have := h3.i.rok.2.1
    rw [hr0, ← hmr] at this
    have h5 : ((m3 : Nat) : Int) = 1 := this
    omega
  have hwl := ws_len (r := r) (n := t.2.length) (fun h => absurd hr0 h)
  have hok := plE_ok hpl
  have hin := natL_lt (n := m1) (l := t.2) (fun x hx => hok.2 x hx)
  have HIN := Lib.hid (fun j (hj : j < m2) => (show (natL t.2).getD j 0 < m1 from by
    rw [List.getD_eq_getElem?_getD, List.getElem?_eq_getElem (by rw [natL_len]; omega)]
    exact hin _ (List.getElem_mem _)))
  have HAT := Lib.hid (fun j (hj : j < m2) => natL_at (l := t.2) (fun x hx => (hok.2 x hx).1) (k := j) (by omega))
  have HST := Lib.hid (fun j (hj : j < m2) => am_step q.2 (L := natL t.2) (ws := wsL r t.2.length) (by rw [natL_len, hwl]) (k := j) (by rw [natL_len]; omega))
  have HWS := Lib.hid (fun j (hj : j < m2) => ws_one (r := r) (n := t.2.length) hr0 (k := j) (by omega))
  have HEL := Lib.hid (show St W b3 m3 (r.2.map S) from by have := h3.v.t; rwa [h3.i.2.1] at this)
  have HES := Lib.hid (show St W b1 m1 (q.2.map S) from by have := h1.v.t; rwa [h1.i.2.1] at this)
  have HESL := Lib.hid HES.out.1
  have HRL := Lib.hid hmr.symm
  have HMT := Lib.hid hmt.symm
  have HLN := Lib.hid (show (natL t.2).length = m2 ∧ (wsL r t.2.length).length = m2 from ⟨by rw [natL_len]; omega, by rw [hwl]; omega⟩)
  have HRK := Lib.hid (am_rok (q := q) (t := t) (r := r) h1.i.rok h3.i.rok (fun _ h => by intro e; rw [e] at hmr; simp at hmr; omega))
  have HSV := Lib.hid h1.v.s
  have HCP := Lib.hid h1.c
  have HMQ := Lib.hid hmq.symm
  clear h1 h2 h3 hv hn hmq hok hin hwl hmt hmr hr0
  have hm0 : 0 < m3 := by omega
  clear h30 hm31
  have h := live3 W a1 n1 c1 b1 m1 d1 a2 n2 c2 b2 m2 d2 a3 n3 c3 b3 m3 d3
  go_enter Tryz.func21, Tryz.ntmps21
  have x2 := h.out.2.2.1.c0
  have y2 := h.out.2.2.1.c1
  go_wp2_with fail
  with_reducible refine (live h (KU.out _ h.out.2.2.2.2)).mono ?_
  clear h x2 y2
  rintro e w ⟨rfl, h⟩
  have x3 := h.out.2.1.c0
  have y3 := h.out.2.1.c1
  go_wp2_with fail
  with_reducible refine (live h (KX.out _ h.out.2.2.2.2)).mono ?_
  clear h x3 y3
  rintro e w ⟨rfl, h⟩
  have x1 := h.out.2.2.2.1.c0
  have y1 := h.out.2.2.2.1.c1
  go_wp2_with fail
  with_reducible refine (live h (KC.out _ h.out.2.2.2.2)).mono ?_
  clear h x1 y1
  rintro e w ⟨rfl, h⟩
  have x1 := h.out.2.2.2.1.c0
  have y1 := h.out.2.2.2.1.c1
  have x2 := h.out.2.2.1.c0
  have y2 := h.out.2.2.1.c1
  go_wp2_with fail
  refine (live_pl h (KP.out _ h.out.2.2.2.2)).mono ?_
  clear h KP x1 y1 x2 y2
  rintro e w ⟨aa, na, ca, rfl, hp, h⟩
  replace hp := hp hpl
  obtain ⟨hna, hps, _, _⟩ := hp
  have hna2 := (hna.trans HMT.out).symm
  clear hna
  subst hna2
  have HPS0 := hps
  rw [hpl]
  clear hps hpl
  have x3 := h.out.2.1.c0
  have y3 := h.out.2.1.c1
  have x1 := h.out.2.2.2.1.c0
  have y1 := h.out.2.2.2.1.c1
  go_upto_region 13 with fail
  have lv := h.out.2.2.2.1.lt
  have hq : Below w.heap.size w w := Below.refl _ _
  have hqz := hq.size
  have hRd := Lib.hid (HES.out.below h.out.2.2.2.2).rd
  have HLV := Lib.hid h
  clear h
  go_cut [11] (fun p wx => ACut a1 n1 c1 (q.2.map S) w p wx)
  case first =>
    go_region_held3 (fun w' => w'.cell? ⟨W.heap.size, 0, none⟩ = some (.slice a1 n1 c1) ∧ w'.cell? ⟨W.heap.size, 1, none⟩ = some (.slice b1 m1 d1))
      (first | exact ⟨(Below.cell (p := ⟨W.heap.size, 0, none⟩) (by repeat' (first | exact hq | refine Below.drew ?_ | refine below_drewN ?_ _ | refine Below.alloc ?_ ?_ _ | refine Below.setCell ?_ ?_ _ | exact hqz | exact Nat.le_refl _ | omega | (simp; done) | (simp; omega))) lv).trans x1, (Below.cell (p := ⟨W.heap.size, 1, none⟩) (by repeat' (first | exact hq | refine Below.drew ?_ | refine below_drewN ?_ _ | refine Below.alloc ?_ ?_ _ | refine Below.setCell ?_ ?_ _ | exact hqz | exact Nat.le_refl _ | omega | (simp; done) | (simp; omega))) lv).trans y1⟩ | fail)
      (first
        | (refine step_fresh3 w (.tmp 60) (.tmp 62) 23 rfl rfl 9 (.string ⟨#[]⟩) 16 Tryz.underlying23 infoStr (by decide) (by decide) _ b1 m1 d1 (valsS (q.2.map S)) hRd.out (valsS_one (q.2.map S)) (by omega) rfl rfl (by repeat' (first | exact hq | refine Below.drew ?_ | refine below_drewN ?_ _ | refine Below.alloc ?_ ?_ _ | refine Below.setCell ?_ ?_ _ | exact hqz | exact Nat.le_refl _ | omega | (simp; done) | (simp; omega))) ?_; intro ea ec wb hr hq hF; have hqz := hq.size; (try (have hZ1 := Bx.on (by first | exact Bz.d _ _ | exact Bz.e _ _ | exact Bz.f _ _ | exact Bz.g _ _ | exact Bz.h _ _ | exact Bz.i _ _ | exact Bz.j _ _ | exact Bz.k _ _ | exact Bz.a _ | exact Bz.b _ | exact Bz.c _ | exact Bz.l _) hr; have y0 := hZ1.c0; have y3 := hZ1.c1; have f0 := hZ1.f 0; have f1 := hZ1.f 1)); (try (have hZ1 := Bx.on (by first | exact hZ1 | exact hZ1.alloc _ | exact Bx.drewN hZ1 _ | exact Bx.drewN (hZ1.alloc _) _ | exact (Bx.drewN hZ1 _).alloc _) hr; have y0 := hZ1.c0; have y3 := hZ1.c1; have f0 := hZ1.f 0; have f1 := hZ1.f 1)))
        | fail)
    all_goals
      go_wp2_with fail
      go_meet
      case rel => with_reducible first | exact ACut.new hq hF HESL.out.symm | (refine ACut.set hq hF HESL.out.symm hZ1 ?_ <;> first | exact Nat.le_refl _ | exact hqz | omega | (simp; done) | (simp; omega))
  case rest =>
    clear hq hqz x1 y1 lv hRd
    obtain ⟨g, ea, ec, rfl, hX, hgx, hF, hbc⟩ := hcut
    have hml : (q.2.map S).length = m1 := HES.out.1
    rw [hml] at hX hF
    have h := live_belS HLV.out hbc (Nat.le_refl _)
    have hcp := Lib.hid (show m1 ≤ ec ∧ ec ≤ maxLen from by
      rcases Nat.eq_zero_or_pos m1 with h0 | h0
      · have := hF.2.2 h0; exact ⟨by omega, by rw [this]; exact Nat.zero_le _⟩
      · exact own_caps (hF.2.1 h0))
    have hE0 := hF.2.1
    have hg1 : W.heap.size + 1 + 1 + 1 < g := Nat.lt_of_lt_of_le HLV.out.out.1.lt hgx
    have hWH : W.heap.size ≤ w.heap.size := HLV.out.out.2.2.2.2.size
    have hSZ := hbc.size
    obtain ⟨H0, hH0⟩ : ∃ H0, H0 = w.heap.size := ⟨_, rfl⟩
    rw [← hH0] at hE0 hgx hWH hSZ
    have HPS2 := Lib.hid (HPS0.below hbc)
    obtain ⟨X0, hX0⟩ : ∃ X0, X0 = q.2.map S := ⟨_, rfl⟩
    have HX0 := Lib.hid hX0
    rw [← hX0] at hE0 hml
    obtain ⟨wo, hwo⟩ : ∃ z, z = wc := ⟨_, rfl⟩
    subst hwo
    clear hF hgx hH0 hX0 HLV hbc
    go_wp2_with fail
    go_loopw [12] (fun iv wr => ∃ (j : Nat) (xs : List ByteArray), iv = .int .i64 (j : Int) ∧ j ≤ m2 ∧ xs.length = m1 ∧ Bx wr g a1 n1 c1 ea m1 ec ∧ (0 < m1 → wr.ownsRow H0 9 1 (.slice ea m1 ec) m1 (valsS xs)) ∧ Hid (xs = (amS q.2 ((natL t.2).take j) ((wsL r t.2.length).take j)).map S) ∧ Lv (fun z => Sl z aa m2 t.2 ∧ Bx z (W.heap.size + 1 + 1 + 1) none 0 0 none 0 0 ∧ Bx z (W.heap.size + 1 + 1) a3 n3 c3 b3 m3 d3 ∧ Below W.heap.size W z) wr ∧ H0 ≤ wr.heap.size) (fun iv _ => m2 - (intOf iv).toNat)
    case atStart => exact ⟨0, X0, rfl, Nat.zero_le _, hml, hX, hE0, Lib.hid (by rw [List.take_zero, List.take_zero]; exact HX0.out), ⟨HPS2.out, h.out.1, h.out.2.1, h.out.2.2.2.2⟩, hSZ⟩
    case round =>
      obtain ⟨j, xs, rfl, hj, hxl, hX1, hE1, HXS, hh, hh1⟩ := hrel
      clear hX hE0 h hml HPS2
      have y3 := hh.out.2.2.1.c0
      have z3 := hh.out.2.2.1.c1
      by_cases hlt : j < m2
      · have e2 : (j : Int) < (m2 : Int) := by omega
        obtain ⟨bl, ol, rfl, hcl⟩ := hh.out.1.2 (by omega)
        have hck := hcl j hlt
        have hat := HAT.out j hlt
        have hi0 := HIN.out j hlt
        have hst := HST.out j hlt
        have hws := HWS.out j hlt
        obtain ⟨be, oe, rfl, hce⟩ := HEL.out.2 (by omega)
        have hke := (hh.out.2.2.2.cell (p := ⟨be, oe + 0, none⟩) (World.block_lt_of_cell? W _ (hce 0 (by omega)))).trans (hce 0 (by omega))
        rw [getD_S (by rw [HRL.out]; omega), Nat.add_zero] at hke
        obtain ⟨i0, hii⟩ : ∃ i0, i0 = (natL t.2).getD j 0 := ⟨_, rfl⟩
        rw [← hat, ← hii] at hck
        rw [← hii] at hi0 hst
        obtain ⟨s, hs⟩ : ∃ s, s = S (r.2.getD 0 0) := ⟨_, rfl⟩
        rw [← hs] at hke
        have HSS : Hid ((amS q.2 ((natL t.2).take (j + 1)) ((wsL r t.2.length).take (j + 1))).map S = xs.set i0 s) := Lib.hid (by rw [hst, List.map_set, hws, HXS.out, hs])
        have hm0 : 0 < m1 := by omega
        have hE5 := hE1 hm0
        obtain ⟨eb, heb, hebl, hec, hef⟩ := own_cells hE5 hm0
        subst heb
        have hco := hec i0 hi0
        have hfo := hef i0
        rw [show (valsS xs)[i0]? = some (.string (xs.getD i0 ByteArray.empty)) by simp [valsS, List.getElem?_map, List.getD_eq_getElem?_getD, List.getElem?_eq_getElem (show i0 < xs.length by omega)]] at hco
        have v1 := hX1.c1
        have hE6 := Lib.hid (own_setElem hE5 rfl hi0 (.string s))
        have hX6 := Lib.hid (hX1.setOther (p := ⟨eb, i0, none⟩) (own_ne_bx hE5 (by decide) hX1 (k := eb) rfl) (.string s))
        have hh6 : Hid (Lv (fun z => Sl z (some ⟨bl, ol, none⟩) m2 t.2 ∧ Bx z (W.heap.size + 1 + 1 + 1) none 0 0 none 0 0 ∧ Bx z (W.heap.size + 1 + 1) a3 n3 c3 (some ⟨be, oe, none⟩) m3 d3 ∧ Below W.heap.size W z) (wr.setCell ⟨eb, i0, none⟩ (.string s))) := Lib.hid ⟨hh.out.1.far hco (.string s), hh.out.2.1.setOther (p := ⟨eb, i0, none⟩) (own_ne_bx hE5 (by decide) hh.out.2.1 (k := eb) rfl) (.string s), hh.out.2.2.1.setOther (p := ⟨eb, i0, none⟩) (own_ne_bx hE5 (by decide) hh.out.2.2.1 (k := eb) rfl) (.string s), hh.out.2.2.2.setCell (p := ⟨eb, i0, none⟩) (Nat.le_trans hWH hebl) (.string s)⟩
        have hxl2 : (xs.set i0 s).length = m1 := by rw [List.length_set]; exact hxl
        have e3 : (i0 : Int) < (m1 : Int) := by omega
        have hjm : 0 < m3 := by omega
        clear hE5 hec hef hce hcl hs hii hst hws hat HXS hE1 hX1 hh
        go_wp2_with fail
        go_region_law (fail)
        all_goals
          go_wp2_with fail
          go_roundw
          case rel => exact ⟨j + 1, xs.set i0 s, by go_num, by omega, hxl2, hX6.out, fun _ => by have := hE6.out; rwa [show (valsS xs).set i0 (.string s) = valsS (xs.set i0 s) by unfold valsS; rw [List.map_set]] at this, Lib.hid HSS.out.symm, (by first | exact hh6.out | exact ⟨hh6.out.out.1, hh6.out.out.2.1, hh6.out.out.2.2.1, hh6.out.out.2.2.2.drew⟩), by simpa using hh1⟩
          case measure => simp [intOf]; omega
      · have e2 : ¬ (j : Int) < (m2 : Int) := by omega
        obtain rfl : j = m2 := by omega
        rw [List.take_of_length_le (by rw [HLN.out.1]; exact Nat.le_refl _), List.take_of_length_le (by rw [HLN.out.2]; exact Nat.le_refl _)] at HXS
        have x0 := hX1.c0
        have x2 := hX1.c1
        have y0 := hh.out.2.1.c0
        have y4 := hh.out.2.1.c1
        have f0 := hh.out.2.1.f 0
        have f1 := hh.out.2.1.f 1
        have hT : St wr ea m1 xs := by
          rcases Nat.eq_zero_or_pos m1 with h0 | h0
          · have e5 : xs = [] := List.eq_nil_of_length_eq_zero (hxl.trans h0)
            rw [e5, h0]; exact St.nil _ _
          · exact own_st (hE1 h0)
        rw [HXS.out] at hT
        have HV : Hid (Vl wr a1 n1 ea m1 (TS (some (q.1, amS q.2 (natL t.2) (wsL r t.2.length)))).1 (TS (some (q.1, amS q.2 (natL t.2) (wsL r t.2.length)))).2) := Lib.hid ⟨HSV.out.below hh.out.2.2.2, hT, by omega⟩
        clear hT hE1 hX1
        go_wp2_with fail
        have hR := hh.out.2.1.set a1 n1 c1 ea m1 ec
        have r0 := hR.c0
        have r1 := hR.c1
        exact bodyPost_ret (v := .tuple #[.agg #[.slice a1 n1 c1, .slice ea m1 ec], .int .i64 0]) (by simp [results, Tryz.results21, go_sem, r0, r1]) rfl (mend_box (r := (some (q.1, amS q.2 (natL t.2) (wsL r t.2.length)), 0)) hh.out.2.1 hh.out.2.2.2 (by omega) HV.out ⟨HCP.out.1, HCP.out.2, hcp.out.1, hcp.out.2⟩ HRK.out)
set_option maxRecDepth 100000 in
set_option maxHeartbeats 3200000 in
theorem ram_7b {a1 b1 a2 b2 a3 b3 : Option Addr} {n1 c1 m1 d1 n2 c2 m2 d2 n3 c3 m3 d3 : Nat} {l m k : List Int} {es fs gs : List ByteArray} {W : World} {q : Ar} (h1 : Av W a1 n1 c1 b1 m1 d1 l es (some q)) {t r : Ar} (h2 : Av W a2 n2 c2 b2 m2 d2 m fs (some t)) (h3 : Av W a3 n3 c3 b3 m3 d3 k gs (some r)) (hv : vcE (some q) = 0) (hn : ¬ 1 < n2) (hpl : plE t (q.2.length : Int) = 0) (h30 : n3 ≠ 0) (hs : t.1 = r.1) :
    Calls Tryz.prog 21 #[.agg #[.slice a1 n1 c1, .slice b1 m1 d1], .agg #[.slice a2 n2 c2, .slice b2 m2 d2], .agg #[.slice a3 n3 c3, .slice b3 m3 d3]] W (MEnd (some (q.1, amS q.2 (natL t.2) (wsL r t.2.length)), 0) W) := by
  have KU := Lib.hid (fun w (hb : Below W.heap.size W w) => rMay_av (h2.below hb))
  have KX := Lib.hid (fun w (hb : Below W.heap.size W w) => rMay_av (h3.below hb))
  have KC := Lib.hid (fun w (hb : Below W.heap.size W w) => rvec_is (h1.below hb))
  rw [hv] at KC
  have hn2 : ¬ (1 : Int) < (n2 : Int) := by omega
  have hmq := h1.mlen.1
  rw [← hmq] at hpl
  have KP := Lib.hid (fun w (hb : Below W.heap.size W w) => rplaces_is (c1 := c2) (d1 := d2) (m1 : Int) (h2.below hb))
  have e1 := h1.fst
  have e2 := h2.fst
  have e3 := h3.fst
  subst e1 e2 e3
  have hn33 := h3.n3
  have hm1 := h1.mlen.2.2
  have hm2 := h2.mlen.2.2
  have hm3 := h3.mlen.2.2
  have hmt := h2.mlen.1
  have hmr := h3.mlen.1
  have hi3 : (0 : Int) < (n3 : Int) := by omega
  have hz3 : (n3 : Int) ≠ 0 := by omega
  have hr0 : r.1 ≠ [] := fun e => h30 (by rw [← h3.v.s.1, e]; rfl)
  have hm32 : m3 = m2 := by
    have e5 := h3.i.rok.2.1
    have e6 := h2.i.rok.2.1
    rw [← hs, ← e6] at e5
    omega
  have hwl := ws_len (r := r) (n := t.2.length) (fun _ => by omega)
  have KS := Lib.hid (fun w (hb : Below W.heap.size W w) => (show Calls Tryz.prog 46 #[.slice a2 n2 c2, .slice a3 n3 c3] w (BoolEnd true w) from (rSame_is a2 a3 n2 c2 n3 c3 t.1 r.1 w (h2.v.s.below hb) (h3.v.s.below hb) (by omega) (by omega) true (by rw [hs]; exact (beq_self_eq_true _).symm)).mono fun e w' kk => ⟨kk.1, kk.2.below⟩))
  have hok := plE_ok hpl
  have hin := natL_lt (n := m1) (l := t.2) (fun x hx => hok.2 x hx)
  have HIN := Lib.hid (fun j (hj : j < m2) => (show (natL t.2).getD j 0 < m1 from by
    rw [List.getD_eq_getElem?_getD, List.getElem?_eq_getElem (by rw [natL_len]; omega)]
    exact hin _ (List.getElem_mem _)))
  have HAT := Lib.hid (fun j (hj : j < m2) => natL_at (l := t.2) (fun x hx => (hok.2 x hx).1) (k := j) (by omega))
  have HST := Lib.hid (fun j (hj : j < m2) => am_step q.2 (L := natL t.2) (ws := wsL r t.2.length) (by rw [natL_len, hwl]) (k := j) (by rw [natL_len]; omega))
  have HWS := Lib.hid (fun j (_ : j < m2) => congrArg (fun z : List Int => z.getD j 0) (ws_all (r := r) (n := t.2.length) hr0))
  have HEL := Lib.hid (show St W b3 m3 (r.2.map S) from by have := h3.v.t; rwa [h3.i.2.1] at this)
  have HES := Lib.hid (show St W b1 m1 (q.2.map S) from by have := h1.v.t; rwa [h1.i.2.1] at this)
  have HESL := Lib.hid HES.out.1
  have HRL := Lib.hid hmr.symm
  have HMT := Lib.hid hmt.symm
  have HLN := Lib.hid (show (natL t.2).length = m2 ∧ (wsL r t.2.length).length = m2 from ⟨by rw [natL_len]; omega, by rw [hwl]; omega⟩)
  have HRK := Lib.hid (am_rok (q := q) (t := t) (r := r) h1.i.rok h3.i.rok (fun _ h => absurd h hr0))
  have HSV := Lib.hid h1.v.s
  have HCP := Lib.hid h1.c
  have HMQ := Lib.hid hmq.symm
  clear h1 h2 h3 hv hn hmq hok hin hwl hmt hmr hr0 hs
  have hm0 : m2 ≤ m3 := by omega
  clear h30 hm32
  have h := live3 W a1 n1 c1 b1 m1 d1 a2 n2 c2 b2 m2 d2 a3 n3 c3 b3 m3 d3
  go_enter Tryz.func21, Tryz.ntmps21
  have x2 := h.out.2.2.1.c0
  have y2 := h.out.2.2.1.c1
  go_wp2_with fail
  with_reducible refine (live h (KU.out _ h.out.2.2.2.2)).mono ?_
  clear h x2 y2
  rintro e w ⟨rfl, h⟩
  have x3 := h.out.2.1.c0
  have y3 := h.out.2.1.c1
  go_wp2_with fail
  with_reducible refine (live h (KX.out _ h.out.2.2.2.2)).mono ?_
  clear h x3 y3
  rintro e w ⟨rfl, h⟩
  have x1 := h.out.2.2.2.1.c0
  have y1 := h.out.2.2.2.1.c1
  go_wp2_with fail
  with_reducible refine (live h (KC.out _ h.out.2.2.2.2)).mono ?_
  clear h x1 y1
  rintro e w ⟨rfl, h⟩
  have x1 := h.out.2.2.2.1.c0
  have y1 := h.out.2.2.2.1.c1
  have x2 := h.out.2.2.1.c0
  have y2 := h.out.2.2.1.c1
  go_wp2_with fail
  refine (live_pl h (KP.out _ h.out.2.2.2.2)).mono ?_
  clear h KP x1 y1 x2 y2
  rintro e w ⟨aa, na, ca, rfl, hp, h⟩
  replace hp := hp hpl
  obtain ⟨hna, hps, _, _⟩ := hp
  have hna2 := (hna.trans HMT.out).symm
  clear hna
  subst hna2
  replace h : Lv (fun z => Sl z aa m2 t.2 ∧ Bx z (W.heap.size + 1 + 1 + 1) none 0 0 none 0 0 ∧ Bx z (W.heap.size + 1 + 1) a3 n3 c3 b3 m3 d3 ∧ Bx z (W.heap.size + 1) a2 n2 c2 b2 m2 d2 ∧ Bx z W.heap.size a1 n1 c1 b1 m1 d1 ∧ Below W.heap.size W z) w := ⟨hps, h.out⟩
  rw [hpl]
  clear hps hpl
  have x2 := h.out.2.2.2.1.c0
  have y2 := h.out.2.2.2.1.c1
  have x3 := h.out.2.2.1.c0
  have y3 := h.out.2.2.1.c1
  go_wp2_with fail
  with_reducible refine (liveS h (KS.out _ h.out.2.2.2.2.2)).mono ?_
  clear h x2 y2 x3 y3
  rintro e w ⟨rfl, h⟩
  have HPS0 := h.out.1
  replace h : Lv (fun z => Bx z (W.heap.size + 1 + 1 + 1) none 0 0 none 0 0 ∧ Bx z (W.heap.size + 1 + 1) a3 n3 c3 b3 m3 d3 ∧ Bx z (W.heap.size + 1) a2 n2 c2 b2 m2 d2 ∧ Bx z W.heap.size a1 n1 c1 b1 m1 d1 ∧ Below W.heap.size W z) w := ⟨h.out.2⟩
  have x3 := h.out.2.1.c0
  have y3 := h.out.2.1.c1
  have x1 := h.out.2.2.2.1.c0
  have y1 := h.out.2.2.2.1.c1
  go_upto_region 13 with fail
  have lv := h.out.2.2.2.1.lt
  have hq : Below w.heap.size w w := Below.refl _ _
  have hqz := hq.size
  have hRd := Lib.hid (HES.out.below h.out.2.2.2.2).rd
  have HLV := Lib.hid h
  clear h
  go_cut [11] (fun p wx => ACut a1 n1 c1 (q.2.map S) w p wx)
  case first =>
    go_region_held3 (fun w' => w'.cell? ⟨W.heap.size, 0, none⟩ = some (.slice a1 n1 c1) ∧ w'.cell? ⟨W.heap.size, 1, none⟩ = some (.slice b1 m1 d1))
      (first | exact ⟨(Below.cell (p := ⟨W.heap.size, 0, none⟩) (by repeat' (first | exact hq | refine Below.drew ?_ | refine below_drewN ?_ _ | refine Below.alloc ?_ ?_ _ | refine Below.setCell ?_ ?_ _ | exact hqz | exact Nat.le_refl _ | omega | (simp; done) | (simp; omega))) lv).trans x1, (Below.cell (p := ⟨W.heap.size, 1, none⟩) (by repeat' (first | exact hq | refine Below.drew ?_ | refine below_drewN ?_ _ | refine Below.alloc ?_ ?_ _ | refine Below.setCell ?_ ?_ _ | exact hqz | exact Nat.le_refl _ | omega | (simp; done) | (simp; omega))) lv).trans y1⟩ | fail)
      (first
        | (refine step_fresh3 w (.tmp 60) (.tmp 62) 23 rfl rfl 9 (.string ⟨#[]⟩) 16 Tryz.underlying23 infoStr (by decide) (by decide) _ b1 m1 d1 (valsS (q.2.map S)) hRd.out (valsS_one (q.2.map S)) (by omega) rfl rfl (by repeat' (first | exact hq | refine Below.drew ?_ | refine below_drewN ?_ _ | refine Below.alloc ?_ ?_ _ | refine Below.setCell ?_ ?_ _ | exact hqz | exact Nat.le_refl _ | omega | (simp; done) | (simp; omega))) ?_; intro ea ec wb hr hq hF; have hqz := hq.size; (try (have hZ1 := Bx.on (by first | exact Bz.d _ _ | exact Bz.e _ _ | exact Bz.f _ _ | exact Bz.g _ _ | exact Bz.h _ _ | exact Bz.i _ _ | exact Bz.j _ _ | exact Bz.k _ _ | exact Bz.a _ | exact Bz.b _ | exact Bz.c _ | exact Bz.l _) hr; have y0 := hZ1.c0; have y3 := hZ1.c1; have f0 := hZ1.f 0; have f1 := hZ1.f 1)); (try (have hZ1 := Bx.on (by first | exact hZ1 | exact hZ1.alloc _ | exact Bx.drewN hZ1 _ | exact Bx.drewN (hZ1.alloc _) _ | exact (Bx.drewN hZ1 _).alloc _) hr; have y0 := hZ1.c0; have y3 := hZ1.c1; have f0 := hZ1.f 0; have f1 := hZ1.f 1)))
        | fail)
    all_goals
      go_wp2_with fail
      go_meet
      case rel => with_reducible first | exact ACut.new hq hF HESL.out.symm | (refine ACut.set hq hF HESL.out.symm hZ1 ?_ <;> first | exact Nat.le_refl _ | exact hqz | omega | (simp; done) | (simp; omega))
  case rest =>
    clear hq hqz x1 y1 lv hRd
    obtain ⟨g, ea, ec, rfl, hX, hgx, hF, hbc⟩ := hcut
    have hml : (q.2.map S).length = m1 := HES.out.1
    rw [hml] at hX hF
    have h := live_belS HLV.out hbc (Nat.le_refl _)
    have hcp := Lib.hid (show m1 ≤ ec ∧ ec ≤ maxLen from by
      rcases Nat.eq_zero_or_pos m1 with h0 | h0
      · have := hF.2.2 h0; exact ⟨by omega, by rw [this]; exact Nat.zero_le _⟩
      · exact own_caps (hF.2.1 h0))
    have hE0 := hF.2.1
    have hg1 : W.heap.size + 1 + 1 + 1 < g := Nat.lt_of_lt_of_le HLV.out.out.1.lt hgx
    have hWH : W.heap.size ≤ w.heap.size := HLV.out.out.2.2.2.2.size
    have hSZ := hbc.size
    obtain ⟨H0, hH0⟩ : ∃ H0, H0 = w.heap.size := ⟨_, rfl⟩
    rw [← hH0] at hE0 hgx hWH hSZ
    have HPS2 := Lib.hid (HPS0.below hbc)
    obtain ⟨X0, hX0⟩ : ∃ X0, X0 = q.2.map S := ⟨_, rfl⟩
    have HX0 := Lib.hid hX0
    rw [← hX0] at hE0 hml
    obtain ⟨wo, hwo⟩ : ∃ z, z = wc := ⟨_, rfl⟩
    subst hwo
    clear hF hgx hH0 hX0 HLV hbc
    go_wp2_with fail
    go_loopw [12] (fun iv wr => ∃ (j : Nat) (xs : List ByteArray), iv = .int .i64 (j : Int) ∧ j ≤ m2 ∧ xs.length = m1 ∧ Bx wr g a1 n1 c1 ea m1 ec ∧ (0 < m1 → wr.ownsRow H0 9 1 (.slice ea m1 ec) m1 (valsS xs)) ∧ Hid (xs = (amS q.2 ((natL t.2).take j) ((wsL r t.2.length).take j)).map S) ∧ Lv (fun z => Sl z aa m2 t.2 ∧ Bx z (W.heap.size + 1 + 1 + 1) none 0 0 none 0 0 ∧ Bx z (W.heap.size + 1 + 1) a3 n3 c3 b3 m3 d3 ∧ Below W.heap.size W z) wr ∧ H0 ≤ wr.heap.size) (fun iv _ => m2 - (intOf iv).toNat)
    case atStart => exact ⟨0, X0, rfl, Nat.zero_le _, hml, hX, hE0, Lib.hid (by rw [List.take_zero, List.take_zero]; exact HX0.out), ⟨HPS2.out, h.out.1, h.out.2.1, h.out.2.2.2.2⟩, hSZ⟩
    case round =>
      obtain ⟨j, xs, rfl, hj, hxl, hX1, hE1, HXS, hh, hh1⟩ := hrel
      clear hX hE0 h hml HPS2
      have y3 := hh.out.2.2.1.c0
      have z3 := hh.out.2.2.1.c1
      by_cases hlt : j < m2
      · have e2 : (j : Int) < (m2 : Int) := by omega
        obtain ⟨bl, ol, rfl, hcl⟩ := hh.out.1.2 (by omega)
        have hck := hcl j hlt
        have hat := HAT.out j hlt
        have hi0 := HIN.out j hlt
        have hst := HST.out j hlt
        have hws := HWS.out j hlt
        obtain ⟨be, oe, rfl, hce⟩ := HEL.out.2 (by omega)
        have hke := (hh.out.2.2.2.cell (p := ⟨be, oe + j, none⟩) (World.block_lt_of_cell? W _ (hce j (by omega)))).trans (hce j (by omega))
        rw [getD_S (by rw [HRL.out]; omega)] at hke
        obtain ⟨i0, hii⟩ : ∃ i0, i0 = (natL t.2).getD j 0 := ⟨_, rfl⟩
        rw [← hat, ← hii] at hck
        rw [← hii] at hi0 hst
        obtain ⟨s, hs⟩ : ∃ s, s = S (r.2.getD j 0) := ⟨_, rfl⟩
        rw [← hs] at hke
        have HSS : Hid ((amS q.2 ((natL t.2).take (j + 1)) ((wsL r t.2.length).take (j + 1))).map S = xs.set i0 s) := Lib.hid (by rw [hst, List.map_set, hws, HXS.out, hs])
        have hm0 : 0 < m1 := by omega
        have hE5 := hE1 hm0
        obtain ⟨eb, heb, hebl, hec, hef⟩ := own_cells hE5 hm0
        subst heb
        have hco := hec i0 hi0
        have hfo := hef i0
        rw [show (valsS xs)[i0]? = some (.string (xs.getD i0 ByteArray.empty)) by simp [valsS, List.getElem?_map, List.getD_eq_getElem?_getD, List.getElem?_eq_getElem (show i0 < xs.length by omega)]] at hco
        have v1 := hX1.c1
        have hE6 := Lib.hid (own_setElem hE5 rfl hi0 (.string s))
        have hX6 := Lib.hid (hX1.setOther (p := ⟨eb, i0, none⟩) (own_ne_bx hE5 (by decide) hX1 (k := eb) rfl) (.string s))
        have hh6 : Hid (Lv (fun z => Sl z (some ⟨bl, ol, none⟩) m2 t.2 ∧ Bx z (W.heap.size + 1 + 1 + 1) none 0 0 none 0 0 ∧ Bx z (W.heap.size + 1 + 1) a3 n3 c3 (some ⟨be, oe, none⟩) m3 d3 ∧ Below W.heap.size W z) (wr.setCell ⟨eb, i0, none⟩ (.string s))) := Lib.hid ⟨hh.out.1.far hco (.string s), hh.out.2.1.setOther (p := ⟨eb, i0, none⟩) (own_ne_bx hE5 (by decide) hh.out.2.1 (k := eb) rfl) (.string s), hh.out.2.2.1.setOther (p := ⟨eb, i0, none⟩) (own_ne_bx hE5 (by decide) hh.out.2.2.1 (k := eb) rfl) (.string s), hh.out.2.2.2.setCell (p := ⟨eb, i0, none⟩) (Nat.le_trans hWH hebl) (.string s)⟩
        have hxl2 : (xs.set i0 s).length = m1 := by rw [List.length_set]; exact hxl
        have e3 : (i0 : Int) < (m1 : Int) := by omega
        have hjm : j < m3 := by omega
        clear hE5 hec hef hce hcl hs hii hst hws hat HXS hE1 hX1 hh
        go_wp2_with fail
        go_region_law (fail)
        all_goals
          go_wp2_with fail
          go_roundw
          case rel => exact ⟨j + 1, xs.set i0 s, by go_num, by omega, hxl2, hX6.out, fun _ => by have := hE6.out; rwa [show (valsS xs).set i0 (.string s) = valsS (xs.set i0 s) by unfold valsS; rw [List.map_set]] at this, Lib.hid HSS.out.symm, (by first | exact hh6.out | exact ⟨hh6.out.out.1, hh6.out.out.2.1, hh6.out.out.2.2.1, hh6.out.out.2.2.2.drew⟩), by simpa using hh1⟩
          case measure => simp [intOf]; omega
      · have e2 : ¬ (j : Int) < (m2 : Int) := by omega
        obtain rfl : j = m2 := by omega
        rw [List.take_of_length_le (by rw [HLN.out.1]; exact Nat.le_refl _), List.take_of_length_le (by rw [HLN.out.2]; exact Nat.le_refl _)] at HXS
        have x0 := hX1.c0
        have x2 := hX1.c1
        have y0 := hh.out.2.1.c0
        have y4 := hh.out.2.1.c1
        have f0 := hh.out.2.1.f 0
        have f1 := hh.out.2.1.f 1
        have hT : St wr ea m1 xs := by
          rcases Nat.eq_zero_or_pos m1 with h0 | h0
          · have e5 : xs = [] := List.eq_nil_of_length_eq_zero (hxl.trans h0)
            rw [e5, h0]; exact St.nil _ _
          · exact own_st (hE1 h0)
        rw [HXS.out] at hT
        have HV : Hid (Vl wr a1 n1 ea m1 (TS (some (q.1, amS q.2 (natL t.2) (wsL r t.2.length)))).1 (TS (some (q.1, amS q.2 (natL t.2) (wsL r t.2.length)))).2) := Lib.hid ⟨HSV.out.below hh.out.2.2.2, hT, by omega⟩
        clear hT hE1 hX1
        go_wp2_with fail
        have hR := hh.out.2.1.set a1 n1 c1 ea m1 ec
        have r0 := hR.c0
        have r1 := hR.c1
        exact bodyPost_ret (v := .tuple #[.agg #[.slice a1 n1 c1, .slice ea m1 ec], .int .i64 0]) (by simp [results, Tryz.results21, go_sem, r0, r1]) rfl (mend_box (r := (some (q.1, amS q.2 (natL t.2) (wsL r t.2.length)), 0)) hh.out.2.1 hh.out.2.2.2 (by omega) HV.out ⟨HCP.out.1, HCP.out.2, hcp.out.1, hcp.out.2⟩ HRK.out)
theorem rAmend_is {a1 b1 a2 b2 a3 b3 : Option Addr} {n1 c1 m1 d1 n2 c2 m2 d2 n3 c3 m3 d3 : Nat} {l m k : List Int} {es fs gs : List ByteArray} {W : World} {o p u : Option Ar} (h1 : Av W a1 n1 c1 b1 m1 d1 l es o) (h2 : Av W a2 n2 c2 b2 m2 d2 m fs p) (h3 : Av W a3 n3 c3 b3 m3 d3 k gs u) : Calls Tryz.prog 21 #[.agg #[.slice a1 n1 c1, .slice b1 m1 d1], .agg #[.slice a2 n2 c2, .slice b2 m2 d2], .agg #[.slice a3 n3 c3, .slice b3 m3 d3]] W (MEnd (amK o p u) W) := by
  cases p with
  | none => rw [am_1]; exact ram_1 (l := l) (k := k) (es := es) (gs := gs) h2
  | some t =>
  cases u with
  | none => rw [am_2]; exact ram_2 (l := l) (es := es) h2 h3
  | some r =>
    by_cases hv : vcE o = 0
    · obtain ⟨q, rfl, hl⟩ := vc_yes hv
      have e2 := h2.fst
      have e3 := h3.fst
      have l2 := h2.v.s.1
      have l3 := h3.v.s.1
      by_cases hn : 1 < n2
      · rw [am_4 r hl (by rw [e2, l2]; exact hn)]; exact ram_4 h1 h2 h3 hv hn
      · have hn' : ¬ 1 < t.1.length := by rw [e2, l2]; exact hn
        by_cases hpl : plE t (q.2.length : Int) = 0
        · by_cases h30 : n3 = 0
          · rw [am_7 hl hn' hpl (fun h => h.1 (List.length_eq_zero_iff.1 (by rw [e3, l3]; exact h30)))]; exact ram_7a h1 h2 h3 hv hn hpl h30
          · by_cases hs : t.1 = r.1
            · rw [am_7 hl hn' hpl (fun h => h.2 hs)]; exact ram_7b h1 h2 h3 hv hn hpl h30 hs
            · rw [am_6 hl hn' hpl ⟨fun e => h30 (by rw [← l3, ← e3, e]; rfl), hs⟩]; exact ram_6 h1 h2 h3 hv hn hpl h30 hs
        · rw [am_5 r hl hn' hpl]; exact ram_5 h1 h2 h3 hv hn hpl
    · rw [am_3 t r hv]; exact ram_3 h1 h2 h3 hv
end Go.Proofs.YtpledghphljfkaaGreatDoor

import Derived.Test.YtjpjccilnmlmnaaGreatDoorMbn
/-
  The reference's Join, by its contract.
-/
namespace Go.Proofs.YtjpjccilnmlmnaaGreatDoor
set_option linter.unusedVariables false
set_option linter.unusedSimpArgs false
open Go.RowKit

/-! ### What is behind the first axis -/
def tlA (a : Option Addr) (c : Nat) : Option Addr := if c = 1 then a else a.map (·.add 1)
theorem run_tl {T e : TypeId} (ht : Tryz.prog.underlying T = some (.slice e)) (hs : ∀ w, (Go.sizeOf e).run Tryz.prog w = .ok 1 w) (a : Option Addr) (n c : Nat) (h1 : 1 ≤ n) (h2 : n ≤ c) (w : World) :
    (Instr.slice T (.slice a n c) (some (.int .i64 1)) none none).run Tryz.prog w = .ok (.slice (tlA a c) (n - 1) (c - 1)) w := by
  have h3 : (1 : Int) ≤ (n : Int) := by omega
  have h4 : (n : Int) ≤ (c : Int) := by omega
  have h5 : 1 ≤ c := by omega
  by_cases hc : c = 1
  · subst hc
    obtain rfl : n = 1 := by omega
    simp [Instr.slice, Instr.sliceBounds, Instr.sliceBound, run_underlying ht, hs, asIntOf, tlA]
  · simp [Instr.slice, Instr.sliceBounds, Instr.sliceBound, run_underlying ht, hs, asIntOf, h1, h2, h3, h4, h5, hc, tlA]
theorem Sl.tl {W : World} {a : Option Addr} {n c : Nat} {l : List Int} (h : Sl W a n l) (h1 : 1 ≤ n) (h2 : n ≤ c) : Sl W (tlA a c) (n - 1) l.tail := by
  by_cases hn : n = 1
  · subst hn
    exact ⟨by rw [List.length_tail, h.1], fun h0 => by omega⟩
  · have h3 := h.cut1 h1
    unfold cutA at h3
    rw [if_neg hn] at h3
    unfold tlA
    rw [if_neg (by omega)]
    exact h3
def vcl (l : List Int) : List Int := if l = [] then [1] else l
theorem vcl_len (l : List Int) : (vcl l).length = l.length - 1 + 1 := by
  unfold vcl
  cases l with
  | nil => rfl
  | cons x r => simp
theorem vcl_tail (l : List Int) : (vcl l).tail = l.tail := by
  unfold vcl
  cases l with
  | nil => rfl
  | cons x r => simp
theorem vcl_head (l : List Int) : (vcl l).getD 0 0 = itV l := by
  unfold vcl itV
  cases l with
  | nil => rfl
  | cons x r => simp
/-- An array that has an axis, in a box, beside two other boxes. -/
def JC (W : World) (g : Nat) (n : Nat) (L : List Int) (b : Option Addr) (m d : Nat) (P : World → Prop) (w : World) : Prop :=
  ∃ a c, Bx w g a n c b m d ∧ Sl w a n L ∧ n ≤ c ∧ c ≤ maxLen ∧ P w ∧ Below W.heap.size W w
def OCut (l : List Int) (wz : World) (p : Value) (wx : World) : Prop :=
  ∃ g a n c, p = .pointer (some ⟨g, 0, none⟩) ∧ Bx wx g a n c none 0 0 ∧ Sl wx a n l ∧ n ≤ c ∧ c ≤ maxLen ∧ wz.heap.size ≤ g ∧ Below wz.heap.size wz wx
theorem OCut.new {l : List Int} {wz wb : World} {a : Option Addr} {n c : Nat} (hb : Below wz.heap.size wz wb) (hv : Sl wb a n l) (h1 : n ≤ c) (h2 : c ≤ maxLen) : OCut l wz (.pointer (some ⟨wb.heap.size, 0, none⟩)) (wb.alloc (.cells #[.slice a n c, .slice none 0 0] 25)) :=
  have h3 : Below wb.heap.size wb (wb.alloc (.cells #[.slice a n c, .slice none 0 0] 25)) := (Below.refl _ _).alloc (Nat.le_refl _) _
  ⟨_, a, n, c, rfl, Bx.new _ _ _ _ _ _ _, hv.below h3, h1, h2, hb.size, hb.alloc hb.size _⟩
theorem OCut.set {l : List Int} {wz wb : World} {a : Option Addr} {g n c : Nat} (hb : Below wz.heap.size wz wb) (hv : Sl wb a n l) (h1 : n ≤ c) (h2 : c ≤ maxLen) (hZ : Bx wb g none 0 0 none 0 0) (h3 : wz.heap.size ≤ g) : OCut l wz (.pointer (some ⟨g, 0, none⟩)) ((wb.setCell ⟨g, 0, none⟩ (.slice a n c)).setCell ⟨g, 1, none⟩ (.slice none 0 0)) :=
  ⟨_, a, n, c, rfl, hZ.set _ _ _ _ _ _, hZ.sl hv _ _, h1, h2, h3, (hb.setCell h3 _).setCell h3 _⟩
set_option maxRecDepth 100000 in
set_option maxHeartbeats 3200000 in
theorem rjn_1 {a1 b1 a2 b2 : Option Addr} {n1 c1 m1 d1 n2 c2 m2 d2 : Nat} {l m : List Int} {es fs : List ByteArray} {W : World} (h1 : Av W a1 n1 c1 b1 m1 d1 l es none) :
    Calls Tryz.prog 27 #[.agg #[.slice a1 n1 c1, .slice b1 m1 d1], .agg #[.slice a2 n2 c2, .slice b2 m2 d2]] W (MEnd (none, 1) W) := by
  have KV := Lib.hid (fun w (hb : Below W.heap.size W w) => rMay_av (h1.below hb))
  clear h1
  have h := live2 W a1 n1 c1 b1 m1 d1 a2 n2 c2 b2 m2 d2
  go_enter Tryz.func27, Tryz.ntmps27
  have x1 := h.out.2.2.1.c0
  have y1 := h.out.2.2.1.c1
  go_wp2_with fail
  with_reducible refine (live h (KV.out _ h.out.2.2.2)).mono ?_
  clear h x1 y1
  rintro e w ⟨rfl, h⟩
  have y0 := h.out.1.c0
  have y3 := h.out.1.c1
  have f0 := h.out.1.f 0
  have f1 := h.out.1.f 1
  go_wp2_with fail
  have hR := h.out.1.set none 0 0 none 0 0
  have r0 := hR.c0
  have r1 := hR.c1
  exact bodyPost_ret (v := .tuple #[.agg #[.slice none 0 0, .slice none 0 0], .int .i64 1]) (by simp [results, Tryz.results27, go_sem, r0, r1]) rfl (mend_no h.out.1 h.out.2.2.2 (by omega))
set_option maxRecDepth 100000 in
set_option maxHeartbeats 3200000 in
theorem rjn_2 {a1 b1 a2 b2 : Option Addr} {n1 c1 m1 d1 n2 c2 m2 d2 : Nat} {l m : List Int} {es fs : List ByteArray} {W : World} {q : Ar} (h1 : Av W a1 n1 c1 b1 m1 d1 l es (some q)) (h2 : Av W a2 n2 c2 b2 m2 d2 m fs none) :
    Calls Tryz.prog 27 #[.agg #[.slice a1 n1 c1, .slice b1 m1 d1], .agg #[.slice a2 n2 c2, .slice b2 m2 d2]] W (MEnd (none, 1) W) := by
  have KV := Lib.hid (fun w (hb : Below W.heap.size W w) => rMay_av (h1.below hb))
  have KU := Lib.hid (fun w (hb : Below W.heap.size W w) => rMay_av (h2.below hb))
  clear h1 h2
  have h := live2 W a1 n1 c1 b1 m1 d1 a2 n2 c2 b2 m2 d2
  go_enter Tryz.func27, Tryz.ntmps27
  have x1 := h.out.2.2.1.c0
  have y1 := h.out.2.2.1.c1
  go_wp2_with fail
  with_reducible refine (live h (KV.out _ h.out.2.2.2)).mono ?_
  clear h x1 y1
  rintro e w ⟨rfl, h⟩
  have x2 := h.out.2.1.c0
  have y2 := h.out.2.1.c1
  go_wp2_with fail
  with_reducible refine (live h (KU.out _ h.out.2.2.2)).mono ?_
  clear h x2 y2
  rintro e w ⟨rfl, h⟩
  have y0 := h.out.1.c0
  have y3 := h.out.1.c1
  have f0 := h.out.1.f 0
  have f1 := h.out.1.f 1
  go_wp2_with fail
  have hR := h.out.1.set none 0 0 none 0 0
  have r0 := hR.c0
  have r1 := hR.c1
  exact bodyPost_ret (v := .tuple #[.agg #[.slice none 0 0, .slice none 0 0], .int .i64 1]) (by simp [results, Tryz.results27, go_sem, r0, r1]) rfl (mend_no h.out.1 h.out.2.2.2 (by omega))
set_option maxRecDepth 100000 in
set_option maxHeartbeats 3200000 in
theorem rjn_y {a1 b1 a2 b2 : Option Addr} {n1 c1 m1 d1 n2 c2 m2 d2 : Nat} {l m : List Int} {es fs : List ByteArray} {W : World} {q r : Ar} (h1 : Av W a1 n1 c1 b1 m1 d1 l es (some q)) (h2 : Av W a2 n2 c2 b2 m2 d2 m fs (some r)) :
    Calls Tryz.prog 27 #[.agg #[.slice a1 n1 c1, .slice b1 m1 d1], .agg #[.slice a2 n2 c2, .slice b2 m2 d2]] W (MEnd (if n1 - 1 ≠ n2 - 1 then (none, 3) else if l.tail ≠ m.tail then (none, 4) else if szE ((itV l + itV m) :: l.tail) ≠ 0 then (none, szE ((itV l + itV m) :: l.tail)) else (some ((itV l + itV m) :: l.tail, q.2 ++ r.2), 0)) W) := by
  obtain ⟨R, hR⟩ : ∃ R, R = (if n1 - 1 ≠ n2 - 1 then (none, 3) else if l.tail ≠ m.tail then (none, 4) else if szE ((itV l + itV m) :: l.tail) ≠ 0 then (none, szE ((itV l + itV m) :: l.tail)) else (some ((itV l + itV m) :: l.tail, q.2 ++ r.2), 0)) := ⟨_, rfl⟩
  rw [← hR]
  have HRES := Lib.hid hR
  have hb1 := h1.items.2.2.1
  have hb2 := h2.items.2.2.1
  have hv1 := h1.items.2.1
  have hv2 := h2.items.2.1
  have hn3 := h1.n3
  have hn4 := h2.n3
  have hm1 := h1.mlen.2.2
  have hm2 := h2.mlen.2.2
  have HV := Lib.hid h1
  have HU := Lib.hid h2
  have HL1 := Lib.hid (show (vcl l).length = n1 - 1 + 1 by rw [vcl_len, h1.v.s.1])
  have HL2 := Lib.hid (show (vcl m).length = n2 - 1 + 1 by rw [vcl_len, h2.v.s.1])
  have KV := Lib.hid (fun w (hb : Below W.heap.size W w) => rMay_av (h1.below hb))
  have KU := Lib.hid (fun w (hb : Below W.heap.size W w) => rMay_av (h2.below hb))
  have HT0 := Lib.hid (And.intro h1.v.t h2.v.t)
  have HQ := Lib.hid (fun (ht : l.tail = m.tail) (hz : szE ((itV l + itV m) :: l.tail) = 0) => (show Rok (some ((itV l + itV m) :: l.tail, q.2 ++ r.2)) by
    have e1 := h1.fst
    have e2 := h2.fst
    subst e1 e2
    exact jn_rok h1.i.rok h2.i.rok h1.fits h2.fits ht hz))
  have HE := Lib.hid (show es ++ fs = (q.2 ++ r.2).map S by rw [h1.i.2.1, h2.i.2.1, List.map_append])
  clear hR h1 h2
  have h := live2 W a1 n1 c1 b1 m1 d1 a2 n2 c2 b2 m2 d2
  go_enter Tryz.func27, Tryz.ntmps27
  have x1 := h.out.2.2.1.c0
  have y1 := h.out.2.2.1.c1
  go_wp2_with fail
  with_reducible refine (live h (KV.out _ h.out.2.2.2)).mono ?_
  clear h x1 y1
  rintro e w ⟨rfl, h⟩
  have x2 := h.out.2.1.c0
  have y2 := h.out.2.1.c1
  go_wp2_with fail
  with_reducible refine (live h (KU.out _ h.out.2.2.2)).mono ?_
  clear h x2 y2
  rintro e w ⟨rfl, h⟩
  have x1 := h.out.2.2.1.c0
  have y1 := h.out.2.2.1.c1
  have g0 := h.out.2.2.1.f 0
  have g1 := h.out.2.2.1.f 1
  go_upto_if 21 with fail
  go_cut [] (fun wx => JC W W.heap.size (n1 - 1 + 1) (vcl l) b1 m1 d1 (fun X => Bx X (W.heap.size + 1 + 1) none 0 0 none 0 0 ∧ Bx X (W.heap.size + 1) a2 n2 c2 b2 m2 d2) wx)
  case first =>
    by_cases hn0 : n1 = 0
    · subst hn0
      obtain rfl : l = [] := List.length_eq_zero_iff.1 HV.out.v.s.1
      have lV := h.out.2.2.1.lt
      go_wp2_with fail
      go_meet
      case rel =>
        have hA : Below w.heap.size w (w.alloc (.cells #[.int .i64 1] 3)) := (Below.refl _ _).alloc (Nat.le_refl _) _
        replace h := live_to h hA
        have hJ : JC W W.heap.size (0 - 1 + 1) (vcl []) b1 m1 d1 (fun X => Bx X (W.heap.size + 1 + 1) none 0 0 none 0 0 ∧ Bx X (W.heap.size + 1) a2 n2 c2 b2 m2 d2) (((w.alloc (.cells #[.int .i64 1] 3)).setCell ⟨W.heap.size, 0, none⟩ (.slice (some ⟨w.heap.size, 0, none⟩) 1 1)).setCell ⟨W.heap.size, 1, none⟩ (.slice b1 m1 d1)) :=
          ⟨some ⟨w.heap.size, 0, none⟩, 1, h.out.2.2.1.set _ _ _ _ _ _, h.out.2.2.1.sl (own_sl (own_new1 w 1)) _ _, Nat.le_refl _, by unfold maxLen; omega, ⟨(h.out.1.setOther (p := ⟨W.heap.size, 0, none⟩) (by simp <;> omega) _).setOther (p := ⟨W.heap.size, 1, none⟩) (by simp <;> omega) _, (h.out.2.1.setOther (p := ⟨W.heap.size, 0, none⟩) (by simp <;> omega) _).setOther (p := ⟨W.heap.size, 1, none⟩) (by simp <;> omega) _⟩, (h.out.2.2.2.setCell (Nat.le_refl _) _).setCell (Nat.le_refl _) _⟩
        rw [World.setCell_alloc_past (hn := lV), World.setCell_alloc_past (hn := by simpa using lV)] at hJ
        exact hJ
    · have hne : ((n1 : Int) == 0) = false := beq_eq_false_iff_ne.2 (by omega)
      have hJ : JC W W.heap.size (n1 - 1 + 1) (vcl l) b1 m1 d1 (fun X => Bx X (W.heap.size + 1 + 1) none 0 0 none 0 0 ∧ Bx X (W.heap.size + 1) a2 n2 c2 b2 m2 d2) w := by
        have e1 : n1 - 1 + 1 = n1 := by omega
        have e2 : vcl l = l := if_neg fun e => by have := HV.out.v.s.1; rw [e] at this; simp at this; omega
        rw [e1, e2]
        exact ⟨a1, c1, h.out.2.2.1, HV.out.v.s.below h.out.2.2.2, HV.out.c.1, HV.out.c.2, ⟨h.out.1, h.out.2.1⟩, h.out.2.2.2⟩
      clear h
      go_wp2_with fail
      go_meet
      case rel => exact hJ
  case rest =>
  clear h x1 y1 g0 g1
  obtain ⟨a1', c1', hB1, hS1, hc1, hd1, ⟨hR0, hB2⟩, hb0⟩ := hcut
  have x2 := hB2.c0
  have y2 := hB2.c1
  have g0 := hB2.f 0
  have g1 := hB2.f 1
  go_upto_if 29 with fail
  go_cut [] (fun wx => JC W (W.heap.size + 1) (n2 - 1 + 1) (vcl m) b2 m2 d2 (fun X => Bx X (W.heap.size + 1 + 1) none 0 0 none 0 0 ∧ Bx X W.heap.size a1' (n1 - 1 + 1) c1' b1 m1 d1 ∧ Sl X a1' (n1 - 1 + 1) (vcl l)) wx)
  case first =>
    by_cases hn0 : n2 = 0
    · subst hn0
      obtain rfl : m = [] := List.length_eq_zero_iff.1 HU.out.v.s.1
      have lV := hB2.lt
      go_wp2_with fail
      go_meet
      case rel =>
        have hA : Below wc.heap.size wc (wc.alloc (.cells #[.int .i64 1] 3)) := (Below.refl _ _).alloc (Nat.le_refl _) _
        have hJ : JC W (W.heap.size + 1) (0 - 1 + 1) (vcl []) b2 m2 d2 (fun X => Bx X (W.heap.size + 1 + 1) none 0 0 none 0 0 ∧ Bx X W.heap.size a1' (n1 - 1 + 1) c1' b1 m1 d1 ∧ Sl X a1' (n1 - 1 + 1) (vcl l)) (((wc.alloc (.cells #[.int .i64 1] 3)).setCell ⟨W.heap.size + 1, 0, none⟩ (.slice (some ⟨wc.heap.size, 0, none⟩) 1 1)).setCell ⟨W.heap.size + 1, 1, none⟩ (.slice b2 m2 d2)) :=
          ⟨some ⟨wc.heap.size, 0, none⟩, 1, (hB2.alloc _).set _ _ _ _ _ _, (hB2.alloc _).sl (own_sl (own_new1 wc 1)) _ _, Nat.le_refl _, by unfold maxLen; omega, ⟨((hR0.alloc _).setOther (p := ⟨W.heap.size + 1, 0, none⟩) (by simp <;> omega) _).setOther (p := ⟨W.heap.size + 1, 1, none⟩) (by simp <;> omega) _, ((hB1.alloc _).setOther (p := ⟨W.heap.size + 1, 0, none⟩) (by simp <;> omega) _).setOther (p := ⟨W.heap.size + 1, 1, none⟩) (by simp <;> omega) _, (hB2.alloc _).sl (hS1.below hA) _ _⟩, (((hb0.alloc hb0.size _).setCell (Nat.le_succ _) _).setCell (Nat.le_succ _) _)⟩
        rw [World.setCell_alloc_past (hn := lV), World.setCell_alloc_past (hn := by simpa using lV)] at hJ
        exact hJ
    · have hne : ((n2 : Int) == 0) = false := beq_eq_false_iff_ne.2 (by omega)
      have hJ : JC W (W.heap.size + 1) (n2 - 1 + 1) (vcl m) b2 m2 d2 (fun X => Bx X (W.heap.size + 1 + 1) none 0 0 none 0 0 ∧ Bx X W.heap.size a1' (n1 - 1 + 1) c1' b1 m1 d1 ∧ Sl X a1' (n1 - 1 + 1) (vcl l)) wc := by
        have e1 : n2 - 1 + 1 = n2 := by omega
        have e2 : vcl m = m := if_neg fun e => by have := HU.out.v.s.1; rw [e] at this; simp at this; omega
        rw [e1, e2]
        exact ⟨a2, c2, hB2, HU.out.v.s.below hb0, HU.out.c.1, HU.out.c.2, ⟨hR0, hB1, hS1⟩, hb0⟩
      clear hR0 hB1 hS1 hB2
      go_wp2_with fail
      go_meet
      case rel => exact hJ
  case rest =>
  clear hR0 hB1 hS1 hB2 hb0 x2 y2 g0 g1
  obtain ⟨a2', c2', hB2, hS2, hc2, hd2, ⟨hR0, hB1, hS1⟩, hb0⟩ := hcut

  have HMM := Lib.hid (show n1 - 1 ≠ n2 - 1 ↔ n1 - 1 + 1 ≠ n2 - 1 + 1 by omega)
  have hM1 : 1 ≤ n1 - 1 + 1 ∧ n1 - 1 + 1 ≤ 3 := by omega
  have hM2 : 1 ≤ n2 - 1 + 1 ∧ n2 - 1 + 1 ≤ 3 := by omega
  generalize n1 - 1 + 1 = M1 at *
  generalize n2 - 1 + 1 = M2 at *
  have h : Lv (fun z => Sl z a1' M1 (vcl l) ∧ Sl z a2' M2 (vcl m) ∧ Bx z (W.heap.size + 1 + 1) none 0 0 none 0 0 ∧ Bx z W.heap.size a1' M1 c1' b1 m1 d1 ∧ Bx z (W.heap.size + 1) a2' M2 c2' b2 m2 d2 ∧ Below W.heap.size W z) wc := ⟨⟨hS1, hS2, hR0, hB1, hB2, hb0⟩⟩
  have x1 := hB1.c0
  have x2 := hB2.c0
  clear hn3 hn4 hS1 hS2 hR0 hB1 hB2 hb0 HL1 HL2
  by_cases hMe : M1 = M2
  · subst hMe
    have HM := Lib.hid (show ¬ (n1 - 1 ≠ n2 - 1) from fun e => HMM.out.1 e rfl)
    obtain ⟨A1, hA1⟩ : ∃ A, A = tlA a1' c1' := ⟨_, rfl⟩
    obtain ⟨A2, hA2⟩ : ∃ A, A = tlA a2' c2' := ⟨_, rfl⟩
    obtain ⟨K, hK⟩ : ∃ K, K = M1 - 1 := ⟨_, rfl⟩
    obtain ⟨C1, hC1⟩ : ∃ C, C = c1' - 1 := ⟨_, rfl⟩
    obtain ⟨C2, hC2⟩ : ∃ C, C = c2' - 1 := ⟨_, rfl⟩
    have hr1 := run_tl Tryz.underlying22 sizeInt a1' M1 c1' hM1.1 hc1
    have hr2 := run_tl Tryz.underlying22 sizeInt a2' M1 c2' hM1.1 hc2
    rw [← hA1, ← hK, ← hC1] at hr1
    rw [← hA2, ← hK, ← hC2] at hr2
    have hq : Below wc.heap.size wc wc := Below.refl _ _
    have hqz := hq.size
    have HLV := Lib.hid h
    have lV := h.out.2.2.2.1.lt
    have lW := h.out.2.2.2.2.1.lt
    have Q1 : Hid (∀ z, Below wc.heap.size wc z → Calls Tryz.prog 62 #[.slice A1 K C1, .slice A2 K C2] z fun e w' => e = .returned (.bool (l.tail == m.tail)) ∧ Below wc.heap.size wc w') := Lib.hid fun z hz => by
      have k1 := (h.out.1.below hz).tl hM1.1 hc1
      have k2 := (h.out.2.1.below hz).tl hM1.1 hc2
      rw [vcl_tail, ← hA1, ← hK] at k1
      rw [vcl_tail, ← hA2, ← hK] at k2
      exact (rSame_is A1 A2 K C1 K C2 l.tail m.tail z k1 k2 (by omega) (by omega) _ rfl).mono fun e w' kk => ⟨kk.1, hz.trans (kk.2.below.mono hz.size)⟩
    clear hA1 hA2 hC1 hC2 hK h
    obtain ⟨B, hBB⟩ : ∃ B, B = (l.tail == m.tail) := ⟨_, rfl⟩
    rw [← hBB] at Q1
    have HBB := Lib.hid hBB
    clear hBB
    go_upto_region 9 with fail
    cases B
    · go_region_held3 (fun w' => w'.cell? ⟨W.heap.size, 0, none⟩ = some (.slice a1' M1 c1') ∧ w'.cell? ⟨W.heap.size + 1, 0, none⟩ = some (.slice a2' M1 c2'))
        (first | exact ⟨(Below.cell (p := ⟨W.heap.size, 0, none⟩) (by repeat' (first | exact hq | refine Below.drew ?_ | refine below_drewN ?_ _ | refine Below.alloc ?_ ?_ _ | refine Below.setCell ?_ ?_ _ | exact hqz | exact Nat.le_refl _ | omega | (simp; done) | (simp; omega))) lV).trans x1, (Below.cell (p := ⟨W.heap.size + 1, 0, none⟩) (by repeat' (first | exact hq | refine Below.drew ?_ | refine below_drewN ?_ _ | refine Below.alloc ?_ ?_ _ | refine Below.setCell ?_ ?_ _ | exact hqz | exact Nat.le_refl _ | omega | (simp; done) | (simp; omega))) lW).trans x2⟩ | fail)
        (first
          | (go_at_call 62; (with_reducible refine (Q1.out _ (by repeat' (first | exact hq | refine Below.drew ?_ | refine below_drewN ?_ _ | refine Below.alloc ?_ ?_ _ | refine Below.setCell ?_ ?_ _ | exact hqz | exact Nat.le_refl _ | omega | (simp; done) | (simp; omega)))).mono ?_); rintro e wa ⟨rfl, hq⟩; have hqz := hq.size)
          | fail)
      all_goals
        have h2 := Lib.hid (live_belS HLV.out hq (Nat.le_refl _))
        clear Q1 hq HLV x1 x2 hr1 hr2
        have y0 := h2.out.out.2.2.1.c0
        have y3 := h2.out.out.2.2.1.c1
        have f0 := h2.out.out.2.2.1.f 0
        have f1 := h2.out.out.2.2.1.f 1
        go_wp2_with fail
        have hR := h2.out.out.2.2.1.set none 0 0 none 0 0
        have r0 := hR.c0
        have r1 := hR.c1
        exact bodyPost_ret (v := .tuple #[.agg #[.slice none 0 0, .slice none 0 0], .int .i64 4]) (by simp [results, Tryz.results27, go_sem, r0, r1]) rfl (by
          rw [show R = (none, 4) from HRES.out.trans (by rw [if_neg HM.out, if_pos (fun e => by have := HBB.out; rw [e, beq_self_eq_true] at this; cases this)])]
          exact mend_no h2.out.out.2.2.1 h2.out.out.2.2.2.2.2 (by omega))
    · go_region_held3 (fun w' => w'.cell? ⟨W.heap.size, 0, none⟩ = some (.slice a1' M1 c1') ∧ w'.cell? ⟨W.heap.size + 1, 0, none⟩ = some (.slice a2' M1 c2'))
        (first | exact ⟨(Below.cell (p := ⟨W.heap.size, 0, none⟩) (by repeat' (first | exact hq | refine Below.drew ?_ | refine below_drewN ?_ _ | refine Below.alloc ?_ ?_ _ | refine Below.setCell ?_ ?_ _ | exact hqz | exact Nat.le_refl _ | omega | (simp; done) | (simp; omega))) lV).trans x1, (Below.cell (p := ⟨W.heap.size + 1, 0, none⟩) (by repeat' (first | exact hq | refine Below.drew ?_ | refine below_drewN ?_ _ | refine Below.alloc ?_ ?_ _ | refine Below.setCell ?_ ?_ _ | exact hqz | exact Nat.le_refl _ | omega | (simp; done) | (simp; omega))) lW).trans x2⟩ | fail)
        (first
          | (go_at_call 62; (with_reducible refine (Q1.out _ (by repeat' (first | exact hq | refine Below.drew ?_ | refine below_drewN ?_ _ | refine Below.alloc ?_ ?_ _ | refine Below.setCell ?_ ?_ _ | exact hqz | exact Nat.le_refl _ | omega | (simp; done) | (simp; omega)))).mono ?_); rintro e wa ⟨rfl, hq⟩; have hqz := hq.size)
          | fail)
      all_goals
        have h := live_belS HLV.out hq (Nat.le_refl _)
        clear Q1 HLV x1 x2 hr1 hr2 lV lW
        have HT := Lib.hid (show l.tail = m.tail from beq_iff_eq.1 HBB.out.symm)
        obtain ⟨p1, o1, ha1, hc'1⟩ := h.out.1.2 hM1.1
        obtain ⟨p2, o2, ha2, hc'2⟩ := h.out.2.1.2 hM1.1
        subst ha1 ha2
        have hk1 := hc'1 0 hM1.1
        have hk2 := hc'2 0 hM1.1
        rw [vcl_head, Nat.add_zero] at hk1 hk2
        have hw : IntKind.i64.wrap (itV l + itV m) = itV l + itV m := IntWalk.i64_in _ (by omega)
        have KB := Lib.hid (fun z (hz : Below wa.heap.size wa z) => (show Calls Tryz.prog 63 #[.agg #[.slice (some ⟨p1, o1, none⟩) M1 c1', .slice b1 m1 d1], .int .i64 (itV l + itV m)] z (BarEnd ((itV l + itV m) :: l.tail) z) from by
          have k := rbare_o (c := c1') (b := b1) (m := m1) (d := d1) z (h.out.1.below hz) hM1.1 (by omega) (itV l + itV m)
          rwa [vcl_tail] at k))
        have KZ := Lib.hid (fun w a n c (hs : Sl w a n ((itV l + itV m) :: l.tail)) => rSize_is a n c ((itV l + itV m) :: l.tail) w hs)
        unfold SizeIs at KZ
        generalize itV l = v1 at *
        generalize itV m = v2 at *
        obtain ⟨vs, hvs⟩ : ∃ vs, vs = v1 + v2 := ⟨_, rfl⟩
        have hw2 : IntKind.i64.wrap (v1 + v2) = vs := hw.trans hvs.symm
        clear hw
        rw [← hvs] at KB KZ HRES HQ
        obtain ⟨E, hEE⟩ : ∃ E, E = szE (vs :: l.tail) := ⟨_, rfl⟩
        rw [← hEE] at KZ
        have HEE := Lib.hid hEE
        generalize szV (vs :: l.tail) = vz at *
        have hq2 : Below wa.heap.size wa wa := Below.refl _ _
        have x1 := h.out.2.2.2.1.c0
        have y1 := h.out.2.2.2.1.c1
        have x2 := h.out.2.2.2.2.1.c0
        have lV := h.out.2.2.2.1.lt
        have lW := h.out.2.2.2.2.1.lt
        have lp1 : p1 < wa.heap.size := World.block_lt_of_cell? wa _ hk1
        have lp2 : p2 < wa.heap.size := World.block_lt_of_cell? wa _ hk2
        have HLV := Lib.hid h
        have Q2 : Hid (∀ z, Below wa.heap.size wa z → Calls Tryz.prog 63 #[.agg #[.slice (some ⟨p1, o1, none⟩) M1 c1', .slice b1 m1 d1], .int .i64 vs] z fun e w' => ∃ a n c, e = .returned (.agg #[.slice a n c, .slice none 0 0]) ∧ Sl w' a n (vs :: l.tail) ∧ n ≤ c ∧ c ≤ maxLen ∧ Below wa.heap.size wa w' ∧ Below z.heap.size z w') := Lib.hid fun z hz => (KB.out z hz).mono fun e w' k => by
          obtain ⟨a, n, c, k1, k2, k3, k4, k5⟩ := k
          exact ⟨a, n, c, k1, k2, k3, k4, hz.trans (k5.mono hz.size), k5⟩
        clear h hc'1 hc'2 KB hvs hEE hq
        have hM0 : 0 < M1 := hM1.1
        have hM0i : (0 : Int) < (M1 : Int) := by omega
        have hq := hq2
        have hqz := hq.size
        clear hq2
        have HK5 : Hid (∀ z, Below wa.heap.size wa z → z.cell? ⟨W.heap.size, 0, none⟩ = some (.slice (some ⟨p1, o1, none⟩) M1 c1') ∧ z.cell? ⟨W.heap.size, 1, none⟩ = some (.slice b1 m1 d1) ∧ z.cell? ⟨W.heap.size + 1, 0, none⟩ = some (.slice (some ⟨p2, o2, none⟩) M1 c2') ∧ z.cell? ⟨p1, o1, none⟩ = some (.int .i64 v1) ∧ z.cell? ⟨p2, o2, none⟩ = some (.int .i64 v2)) := Lib.hid fun z hz => ⟨(hz.cell (p := ⟨W.heap.size, 0, none⟩) lV).trans x1, (hz.cell (p := ⟨W.heap.size, 1, none⟩) lV).trans y1, (hz.cell (p := ⟨W.heap.size + 1, 0, none⟩) lW).trans x2, (hz.cell (p := ⟨p1, o1, none⟩) lp1).trans hk1, (hz.cell (p := ⟨p2, o2, none⟩) lp2).trans hk2⟩
        go_wp2_with fail
        go_cut [6] (fun p wx => OCut (vs :: l.tail) wa p wx)
        case first =>
          go_region_held3 (fun w' => w'.cell? ⟨W.heap.size, 0, none⟩ = some (.slice (some ⟨p1, o1, none⟩) M1 c1') ∧ w'.cell? ⟨W.heap.size, 1, none⟩ = some (.slice b1 m1 d1) ∧ w'.cell? ⟨W.heap.size + 1, 0, none⟩ = some (.slice (some ⟨p2, o2, none⟩) M1 c2') ∧ w'.cell? ⟨p1, o1, none⟩ = some (.int .i64 v1) ∧ w'.cell? ⟨p2, o2, none⟩ = some (.int .i64 v2))
            (first | exact HK5.out _ (by repeat' (first | exact hq | refine Below.drew ?_ | refine below_drewN ?_ _ | refine Below.alloc ?_ ?_ _ | refine Below.setCell ?_ ?_ _ | exact hqz | exact Nat.le_refl _ | omega | (simp; done) | (simp; omega))) | fail)
            (first
              | (go_at_call 63; (with_reducible refine (Q2.out _ (by repeat' (first | exact hq | refine Below.drew ?_ | refine below_drewN ?_ _ | refine Below.alloc ?_ ?_ _ | refine Below.setCell ?_ ?_ _ | exact hqz | exact Nat.le_refl _ | omega | (simp; done) | (simp; omega)))).mono ?_); rintro e wb ⟨a', n', c', rfl, hv', hn', hc', hq, hr⟩; have hqz := hq.size; (try (have hZ1 := Bx.on (by first | exact Bz.d _ _ | exact Bz.e _ _ | exact Bz.f _ _ | exact Bz.g _ _ | exact Bz.h _ _ | exact Bz.i _ _ | exact Bz.j _ _ | exact Bz.k _ _ | exact Bz.a _ | exact Bz.b _ | exact Bz.c _ | exact Bz.l _) hr; have y0 := hZ1.c0; have y1 := hZ1.c1; have g0 := hZ1.f 0; have g1 := hZ1.f 1)))
              | fail)
          all_goals
            go_wp2_with fail
            go_meet
            case rel => with_reducible first | exact OCut.new hq hv' hn' hc' | (refine OCut.set hq hv' hn' hc' hZ1 ?_ <;> first | exact Nat.le_refl _ | exact hqz | omega | (simp; done) | (simp; omega))
        case rest =>
        clear hq hqz Q2 HK5 x1 y1 x2 lV lW hk1 hk2 lp1 lp2
        obtain ⟨g6, a6, n6, c6, rfl, hX, hS6, hc6, hd6, hg6, hbc⟩ := hcut
        have h := live_belS HLV.out hbc (Nat.le_refl _)
        have lV := h.out.2.2.2.1.lt
        have HT2 := Lib.hid (show St wc b1 m1 es ∧ St wc b2 m2 fs from ⟨HT0.out.1.below h.out.2.2.2.2.2, HT0.out.2.below h.out.2.2.2.2.2⟩)
        have hgV : g6 ≠ W.heap.size := by have := HLV.out.out.2.2.2.1.lt; omega
        have hgW : g6 ≠ W.heap.size + 1 := by have := HLV.out.out.2.2.2.2.1.lt; omega
        have hgR : g6 ≠ W.heap.size + 1 + 1 := by have := HLV.out.out.2.2.1.lt; omega
        have hWg : W.heap.size ≤ g6 := by have := HLV.out.out.2.2.2.1.lt; omega
        have lg6 := hX.lt
        have hsb : Hid (∀ p, a6 = some p → 0 < n6 → p.block < wc.heap.size) := Lib.hid fun p hp h0 => by
          obtain ⟨b', o', e', hc'⟩ := hS6.2 h0
          rw [hp] at e'
          injection e' with e'
          rw [e']
          exact World.block_lt_of_cell? wc _ (hc' 0 h0)
        clear HLV hbc hg6
        have x1 := hX.c1
        have y1 := h.out.2.2.2.1.c1
        have hr2 := Lib.hid HT2.out.1.rd
        obtain ⟨B0, hB0⟩ : ∃ B0, B0 = wc.heap.size := ⟨_, rfl⟩
        have HB0 := Lib.hid hB0
        rw [← hB0] at hsb
        clear hB0
        go_upto_region 13 with (at_builtin; refine wpList_append_rd rfl (.tmp 63) (.tmp 65) 23 rfl B0 9 (.string ⟨#[]⟩) 16 Tryz.underlying23 infoStr rfl (by decide) _ 0 [] rfl (World.ownsRow_nil _ _ _ _) _ m1 d1 (valsS es) rfl hr2.out (valsS_one _) (by omega) (by rw [HB0.out]; exact Nat.le_refl _) ?_; intro av cv w3 hown3 hg3; have hb3 : Below wc.heap.size wc w3 := own_grown (World.ownsRow_nil wc wc.heap.size 9 1) hg3 (Nat.le_refl _); have hO3 := hX.below hb3 hX.lt; have z1 := hO3.c1; have g2 := hO3.f 1)
        rw [Nat.zero_add, List.nil_append] at hown3
        have h3 := live_belS h hb3 (Nat.le_refl _)
        have hS3 := hS6.below hb3
        have hT3 := HT2.out.2.below hb3
        have hO4 := Lib.hid (hO3.set1 av m1 cv)
        have hS4 := Lib.hid (hO3.sl1 hS3 (.inr rfl) (.slice av m1 cv))
        have hT4 := Lib.hid (hO3.st1 hT3 (.inr rfl) (.slice av m1 cv))
        have hw4 := Lib.hid (own_set_bx hown3 (by decide) hO3 1 (.slice av m1 cv))
        have hR4 := Lib.hid (h3.out.2.2.1.setOther (p := ⟨g6, 1, none⟩) (Ne.symm hgR) (.slice av m1 cv))
        have hW4 := Lib.hid (h3.out.2.2.2.2.1.setOther (p := ⟨g6, 1, none⟩) (Ne.symm hgW) (.slice av m1 cv))
        have hb4 := Lib.hid (h3.out.2.2.2.2.2.setCell (p := ⟨g6, 1, none⟩) hWg (.slice av m1 cv))
        have hz4 : B0 ≤ (w3.setCell ⟨g6, 1, none⟩ (.slice av m1 cv)).heap.size := by rw [HB0.out]; simpa using hb3.size
        clear hown3 hg3 hb3 hO3 z1 g2 h3 hS3 hT3 hr2 x1 y1 h hX hS6 HT2
        generalize hw5 : w3.setCell ⟨g6, 1, none⟩ (.slice av m1 cv) = w5 at *
        clear hw5
        have x1 := hO4.out.c1
        have y1 := hW4.out.c1
        have hr5 := Lib.hid hT4.out.rd
        go_upto_region 14 with (at_builtin; refine wpList_append_rd rfl (.tmp 69) (.tmp 71) 23 rfl B0 9 (.string ⟨#[]⟩) 16 Tryz.underlying23 infoStr rfl (by decide) _ m1 (valsS es) rfl hw4.out _ m2 d2 (valsS fs) rfl hr5.out (valsS_one _) (by omega) hz4 ?_; intro av6 cv6 w6 hown6 hg6; have hO6 := Bx.grownV hw4.out (by decide) hg6 hO4.out; have z1 := hO6.c1; have g2 := hO6.f 1)
        rw [valsS_add] at hown6
        have hR6 := Bx.grownV hw4.out (by decide) hg6 hR4.out
        have hb6 := hb4.out.trans ((own_grown hw4.out hg6 hz4).mono (by rw [HB0.out]; omega))
        have hS6 := hS4.out.grown_far hg6 (fun p hp h0 e => by have h5 := (hw4.out.lt _ e.symm).1; have h6 := hsb.out p hp h0; omega)
        have hO7 := Lib.hid (hO6.set1 av6 (m1 + m2) cv6)
        have hS7 := Lib.hid (hO6.sl1 hS6 (.inr rfl) (.slice av6 (m1 + m2) cv6))
        have hw7 := Lib.hid (own_set_bx hown6 (by decide) hO6 1 (.slice av6 (m1 + m2) cv6))
        have hR7 := Lib.hid (hR6.setOther (p := ⟨g6, 1, none⟩) (Ne.symm hgR) (.slice av6 (m1 + m2) cv6))
        have hb7 := Lib.hid (hb6.setCell (p := ⟨g6, 1, none⟩) hWg (.slice av6 (m1 + m2) cv6))
        clear hown6 hg6 hb6 hO6 z1 g2 hS6 hr5 x1 y1 hO4 hS4 hT4 hw4 hR4 hW4 hb4 hz4 hR6
        generalize hw8 : w6.setCell ⟨g6, 1, none⟩ (.slice av6 (m1 + m2) cv6) = w8 at *
        clear hw8
        have x0 := hO7.out.c0
        go_wp2_with fail
        refine (KZ.out _ _ _ c6 hS7.out).mono ?_
        rintro e w9 ⟨rfl, rfl⟩
        have y0 := hR7.out.c0
        have y3 := hR7.out.c1
        have f0 := hR7.out.f 0
        have f1 := hR7.out.f 1
        by_cases hE : E = 0
        · subst hE
          have x5 := hO7.out.c1
          go_wp2_with fail
          have hR := hR7.out.set a6 n6 c6 av6 (m1 + m2) cv6
          have r0 := hR.c0
          have r1 := hR.c1
          have hV : Vl w8 a6 n6 av6 (m1 + m2) (TS (some (vs :: l.tail, q.2 ++ r.2))).1 (TS (some (vs :: l.tail, q.2 ++ r.2))).2 := ⟨hS7.out, by rw [show (TS (some (vs :: l.tail, q.2 ++ r.2))).2 = es ++ fs from HE.out.symm]; exact own_st hw7.out, by omega⟩
          exact bodyPost_ret (v := .tuple #[.agg #[.slice a6 n6 c6, .slice av6 (m1 + m2) cv6], .int .i64 0]) (by simp [results, Tryz.results27, go_sem, r0, r1]) rfl (by
            rw [show R = (some (vs :: l.tail, q.2 ++ r.2), 0) from by rw [HRES.out, if_neg HM.out, if_neg (fun e => e HT.out), if_neg (by rw [← HEE.out]; simp)]]
            exact mend_box (r := (some (vs :: l.tail, q.2 ++ r.2), 0)) hR7.out hb7.out (by omega) hV ⟨hc6, hd6, (own_caps hw7.out).1, (own_caps hw7.out).2⟩ (HQ.out HT.out HEE.out.symm))
        · have hEb : (E != 0) = true := by simpa using hE
          go_wp2_with fail
          have hR := hR7.out.set none 0 0 none 0 0
          have r0 := hR.c0
          have r1 := hR.c1
          exact bodyPost_ret (v := .tuple #[.agg #[.slice none 0 0, .slice none 0 0], .int .i64 E]) (by simp [results, Tryz.results27, go_sem, r0, r1]) rfl (by
            rw [show R = (none, E) from by rw [HRES.out, if_neg HM.out, if_neg (fun e => e HT.out), if_pos (by rw [← HEE.out]; exact hE), ← HEE.out]]
            exact mend_no hR7.out hb7.out (by omega))
  · have hne : (M1 : Int) ≠ (M2 : Int) := by omega
    have h2 := Lib.hid h
    clear h
    have y0 := h2.out.out.2.2.1.c0
    have y3 := h2.out.out.2.2.1.c1
    have f0 := h2.out.out.2.2.1.f 0
    have f1 := h2.out.out.2.2.1.f 1
    go_wp2_with fail
    have hR := h2.out.out.2.2.1.set none 0 0 none 0 0
    have r0 := hR.c0
    have r1 := hR.c1
    exact bodyPost_ret (v := .tuple #[.agg #[.slice none 0 0, .slice none 0 0], .int .i64 3]) (by simp [results, Tryz.results27, go_sem, r0, r1]) rfl (by
      rw [show R = (none, 3) from HRES.out.trans (if_pos (HMM.out.2 hMe))]
      exact mend_no h2.out.out.2.2.1 h2.out.out.2.2.2.2.2 (by omega))

theorem rJoin_is {a1 b1 a2 b2 : Option Addr} {n1 c1 m1 d1 n2 c2 m2 d2 : Nat} {l m : List Int} {es fs : List ByteArray} {W : World} {o p : Option Ar} (h1 : Av W a1 n1 c1 b1 m1 d1 l es o) (h2 : Av W a2 n2 c2 b2 m2 d2 m fs p) : Calls Tryz.prog 27 #[.agg #[.slice a1 n1 c1, .slice b1 m1 d1], .agg #[.slice a2 n2 c2, .slice b2 m2 d2]] W (MEnd (jnM o p) W) := by
  cases o with
  | none => exact rjn_1 (m := m) (fs := fs) h1
  | some q =>
  cases p with
  | none => exact rjn_2 h1 h2
  | some r =>
  have l1 : q.1.length = n1 := by rw [h1.fst]; exact h1.v.s.1
  have l2 : r.1.length = n2 := by rw [h2.fst]; exact h2.v.s.1
  have e1 := h1.fst
  have e2 := h2.fst
  have eq0 : jnM (some q) (some r) = if n1 - 1 ≠ n2 - 1 then (none, 3) else if l.tail ≠ m.tail then (none, 4) else if szE ((itV l + itV m) :: l.tail) ≠ 0 then (none, szE ((itV l + itV m) :: l.tail)) else (some ((itV l + itV m) :: l.tail, q.2 ++ r.2), 0) := by
    simp only [jnM]
    rw [vcM_head, vcM_head, vc_tail, vc_tail, vc_len, vc_len, l1, l2, e1, e2]
    by_cases h : n1 - 1 = n2 - 1
    · rw [if_neg (show ¬ (n1 - 1 + 1 ≠ n2 - 1 + 1) by omega), if_neg (show ¬ (n1 - 1 ≠ n2 - 1) by omega)]; rfl
    · rw [if_pos (show n1 - 1 + 1 ≠ n2 - 1 + 1 by omega), if_pos h]
  rw [eq0]
  exact rjn_y h1 h2
end Go.Proofs.YtjpjccilnmlmnaaGreatDoor

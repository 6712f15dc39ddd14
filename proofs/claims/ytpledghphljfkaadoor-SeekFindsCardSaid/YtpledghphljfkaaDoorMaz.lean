import Derived.Test.YtpledghphljfkaaDoorMas
import Derived.Test.YtpledghphljfkaaDoorMay
import Derived.BigRegion
/-
  seek's Amend, by its contract.
-/
namespace Go.Proofs.YtpledghphljfkaaDoor
set_option linter.unusedVariables false
set_option linter.unusedSimpArgs false
open Go.RowKit

theorem vec_one {q : Ar} (h : Rok (some q)) (hl : q.1.length = 1) : q.1 = [(q.2.length : Int)] := by
  obtain ⟨s, es⟩ := q
  have hl' : s.length = 1 := hl
  obtain ⟨x, rfl⟩ := List.length_eq_one_iff.1 hl'
  have h2 : (es.length : Int) = pr [x] := h.2.1
  have h3 : pr [x] = x := by simp [pr]
  show [x] = [(es.length : Int)]
  rw [h2, h3]
/-- A vector whose elements are the call's own. -/
def VoEnd (n : Nat) (es : List ByteArray) (W : World) (e : Ending) (W' : World) : Prop :=
  ∃ a c b d, e = .returned (.agg #[.slice a 1 c, .slice b n d]) ∧ Sl W' a 1 [(n : Int)] ∧ 1 ≤ c ∧ c ≤ maxLen ∧ W'.ownsRow W.heap.size 9 1 (.slice b n d) n (valsS es) ∧ Below W.heap.size W W'
set_option maxRecDepth 100000 in
set_option maxHeartbeats 3200000 in
theorem Vector_o (a : Option Addr) (n c : Nat) (es : List ByteArray) (W : World) (h : St W a n es) (hn : n ≤ 1000000) : Calls Tryd.prog 35 #[.slice a n c] W (VoEnd n es W) := by
  have K := Lib.hid (fun w (hb : Below W.heap.size W w) => CloneS_o a n c es w (h.below hb) hn)
  clear h
  have hA := Bx.new W none 0 0 none 0 0
  have hb0 : Below W.heap.size W (W.alloc (.cells #[.slice none 0 0, .slice none 0 0] 25)) := (Below.refl _ _).alloc (Nat.le_refl _) _
  go_enter Tryd.func35, Tryd.ntmps35
  go_wp2_with fail
  have hb1 := hb0.alloc hb0.size (.cells #[.int .i64 n] 3)
  refine (K.out _ hb1).mono ?_
  rintro x w1 ⟨a', c', rfl, hs, hb⟩
  have hA2 := (hA.alloc (.cells #[.int .i64 n] 3)).below hb (by simp; omega)
  have hS : Sl ((W.alloc (.cells #[.slice none 0 0, .slice none 0 0] 25)).alloc (.cells #[.int .i64 n] 3)) (some ⟨W.heap.size + 1, 0, none⟩) 1 [(n : Int)] := by
    have := Sl.row (l := [(n : Int)]) (heap_alloc_new (W.alloc (.cells #[.slice none 0 0, .slice none 0 0] 25)) (.cells #[.int .i64 n] 3))
    rw [World.size_alloc] at this
    exact this
  have hS2 := hS.below hb
  have hb2 := hb1.trans (hb.mono hb1.size)
  have y0 := hA2.c0
  have y1 := hA2.c1
  have f0 := hA2.f 0
  have f1 := hA2.f 1
  have HS := Lib.hid (And.intro hS2 hs)
  clear hS hS2 hs hA hb0 hb1 hb
  go_wp2_with fail
  have hA3 := hA2.set (some ⟨W.heap.size + 1, 0, none⟩) 1 1 a' n c'
  have r0 := hA3.c0
  have r1 := hA3.c1
  have ho : w1.ownsRow W.heap.size 9 1 (.slice a' n c') n (valsS es) := own_base (show w1.ownsRow _ 9 1 (.slice a' n c') n (valsS es) from HS.out.2) (by simp; omega)
  exact bodyPost_ret (v := .agg #[.slice (some ⟨W.heap.size + 1, 0, none⟩) 1 1, .slice a' n c']) (by simp [results, Tryd.results35, go_sem, r0, r1]) rfl
    ⟨_, _, _, _, rfl, hA2.sl HS.out.1 _ _, Nat.le_refl _, by unfold maxLen; omega, own_set_bx (own_set_bx ho (by decide) hA2 0 _) (by decide) (hA2.set0 _ _ _) 1 _, below_made hb2 (Nat.le_refl _) _ _⟩
set_option maxRecDepth 100000 in
set_option maxHeartbeats 6400000 in
theorem sam_0 {a1 b1 a2 b2 a3 b3 : Option Addr} {n1 c1 m1 d1 n2 c2 m2 d2 n3 c3 m3 d3 : Nat} {l m k : List Int} {es fs gs : List ByteArray} {W : World} (h1 : Av W a1 n1 c1 b1 m1 d1 l es none) :
    Calls Tryd.prog 18 #[.agg #[.slice a1 n1 c1, .slice b1 m1 d1], .agg #[.slice a2 n2 c2, .slice b2 m2 d2], .agg #[.slice a3 n3 c3, .slice b3 m3 d3]] W (MEnd (none, 1) W) := by
  have KV := Lib.hid (fun w (hb : Below W.heap.size W w) => VMay_av (h1.below hb))
  clear h1
  have h := live3 W a1 n1 c1 b1 m1 d1 a2 n2 c2 b2 m2 d2 a3 n3 c3 b3 m3 d3
  go_enter Tryd.func18, Tryd.ntmps18
  have x1 := h.out.2.2.2.1.c0
  have y1 := h.out.2.2.2.1.c1
  go_wp2_with fail
  with_reducible refine (live h (KV.out _ h.out.2.2.2.2)).mono ?_
  clear h x1 y1
  rintro e w ⟨rfl, h⟩
  have y0 := h.out.1.c0
  have y3 := h.out.1.c1
  have f0 := h.out.1.f 0
  have f1 := h.out.1.f 1
  go_wp2_with fail
  have hR := h.out.1.set none 0 0 none 0 0
  have r0 := hR.c0
  have r1 := hR.c1
  exact bodyPost_ret (v := .tuple #[.agg #[.slice none 0 0, .slice none 0 0], .int .i64 1]) (by simp [results, Tryd.results18, go_sem, r0, r1]) rfl (mend_no h.out.1 h.out.2.2.2.2 (by omega))
set_option maxRecDepth 100000 in
set_option maxHeartbeats 6400000 in
theorem sam_1 {a1 b1 a2 b2 a3 b3 : Option Addr} {n1 c1 m1 d1 n2 c2 m2 d2 n3 c3 m3 d3 : Nat} {l m k : List Int} {es fs gs : List ByteArray} {W : World} {q : Ar} (h1 : Av W a1 n1 c1 b1 m1 d1 l es (some q)) (h2 : Av W a2 n2 c2 b2 m2 d2 m fs none) :
    Calls Tryd.prog 18 #[.agg #[.slice a1 n1 c1, .slice b1 m1 d1], .agg #[.slice a2 n2 c2, .slice b2 m2 d2], .agg #[.slice a3 n3 c3, .slice b3 m3 d3]] W (MEnd (none, 1) W) := by
  have KV := Lib.hid (fun w (hb : Below W.heap.size W w) => VMay_av (h1.below hb))
  have KU := Lib.hid (fun w (hb : Below W.heap.size W w) => VMay_av (h2.below hb))
  clear h1 h2
  have h := live3 W a1 n1 c1 b1 m1 d1 a2 n2 c2 b2 m2 d2 a3 n3 c3 b3 m3 d3
  go_enter Tryd.func18, Tryd.ntmps18
  have x1 := h.out.2.2.2.1.c0
  have y1 := h.out.2.2.2.1.c1
  go_wp2_with fail
  with_reducible refine (live h (KV.out _ h.out.2.2.2.2)).mono ?_
  clear h x1 y1
  rintro e w ⟨rfl, h⟩
  have x1 := h.out.2.2.1.c0
  have y1 := h.out.2.2.1.c1
  go_wp2_with fail
  with_reducible refine (live h (KU.out _ h.out.2.2.2.2)).mono ?_
  clear h x1 y1
  rintro e w ⟨rfl, h⟩
  have y0 := h.out.1.c0
  have y3 := h.out.1.c1
  have f0 := h.out.1.f 0
  have f1 := h.out.1.f 1
  go_wp2_with fail
  have hR := h.out.1.set none 0 0 none 0 0
  have r0 := hR.c0
  have r1 := hR.c1
  exact bodyPost_ret (v := .tuple #[.agg #[.slice none 0 0, .slice none 0 0], .int .i64 1]) (by simp [results, Tryd.results18, go_sem, r0, r1]) rfl (mend_no h.out.1 h.out.2.2.2.2 (by omega))
set_option maxRecDepth 100000 in
set_option maxHeartbeats 6400000 in
theorem sam_2 {a1 b1 a2 b2 a3 b3 : Option Addr} {n1 c1 m1 d1 n2 c2 m2 d2 n3 c3 m3 d3 : Nat} {l m k : List Int} {es fs gs : List ByteArray} {W : World} {q t : Ar} (h1 : Av W a1 n1 c1 b1 m1 d1 l es (some q)) (h2 : Av W a2 n2 c2 b2 m2 d2 m fs (some t)) (h3 : Av W a3 n3 c3 b3 m3 d3 k gs none) :
    Calls Tryd.prog 18 #[.agg #[.slice a1 n1 c1, .slice b1 m1 d1], .agg #[.slice a2 n2 c2, .slice b2 m2 d2], .agg #[.slice a3 n3 c3, .slice b3 m3 d3]] W (MEnd (none, 1) W) := by
  have KV := Lib.hid (fun w (hb : Below W.heap.size W w) => VMay_av (h1.below hb))
  have KU := Lib.hid (fun w (hb : Below W.heap.size W w) => VMay_av (h2.below hb))
  have KX := Lib.hid (fun w (hb : Below W.heap.size W w) => VMay_av (h3.below hb))
  clear h1 h2 h3
  have h := live3 W a1 n1 c1 b1 m1 d1 a2 n2 c2 b2 m2 d2 a3 n3 c3 b3 m3 d3
  go_enter Tryd.func18, Tryd.ntmps18
  have x1 := h.out.2.2.2.1.c0
  have y1 := h.out.2.2.2.1.c1
  go_wp2_with fail
  with_reducible refine (live h (KV.out _ h.out.2.2.2.2)).mono ?_
  clear h x1 y1
  rintro e w ⟨rfl, h⟩
  have x1 := h.out.2.2.1.c0
  have y1 := h.out.2.2.1.c1
  go_wp2_with fail
  with_reducible refine (live h (KU.out _ h.out.2.2.2.2)).mono ?_
  clear h x1 y1
  rintro e w ⟨rfl, h⟩
  have x1 := h.out.2.1.c0
  have y1 := h.out.2.1.c1
  go_wp2_with fail
  with_reducible refine (live h (KX.out _ h.out.2.2.2.2)).mono ?_
  clear h x1 y1
  rintro e w ⟨rfl, h⟩
  have y0 := h.out.1.c0
  have y3 := h.out.1.c1
  have f0 := h.out.1.f 0
  have f1 := h.out.1.f 1
  go_wp2_with fail
  have hR := h.out.1.set none 0 0 none 0 0
  have r0 := hR.c0
  have r1 := hR.c1
  exact bodyPost_ret (v := .tuple #[.agg #[.slice none 0 0, .slice none 0 0], .int .i64 1]) (by simp [results, Tryd.results18, go_sem, r0, r1]) rfl (mend_no h.out.1 h.out.2.2.2.2 (by omega))
set_option maxRecDepth 100000 in
set_option maxHeartbeats 6400000 in
theorem sam_3 {a1 b1 a2 b2 a3 b3 : Option Addr} {n1 c1 m1 d1 n2 c2 m2 d2 n3 c3 m3 d3 : Nat} {l m k : List Int} {es fs gs : List ByteArray} {W : World} {q t r : Ar} (h1 : Av W a1 n1 c1 b1 m1 d1 l es (some q)) (h2 : Av W a2 n2 c2 b2 m2 d2 m fs (some t)) (h3 : Av W a3 n3 c3 b3 m3 d3 k gs (some r)) (hn : n1 ≠ 1) :
    Calls Tryd.prog 18 #[.agg #[.slice a1 n1 c1, .slice b1 m1 d1], .agg #[.slice a2 n2 c2, .slice b2 m2 d2], .agg #[.slice a3 n3 c3, .slice b3 m3 d3]] W (MEnd (none, 3) W) := by
  have KV := Lib.hid (fun w (hb : Below W.heap.size W w) => VMay_av (h1.below hb))
  have KU := Lib.hid (fun w (hb : Below W.heap.size W w) => VMay_av (h2.below hb))
  have KX := Lib.hid (fun w (hb : Below W.heap.size W w) => VMay_av (h3.below hb))
  have hn1 : (n1 : Int) ≠ 1 := by omega
  clear h1 h2 h3 hn
  have h := live3 W a1 n1 c1 b1 m1 d1 a2 n2 c2 b2 m2 d2 a3 n3 c3 b3 m3 d3
  go_enter Tryd.func18, Tryd.ntmps18
  have x1 := h.out.2.2.2.1.c0
  have y1 := h.out.2.2.2.1.c1
  go_wp2_with fail
  with_reducible refine (live h (KV.out _ h.out.2.2.2.2)).mono ?_
  clear h x1 y1
  rintro e w ⟨rfl, h⟩
  have x1 := h.out.2.2.1.c0
  have y1 := h.out.2.2.1.c1
  go_wp2_with fail
  with_reducible refine (live h (KU.out _ h.out.2.2.2.2)).mono ?_
  clear h x1 y1
  rintro e w ⟨rfl, h⟩
  have x1 := h.out.2.1.c0
  have y1 := h.out.2.1.c1
  go_wp2_with fail
  with_reducible refine (live h (KX.out _ h.out.2.2.2.2)).mono ?_
  clear h x1 y1
  rintro e w ⟨rfl, h⟩
  have x1 := h.out.2.2.2.1.c0
  have y1 := h.out.2.2.2.1.c1
  have x2 := h.out.2.2.1.c0
  have y2 := h.out.2.2.1.c1
  have y0 := h.out.1.c0
  have y3 := h.out.1.c1
  have f0 := h.out.1.f 0
  have f1 := h.out.1.f 1
  go_wp2_with fail
  have hR := h.out.1.set none 0 0 none 0 0
  have r0 := hR.c0
  have r1 := hR.c1
  exact bodyPost_ret (v := .tuple #[.agg #[.slice none 0 0, .slice none 0 0], .int .i64 3]) (by simp [results, Tryd.results18, go_sem, r0, r1]) rfl (mend_no h.out.1 h.out.2.2.2.2 (by omega))
set_option maxRecDepth 100000 in
set_option maxHeartbeats 6400000 in
theorem sam_4 {a1 b1 a2 b2 a3 b3 : Option Addr} {n1 c1 m1 d1 n2 c2 m2 d2 n3 c3 m3 d3 : Nat} {l m k : List Int} {es fs gs : List ByteArray} {W : World} {q t r : Ar} (h1 : Av W a1 n1 c1 b1 m1 d1 l es (some q)) (h2 : Av W a2 n2 c2 b2 m2 d2 m fs (some t)) (h3 : Av W a3 n3 c3 b3 m3 d3 k gs (some r)) (hn : n1 = 1) (hn2 : 1 < n2) :
    Calls Tryd.prog 18 #[.agg #[.slice a1 n1 c1, .slice b1 m1 d1], .agg #[.slice a2 n2 c2, .slice b2 m2 d2], .agg #[.slice a3 n3 c3, .slice b3 m3 d3]] W (MEnd (none, 3) W) := by
  have KV := Lib.hid (fun w (hb : Below W.heap.size W w) => VMay_av (h1.below hb))
  have KU := Lib.hid (fun w (hb : Below W.heap.size W w) => VMay_av (h2.below hb))
  have KX := Lib.hid (fun w (hb : Below W.heap.size W w) => VMay_av (h3.below hb))
  have hn3 : (1 : Int) < (n2 : Int) := by omega
  clear h1 h2 h3 hn2
  subst hn
  have h := live3 W a1 1 c1 b1 m1 d1 a2 n2 c2 b2 m2 d2 a3 n3 c3 b3 m3 d3
  go_enter Tryd.func18, Tryd.ntmps18
  have x1 := h.out.2.2.2.1.c0
  have y1 := h.out.2.2.2.1.c1
  go_wp2_with fail
  with_reducible refine (live h (KV.out _ h.out.2.2.2.2)).mono ?_
  clear h x1 y1
  rintro e w ⟨rfl, h⟩
  have x1 := h.out.2.2.1.c0
  have y1 := h.out.2.2.1.c1
  go_wp2_with fail
  with_reducible refine (live h (KU.out _ h.out.2.2.2.2)).mono ?_
  clear h x1 y1
  rintro e w ⟨rfl, h⟩
  have x1 := h.out.2.1.c0
  have y1 := h.out.2.1.c1
  go_wp2_with fail
  with_reducible refine (live h (KX.out _ h.out.2.2.2.2)).mono ?_
  clear h x1 y1
  rintro e w ⟨rfl, h⟩
  have x1 := h.out.2.2.2.1.c0
  have y1 := h.out.2.2.2.1.c1
  have x2 := h.out.2.2.1.c0
  have y2 := h.out.2.2.1.c1
  have y0 := h.out.1.c0
  have y3 := h.out.1.c1
  have f0 := h.out.1.f 0
  have f1 := h.out.1.f 1
  go_wp2_with fail
  have hR := h.out.1.set none 0 0 none 0 0
  have r0 := hR.c0
  have r1 := hR.c1
  exact bodyPost_ret (v := .tuple #[.agg #[.slice none 0 0, .slice none 0 0], .int .i64 3]) (by simp [results, Tryd.results18, go_sem, r0, r1]) rfl (mend_no h.out.1 h.out.2.2.2.2 (by omega))
set_option maxRecDepth 100000 in
set_option maxHeartbeats 6400000 in
theorem sam_5 {a1 b1 a2 b2 a3 b3 : Option Addr} {n1 c1 m1 d1 n2 c2 m2 d2 n3 c3 m3 d3 : Nat} {l m k : List Int} {es fs gs : List ByteArray} {W : World} {q t r : Ar} (h1 : Av W a1 n1 c1 b1 m1 d1 l es (some q)) (h2 : Av W a2 n2 c2 b2 m2 d2 m fs (some t)) (h3 : Av W a3 n3 c3 b3 m3 d3 k gs (some r)) (hW : WT W) (hn : n1 = 1) (hn2 : ¬ 1 < n2) (hpl : plE t (q.2.length : Int) ≠ 0) :
    Calls Tryd.prog 18 #[.agg #[.slice a1 n1 c1, .slice b1 m1 d1], .agg #[.slice a2 n2 c2, .slice b2 m2 d2], .agg #[.slice a3 n3 c3, .slice b3 m3 d3]] W (MEnd (none, plE t (q.2.length : Int)) W) := by
  have KV := Lib.hid (fun w (hb : Below W.heap.size W w) => VMay_av (h1.below hb))
  have KU := Lib.hid (fun w (hb : Below W.heap.size W w) => VMay_av (h2.below hb))
  have KX := Lib.hid (fun w (hb : Below W.heap.size W w) => VMay_av (h3.below hb))
  have hn22 : ¬ (1 : Int) < (n2 : Int) := by omega
  have hn11 : (n1 : Int) = 1 := by omega
  have hmq := h1.mlen.1
  rw [← hmq] at hpl
  have KP := Lib.hid (fun w (hb : Below W.heap.size W w) => SPlaces_is (c1 := c2) (d1 := d2) (m1 : Int) (h2.below hb) (hW.below hb))
  rw [← hmq]
  obtain ⟨z, hz⟩ : ∃ z, z = plE t (m1 : Int) := ⟨_, rfl⟩
  have hz0 : (z != 0) = true := by rw [hz]; simpa using hpl
  have HZ := Lib.hid hz
  rw [← hz]
  clear h1 h2 h3 hn hn2 hmq hpl hz hW
  have h := live3 W a1 n1 c1 b1 m1 d1 a2 n2 c2 b2 m2 d2 a3 n3 c3 b3 m3 d3
  go_enter Tryd.func18, Tryd.ntmps18
  have x1 := h.out.2.2.2.1.c0
  have y1 := h.out.2.2.2.1.c1
  go_wp2_with fail
  with_reducible refine (live h (KV.out _ h.out.2.2.2.2)).mono ?_
  clear h x1 y1
  rintro e w ⟨rfl, h⟩
  have x1 := h.out.2.2.1.c0
  have y1 := h.out.2.2.1.c1
  go_wp2_with fail
  with_reducible refine (live h (KU.out _ h.out.2.2.2.2)).mono ?_
  clear h x1 y1
  rintro e w ⟨rfl, h⟩
  have x1 := h.out.2.1.c0
  have y1 := h.out.2.1.c1
  go_wp2_with fail
  with_reducible refine (live h (KX.out _ h.out.2.2.2.2)).mono ?_
  clear h x1 y1
  rintro e w ⟨rfl, h⟩
  have x1 := h.out.2.2.2.1.c0
  have y1 := h.out.2.2.2.1.c1
  have x2 := h.out.2.2.1.c0
  have y2 := h.out.2.2.1.c1
  go_wp2_with fail
  refine (live_pl h (KP.out _ h.out.2.2.2.2)).mono ?_
  clear h x1 y1 x2 y2
  rintro e w ⟨pa, pn, pc, rfl, hpp, h⟩
  rw [← HZ.out]
  clear hpp
  have y0 := h.out.1.c0
  have y3 := h.out.1.c1
  have f0 := h.out.1.f 0
  have f1 := h.out.1.f 1
  go_wp2_with fail
  have hR := h.out.1.set none 0 0 none 0 0
  have r0 := hR.c0
  have r1 := hR.c1
  exact bodyPost_ret (v := .tuple #[.agg #[.slice none 0 0, .slice none 0 0], .int .i64 z]) (by simp [results, Tryd.results18, go_sem, r0, r1]) rfl (mend_no h.out.1 h.out.2.2.2.2 (by omega))
set_option maxRecDepth 100000 in
set_option maxHeartbeats 6400000 in
theorem sam_6 {a1 b1 a2 b2 a3 b3 : Option Addr} {n1 c1 m1 d1 n2 c2 m2 d2 n3 c3 m3 d3 : Nat} {l m k : List Int} {es fs gs : List ByteArray} {W : World} {q t r : Ar} (h1 : Av W a1 n1 c1 b1 m1 d1 l es (some q)) (h2 : Av W a2 n2 c2 b2 m2 d2 m fs (some t)) (h3 : Av W a3 n3 c3 b3 m3 d3 k gs (some r)) (hW : WT W) (hn : n1 = 1) (hn2 : ¬ 1 < n2) (hpl : plE t (q.2.length : Int) = 0) (h30 : n3 ≠ 0) (hs : t.1 ≠ r.1) :
    Calls Tryd.prog 18 #[.agg #[.slice a1 n1 c1, .slice b1 m1 d1], .agg #[.slice a2 n2 c2, .slice b2 m2 d2], .agg #[.slice a3 n3 c3, .slice b3 m3 d3]] W (MEnd (none, 4) W) := by
  have KV := Lib.hid (fun w (hb : Below W.heap.size W w) => VMay_av (h1.below hb))
  have KU := Lib.hid (fun w (hb : Below W.heap.size W w) => VMay_av (h2.below hb))
  have KX := Lib.hid (fun w (hb : Below W.heap.size W w) => VMay_av (h3.below hb))
  have hn22 : ¬ (1 : Int) < (n2 : Int) := by omega
  have hn11 : (n1 : Int) = 1 := by omega
  have hmq := h1.mlen.1
  rw [← hmq] at hpl
  have KP := Lib.hid (fun w (hb : Below W.heap.size W w) => SPlaces_is (c1 := c2) (d1 := d2) (m1 : Int) (h2.below hb) (hW.below hb))
  have hPL := hpl
  have HPL := Lib.hid hPL
  have hn33 := h3.n3
  have hz3 : ((n3 : Int) == 0) = false := beq_eq_false_iff_ne.2 (by omega)
  have HMT := Lib.hid h2.mlen.1.symm
  have hn20 : n2 ≤ 3 := h2.n3
  have KS := Lib.hid (fun w (hb : Below W.heap.size W w) => Same_is a3 a2 n3 c3 n2 c2 r.1 t.1 w (by rw [h3.fst]; exact h3.v.s.below hb) (by rw [h2.fst]; exact h2.v.s.below hb) (by omega) (by omega))
  rw [show (r.1 == t.1) = false from beq_eq_false_iff_ne.2 (fun e => hs e.symm)] at KS
  clear h1 h2 h3 hn hn2 hmq hpl hPL hs h30 hn33 hn20 hW
  have h := live3 W a1 n1 c1 b1 m1 d1 a2 n2 c2 b2 m2 d2 a3 n3 c3 b3 m3 d3
  go_enter Tryd.func18, Tryd.ntmps18
  have x1 := h.out.2.2.2.1.c0
  have y1 := h.out.2.2.2.1.c1
  go_wp2_with fail
  with_reducible refine (live h (KV.out _ h.out.2.2.2.2)).mono ?_
  clear h x1 y1
  rintro e w ⟨rfl, h⟩
  have x1 := h.out.2.2.1.c0
  have y1 := h.out.2.2.1.c1
  go_wp2_with fail
  with_reducible refine (live h (KU.out _ h.out.2.2.2.2)).mono ?_
  clear h x1 y1
  rintro e w ⟨rfl, h⟩
  have x1 := h.out.2.1.c0
  have y1 := h.out.2.1.c1
  go_wp2_with fail
  with_reducible refine (live h (KX.out _ h.out.2.2.2.2)).mono ?_
  clear h x1 y1
  rintro e w ⟨rfl, h⟩
  have x1 := h.out.2.2.2.1.c0
  have y1 := h.out.2.2.2.1.c1
  have x2 := h.out.2.2.1.c0
  have y2 := h.out.2.2.1.c1
  go_wp2_with fail
  refine (live_pl h (KP.out _ h.out.2.2.2.2)).mono ?_
  clear h x1 y1 x2 y2
  rintro e w ⟨pa, pn, pc, rfl, hpp, h⟩
  obtain ⟨hpn, hps, _, _⟩ := hpp HPL.out
  rw [HMT.out] at hpn
  subst hpn
  rw [HPL.out]
  have HPS := Lib.hid hps
  clear hpp hps
  have x3 := h.out.2.1.c0
  have y3 := h.out.2.1.c1
  have x2 := h.out.2.2.1.c0
  have y2 := h.out.2.2.1.c1
  go_wp2_with fail
  refine (KS.out _ h.out.2.2.2.2).mono ?_
  rintro e w9 ⟨rfl, hb9⟩
  replace h := live_to h hb9
  clear x3 y3 x2 y2 hb9 KS
  have y0 := h.out.1.c0
  have y3 := h.out.1.c1
  have f0 := h.out.1.f 0
  have f1 := h.out.1.f 1
  go_wp2_with fail
  have hR := h.out.1.set none 0 0 none 0 0
  have r0 := hR.c0
  have r1 := hR.c1
  exact bodyPost_ret (v := .tuple #[.agg #[.slice none 0 0, .slice none 0 0], .int .i64 4]) (by simp [results, Tryd.results18, go_sem, r0, r1]) rfl (mend_no h.out.1 h.out.2.2.2.2 (by omega))
set_option maxRecDepth 100000 in
set_option maxHeartbeats 6400000 in
theorem sam_7a {a1 b1 a2 b2 a3 b3 : Option Addr} {n1 c1 m1 d1 n2 c2 m2 d2 n3 c3 m3 d3 : Nat} {l m k : List Int} {es fs gs : List ByteArray} {W : World} {q t r : Ar} (h1 : Av W a1 n1 c1 b1 m1 d1 l es (some q)) (h2 : Av W a2 n2 c2 b2 m2 d2 m fs (some t)) (h3 : Av W a3 n3 c3 b3 m3 d3 k gs (some r)) (hW : WT W) (hn : n1 = 1) (hn2 : ¬ 1 < n2) (hpl : plE t (q.2.length : Int) = 0) (h30 : n3 = 0) :
    Calls Tryd.prog 18 #[.agg #[.slice a1 n1 c1, .slice b1 m1 d1], .agg #[.slice a2 n2 c2, .slice b2 m2 d2], .agg #[.slice a3 n3 c3, .slice b3 m3 d3]] W (MEnd (some (q.1, amS q.2 (natL t.2) (wsL r t.2.length)), 0) W) := by
  have KV := Lib.hid (fun w (hb : Below W.heap.size W w) => VMay_av (h1.below hb))
  have KU := Lib.hid (fun w (hb : Below W.heap.size W w) => VMay_av (h2.below hb))
  have KX := Lib.hid (fun w (hb : Below W.heap.size W w) => VMay_av (h3.below hb))
  have hn22 : ¬ (1 : Int) < (n2 : Int) := by omega
  have hn11 : (n1 : Int) = 1 := by omega
  have hmq := h1.mlen.1
  rw [← hmq] at hpl
  have KP := Lib.hid (fun w (hb : Below W.heap.size W w) => SPlaces_is (c1 := c2) (d1 := d2) (m1 : Int) (h2.below hb) (hW.below hb))
  have hPL := hpl
  have HPL := Lib.hid hPL
  have hn33 := h3.n3
  have hz3 : ((n3 : Int) == 0) = true := by rw [h30]; rfl
  have hr0 : r.1 = [] := List.length_eq_zero_iff.1 (by rw [h3.fst]; exact h3.v.s.1.trans h30)
  have hmr := h3.mlen.1
  have hm31 : m3 = 1 := by
    have := h3.i.rok.2.1
    rw [hr0, ← hmr] at this
    have h5 : ((m3 : Nat) : Int) = 1 := this
    omega
  have hwl := ws_len (r := r) (n := t.2.length) (fun h => absurd hr0 h)
  have hm1 := h1.mlen.2.2
  have hm2 := h2.mlen.2.2
  have hm3 := h3.mlen.2.2
  have hmt := h2.mlen.1
  have hok := plE_ok hpl
  have hin := natL_lt (n := m1) (l := t.2) (fun x hx => hok.2 x hx)
  have HIN := Lib.hid (fun j (hj : j < m2) => (show (natL t.2).getD j 0 < m1 from by
    rw [List.getD_eq_getElem?_getD, List.getElem?_eq_getElem (by rw [natL_len]; omega)]
    exact hin _ (List.getElem_mem _)))
  have HAT := Lib.hid (fun j (hj : j < m2) => natL_at (l := t.2) (fun x hx => (hok.2 x hx).1) (k := j) (by omega))
  have HST := Lib.hid (fun j (hj : j < m2) => am_step q.2 (L := natL t.2) (ws := wsL r t.2.length) (by rw [natL_len, hwl]) (k := j) (by rw [natL_len]; omega))
  have HWS := Lib.hid (fun j (hj : j < m2) => (show (wsL r t.2.length).getD j 0 = r.2.getD 0 0 from ws_one hr0 (by omega)))
  have HEL := Lib.hid (show St W b3 m3 (r.2.map S) from by have := h3.v.t; rwa [h3.i.2.1] at this)
  have HES := Lib.hid (show St W b1 m1 (q.2.map S) from by have := h1.v.t; rwa [h1.i.2.1] at this)
  have HRL := Lib.hid hmr.symm
  have HMT := Lib.hid hmt.symm
  have HLN := Lib.hid (show (natL t.2).length = m2 ∧ (wsL r t.2.length).length = m2 from ⟨by rw [natL_len]; omega, by rw [hwl]; omega⟩)
  have HRK := Lib.hid (am_rok (q := q) (t := t) (r := r) h1.i.rok h3.i.rok (fun _ h => by intro e; rw [e] at hmr; simp at hmr; omega))
  have HQ1 := Lib.hid (vec_one h1.i.rok (by rw [h1.fst, h1.v.s.1]; exact hn))
  have HMQ := Lib.hid hmq.symm
  have KV2 := Lib.hid (fun w (hb : Below W.heap.size W w) => Vector_o b1 m1 d1 (q.2.map S) w (HES.out.below hb) (by omega))
  have hm0 : 0 < m3 := by omega
  have hm0i : (0 : Int) < (m3 : Int) := by omega
  clear h1 h2 h3 hn hn2 hmq hpl hPL hn33 hok hin hwl hmt hmr hr0 h30 hW hm31
  have h := live3 W a1 n1 c1 b1 m1 d1 a2 n2 c2 b2 m2 d2 a3 n3 c3 b3 m3 d3
  go_enter Tryd.func18, Tryd.ntmps18
  have x1 := h.out.2.2.2.1.c0
  have y1 := h.out.2.2.2.1.c1
  go_wp2_with fail
  with_reducible refine (live h (KV.out _ h.out.2.2.2.2)).mono ?_
  clear h x1 y1
  rintro e w ⟨rfl, h⟩
  have x1 := h.out.2.2.1.c0
  have y1 := h.out.2.2.1.c1
  go_wp2_with fail
  with_reducible refine (live h (KU.out _ h.out.2.2.2.2)).mono ?_
  clear h x1 y1
  rintro e w ⟨rfl, h⟩
  have x1 := h.out.2.1.c0
  have y1 := h.out.2.1.c1
  go_wp2_with fail
  with_reducible refine (live h (KX.out _ h.out.2.2.2.2)).mono ?_
  clear h x1 y1
  rintro e w ⟨rfl, h⟩
  have x1 := h.out.2.2.2.1.c0
  have y1 := h.out.2.2.2.1.c1
  have x2 := h.out.2.2.1.c0
  have y2 := h.out.2.2.1.c1
  go_wp2_with fail
  refine (live_pl h (KP.out _ h.out.2.2.2.2)).mono ?_
  clear h x1 y1 x2 y2
  rintro e w ⟨pa, pn, pc, rfl, hpp, h⟩
  obtain ⟨hpn, hps, _, _⟩ := hpp HPL.out
  rw [HMT.out] at hpn
  subst hpn
  rw [HPL.out]
  have HPS := Lib.hid hps
  clear hpp hps
  have x3 := h.out.2.1.c0
  have y3 := h.out.2.1.c1
  have y1 := h.out.2.2.2.1.c1
  go_wp2_with fail
  refine (KV2.out _ h.out.2.2.2.2).mono ?_
  clear x3 y3 y1
  rintro e wv ⟨ar, cr, br, dr, rfl, hsv, hcr, hcm, hov, hbv⟩
  obtain ⟨B, hB⟩ : ∃ B, B = w.heap.size := ⟨_, rfl⟩
  obtain ⟨wo, hwo⟩ : ∃ z, z = wv.alloc (.cells #[.slice ar 1 cr, .slice br m1 dr] 25) := ⟨_, rfl⟩
  obtain ⟨G, hG⟩ : ∃ G, G = wv.heap.size := ⟨_, rfl⟩
  have hba : Below wv.heap.size wv wo := by rw [hwo]; exact (Below.refl _ _).alloc (Nat.le_refl _) _
  have hXo : Bx wo G ar 1 cr br m1 dr := by rw [hwo, hG]; exact Bx.new _ _ _ _ _ _ _
  have HBO : Hid (Below B w wo) := Lib.hid (by rw [hB]; exact hbv.trans (hba.mono hbv.size))
  have HSO := Lib.hid (hsv.below hba)
  have HOO : Hid (wo.ownsRow B 9 1 (.slice br m1 dr) m1 (valsS (q.2.map S))) := Lib.hid (by rw [hB]; exact own_below hov hba)
  have HRG : Hid (∀ R, br = some ⟨R, 0, none⟩ → B ≤ R ∧ R < G) := Lib.hid fun R e => by
    have := hov.lt R (by rw [e]; rfl)
    rw [hB, hG]; exact this
  have HLV := Lib.hid h
  have HCC := Lib.hid (And.intro hcr hcm)
  have HOV := Lib.hid (own_caps hov)
  have x3 := h.out.2.1.c0
  have y3 := h.out.2.1.c1
  have BWG : W.heap.size ≤ B := by rw [hB]; exact h.out.2.2.2.2.size
  clear h hsv hcr hcm hov hbv hba KV2
  go_upto_region 12 with fail
  rw [← hwo, ← hG]
  clear hwo hG x3 y3
  go_wp2_with fail
  go_loopw [71] (fun iv wr => ∃ k : Nat, iv = .int .i64 (k : Int) ∧ k ≤ pn ∧ Hid (wr.ownsRow B 9 1 (.slice br m1 dr) m1 (valsS ((amS q.2 ((natL t.2).take k) ((wsL r t.2.length).take k)).map S))) ∧ Bx wr G ar 1 cr br m1 dr ∧ Hid (Sl wr ar 1 [(m1 : Int)]) ∧ Below B w wr) (fun iv _ => pn - (intOf iv).toNat)
  case atStart => exact ⟨0, rfl, Nat.zero_le _, Lib.hid (by rw [List.take_zero, List.take_zero]; exact HOO.out), hXo, HSO, HBO.out⟩
  case round =>
    obtain ⟨k, rfl, hk, HO, hX, HSR, hb⟩ := hrel
    clear hXo
    have h := live_belS HLV.out hb (by rw [hB]; exact Nat.le_refl _)
    by_cases hlt : k < pn
    · have e2 : (k : Int) < (pn : Int) := by omega
      have hi0 := HIN.out k hlt
      obtain ⟨R, rfl⟩ : ∃ R, br = some ⟨R, 0, none⟩ := by
        rcases HO.out.2 with ⟨e, e0⟩ | ⟨R, cap, cur, e, _⟩
        · omega
        · injection e with e1 e2 e3; exact ⟨R, e1⟩
      obtain ⟨hBR, hRG⟩ := HRG.out R rfl
      obtain ⟨bl, ol, hpe, hcl⟩ := HPS.out.2 (by omega)
      subst hpe
      have hck := (hb.cell (p := ⟨bl, ol + k, none⟩) (by rw [hB]; exact World.block_lt_of_cell? _ _ (hcl k hlt))).trans (hcl k hlt)
      rw [← HAT.out k hlt] at hck
      have hst := HST.out k hlt
      rw [HWS.out k hlt] at hst
      obtain ⟨p, hp⟩ : ∃ p, p = (natL t.2).getD k 0 := ⟨_, rfl⟩
      rw [← hp] at hck hst hi0
      have him : 0 < m3 := by omega
      obtain ⟨b5, o5, hb5, hc5⟩ := HEL.out.2 (by omega)
      subst hb5
      have hce := (h.out.2.2.2.2.cell (p := ⟨b5, o5 + 0, none⟩) (World.block_lt_of_cell? W _ (hc5 0 him))).trans (hc5 0 him)
      rw [getD_S (by rw [HRL.out]; exact him)] at hce
      have hw1 := HO.out.stored p (.string (S (r.2.getD 0 0)))
      have hcR : wr.cell? ⟨R, p, none⟩ = some (.string (((amS q.2 ((natL t.2).take k) ((wsL r t.2.length).take k)).map S).getD p ByteArray.empty)) := by
        rw [HO.out.cellAt p (by omega)]
        have hl : p < ((amS q.2 ((natL t.2).take k) ((wsL r t.2.length).take k)).map S).length := by rw [List.length_map, am_len, HMQ.out]; exact hi0
        unfold valsS
        rw [List.getElem?_map, List.getElem?_eq_getElem hl, List.getD_eq_getElem?_getD, List.getElem?_eq_getElem hl]; rfl
      have hfR := HO.out.frozenAt p
      have HN : Hid ((wr.setCell ⟨R, p, none⟩ (.string (S (r.2.getD 0 0)))).ownsRow B 9 1 (.slice (some ⟨R, 0, none⟩) m1 dr) m1 (valsS ((amS q.2 ((natL t.2).take (k + 1)) ((wsL r t.2.length).take (k + 1))).map S))) := Lib.hid (by
        rw [hst, List.map_set]
        have := hw1.1
        rw [show (valsS ((amS q.2 ((natL t.2).take k) ((wsL r t.2.length).take k)).map S)).set p (.string (S (r.2.getD 0 0))) = valsS (((amS q.2 ((natL t.2).take k) ((wsL r t.2.length).take k)).map S).set p (S (r.2.getD 0 0))) by unfold valsS; rw [List.map_set]] at this
        exact this)
      have HXN := Lib.hid (hX.setOther (p := ⟨R, p, none⟩) (show G ≠ R by omega) (.string (S (r.2.getD 0 0))))
      have HSN := Lib.hid (HSR.out.far hcR (.string (S (r.2.getD 0 0))))
      have HBN := Lib.hid (hb.setCell (p := ⟨R, p, none⟩) hBR (.string (S (r.2.getD 0 0))))
      obtain ⟨s, hs⟩ : ∃ s, s = S (r.2.getD 0 0) := ⟨_, rfl⟩
      rw [← hs] at hce HN HXN HSN HBN
      rw [Nat.add_zero] at hce
      generalize ((amS q.2 ((natL t.2).take k) ((wsL r t.2.length).take k)).map S).getD p ByteArray.empty = s0 at hcR
      have c1 := hX.c1
      have y3 := h.out.2.1.c1
      have hpm : (p : Int) < (m1 : Int) := by omega
      have hkm : (0 : Int) < (m3 : Int) := by omega
      clear hcl hc5 hst hw1 hs hb h hX hp HO
      go_wp2_with fail
      go_region
      all_goals
        clear c1 y3 hce hcR hck
        go_wp2_with fail
        go_roundw
        case rel => exact ⟨k + 1, by go_num, by omega, (by first | exact HN | exact Lib.hid (show World.ownsRow _ _ _ _ _ _ _ from HN.out)), (by first | exact HXN.out | exact HXN.out.drew), (by first | exact HSN | exact Lib.hid HSN.out.drew), (by first | exact HBN.out | exact HBN.out.drew)⟩
        case measure => simp [intOf]; omega
    · have e2 : ¬ (k : Int) < (pn : Int) := by omega
      obtain rfl : k = pn := by omega
      have ho := HO.out
      rw [List.take_of_length_le (by rw [HLN.out.1]; exact Nat.le_refl _), List.take_of_length_le (by rw [HLN.out.2]; exact Nat.le_refl _)] at ho
      have hst := Lib.hid (own_st ho)
      have c0 := hX.c0
      have c1 := hX.c1
      have y0 := h.out.1.c0
      have y3 := h.out.1.c1
      have f0 := h.out.1.f 0
      have f1 := h.out.1.f 1
      clear ho HO hb
      go_wp2_with fail
      have hR := h.out.1.set ar 1 cr br m1 dr
      have r0 := hR.c0
      have r1 := hR.c1
      exact bodyPost_ret (v := .tuple #[.agg #[.slice ar 1 cr, .slice br m1 dr], .int .i64 0]) (by simp [results, Tryd.results18, go_sem, r0, r1]) rfl
        (mend_box (r := (some (q.1, amS q.2 (natL t.2) (wsL r t.2.length)), 0)) h.out.1 h.out.2.2.2.2 (by omega) ⟨by
          show Sl wr ar 1 q.1
          rw [HQ1.out, HMQ.out]; exact HSR.out, hst.out, by omega⟩ ⟨HCC.out.1, HCC.out.2, HOV.out.1, HOV.out.2⟩ HRK.out)
set_option maxRecDepth 100000 in
set_option maxHeartbeats 6400000 in
theorem sam_7b {a1 b1 a2 b2 a3 b3 : Option Addr} {n1 c1 m1 d1 n2 c2 m2 d2 n3 c3 m3 d3 : Nat} {l m k : List Int} {es fs gs : List ByteArray} {W : World} {q t r : Ar} (h1 : Av W a1 n1 c1 b1 m1 d1 l es (some q)) (h2 : Av W a2 n2 c2 b2 m2 d2 m fs (some t)) (h3 : Av W a3 n3 c3 b3 m3 d3 k gs (some r)) (hW : WT W) (hn : n1 = 1) (hn2 : ¬ 1 < n2) (hpl : plE t (q.2.length : Int) = 0) (h30 : n3 ≠ 0) (hs : t.1 = r.1) :
    Calls Tryd.prog 18 #[.agg #[.slice a1 n1 c1, .slice b1 m1 d1], .agg #[.slice a2 n2 c2, .slice b2 m2 d2], .agg #[.slice a3 n3 c3, .slice b3 m3 d3]] W (MEnd (some (q.1, amS q.2 (natL t.2) (wsL r t.2.length)), 0) W) := by
  have KV := Lib.hid (fun w (hb : Below W.heap.size W w) => VMay_av (h1.below hb))
  have KU := Lib.hid (fun w (hb : Below W.heap.size W w) => VMay_av (h2.below hb))
  have KX := Lib.hid (fun w (hb : Below W.heap.size W w) => VMay_av (h3.below hb))
  have hn22 : ¬ (1 : Int) < (n2 : Int) := by omega
  have hn11 : (n1 : Int) = 1 := by omega
  have hmq := h1.mlen.1
  rw [← hmq] at hpl
  have KP := Lib.hid (fun w (hb : Below W.heap.size W w) => SPlaces_is (c1 := c2) (d1 := d2) (m1 : Int) (h2.below hb) (hW.below hb))
  have hPL := hpl
  have HPL := Lib.hid hPL
  have hn33 := h3.n3
  have hz3 : ((n3 : Int) == 0) = false := beq_eq_false_iff_ne.2 (by omega)
  have hr0 : r.1 ≠ [] := fun e => h30 (by rw [← h3.v.s.1, ← h3.fst, e]; rfl)
  have hmr := h3.mlen.1
  have hmm3 : m3 = m2 := by
    have g1 := h3.i.rok.2.1
    have g2 := h2.i.rok.2.1
    rw [← hs, ← hmr] at g1
    rw [← h2.mlen.1] at g2
    omega
  have hwl := ws_len (r := r) (n := t.2.length) (fun _ => by rw [← hmr, ← h2.mlen.1]; exact hmm3)
  have hn20 : n2 ≤ 3 := h2.n3
  have KS := Lib.hid (fun w (hb : Below W.heap.size W w) => Same_is a3 a2 n3 c3 n2 c2 r.1 t.1 w (by rw [h3.fst]; exact h3.v.s.below hb) (by rw [h2.fst]; exact h2.v.s.below hb) (by omega) (by omega))
  rw [show (r.1 == t.1) = true by rw [hs]; exact beq_self_eq_true _] at KS
  have hm1 := h1.mlen.2.2
  have hm2 := h2.mlen.2.2
  have hm3 := h3.mlen.2.2
  have hmt := h2.mlen.1
  have hok := plE_ok hpl
  have hin := natL_lt (n := m1) (l := t.2) (fun x hx => hok.2 x hx)
  have HIN := Lib.hid (fun j (hj : j < m2) => (show (natL t.2).getD j 0 < m1 from by
    rw [List.getD_eq_getElem?_getD, List.getElem?_eq_getElem (by rw [natL_len]; omega)]
    exact hin _ (List.getElem_mem _)))
  have HAT := Lib.hid (fun j (hj : j < m2) => natL_at (l := t.2) (fun x hx => (hok.2 x hx).1) (k := j) (by omega))
  have HST := Lib.hid (fun j (hj : j < m2) => am_step q.2 (L := natL t.2) (ws := wsL r t.2.length) (by rw [natL_len, hwl]) (k := j) (by rw [natL_len]; omega))
  have HWS := Lib.hid (fun j (hj : j < m2) => (show (wsL r t.2.length).getD j 0 = r.2.getD j 0 from by rw [ws_all hr0]))
  have HEL := Lib.hid (show St W b3 m3 (r.2.map S) from by have := h3.v.t; rwa [h3.i.2.1] at this)
  have HES := Lib.hid (show St W b1 m1 (q.2.map S) from by have := h1.v.t; rwa [h1.i.2.1] at this)
  have HRL := Lib.hid hmr.symm
  have HMT := Lib.hid hmt.symm
  have HLN := Lib.hid (show (natL t.2).length = m2 ∧ (wsL r t.2.length).length = m2 from ⟨by rw [natL_len]; omega, by rw [hwl]; omega⟩)
  have HRK := Lib.hid (am_rok (q := q) (t := t) (r := r) h1.i.rok h3.i.rok (fun _ h => absurd h hr0))
  have HQ1 := Lib.hid (vec_one h1.i.rok (by rw [h1.fst, h1.v.s.1]; exact hn))
  have HMQ := Lib.hid hmq.symm
  have KV2 := Lib.hid (fun w (hb : Below W.heap.size W w) => Vector_o b1 m1 d1 (q.2.map S) w (HES.out.below hb) (by omega))
  have HM3 := Lib.hid hmm3
  clear h1 h2 h3 hn hn2 hmq hpl hPL hn33 hok hin hwl hmt hmr hr0 h30 hW hs hn20 hmm3
  have h := live3 W a1 n1 c1 b1 m1 d1 a2 n2 c2 b2 m2 d2 a3 n3 c3 b3 m3 d3
  go_enter Tryd.func18, Tryd.ntmps18
  have x1 := h.out.2.2.2.1.c0
  have y1 := h.out.2.2.2.1.c1
  go_wp2_with fail
  with_reducible refine (live h (KV.out _ h.out.2.2.2.2)).mono ?_
  clear h x1 y1
  rintro e w ⟨rfl, h⟩
  have x1 := h.out.2.2.1.c0
  have y1 := h.out.2.2.1.c1
  go_wp2_with fail
  with_reducible refine (live h (KU.out _ h.out.2.2.2.2)).mono ?_
  clear h x1 y1
  rintro e w ⟨rfl, h⟩
  have x1 := h.out.2.1.c0
  have y1 := h.out.2.1.c1
  go_wp2_with fail
  with_reducible refine (live h (KX.out _ h.out.2.2.2.2)).mono ?_
  clear h x1 y1
  rintro e w ⟨rfl, h⟩
  have x1 := h.out.2.2.2.1.c0
  have y1 := h.out.2.2.2.1.c1
  have x2 := h.out.2.2.1.c0
  have y2 := h.out.2.2.1.c1
  go_wp2_with fail
  refine (live_pl h (KP.out _ h.out.2.2.2.2)).mono ?_
  clear h x1 y1 x2 y2
  rintro e w ⟨pa, pn, pc, rfl, hpp, h⟩
  obtain ⟨hpn, hps, _, _⟩ := hpp HPL.out
  rw [HMT.out] at hpn
  subst hpn
  rw [HPL.out]
  have HPS := Lib.hid hps
  clear hpp hps
  have x3 := h.out.2.1.c0
  have y3 := h.out.2.1.c1
  have x2 := h.out.2.2.1.c0
  have y2 := h.out.2.2.1.c1
  go_wp2_with fail
  refine (KS.out _ h.out.2.2.2.2).mono ?_
  rintro e w9 ⟨rfl, hb9⟩
  replace h := live_to h hb9
  replace HPS := Lib.hid (HPS.out.below hb9)
  clear x3 y3 x2 y2 hb9 KS
  have y1 := h.out.2.2.2.1.c1
  go_wp2_with fail
  refine (KV2.out _ h.out.2.2.2.2).mono ?_
  clear y1
  rintro e wv ⟨ar, cr, br, dr, rfl, hsv, hcr, hcm, hov, hbv⟩
  obtain ⟨B, hB⟩ : ∃ B, B = w9.heap.size := ⟨_, rfl⟩
  obtain ⟨wo, hwo⟩ : ∃ z, z = wv.alloc (.cells #[.slice ar 1 cr, .slice br m1 dr] 25) := ⟨_, rfl⟩
  obtain ⟨G, hG⟩ : ∃ G, G = wv.heap.size := ⟨_, rfl⟩
  have hba : Below wv.heap.size wv wo := by rw [hwo]; exact (Below.refl _ _).alloc (Nat.le_refl _) _
  have hXo : Bx wo G ar 1 cr br m1 dr := by rw [hwo, hG]; exact Bx.new _ _ _ _ _ _ _
  have HBO : Hid (Below B w9 wo) := Lib.hid (by rw [hB]; exact hbv.trans (hba.mono hbv.size))
  have HSO := Lib.hid (hsv.below hba)
  have HOO : Hid (wo.ownsRow B 9 1 (.slice br m1 dr) m1 (valsS (q.2.map S))) := Lib.hid (by rw [hB]; exact own_below hov hba)
  have HRG : Hid (∀ R, br = some ⟨R, 0, none⟩ → B ≤ R ∧ R < G) := Lib.hid fun R e => by
    have := hov.lt R (by rw [e]; rfl)
    rw [hB, hG]; exact this
  have HLV := Lib.hid h
  have HCC := Lib.hid (And.intro hcr hcm)
  have HOV := Lib.hid (own_caps hov)
  have x3 := h.out.2.1.c0
  have y3 := h.out.2.1.c1
  have BWG : W.heap.size ≤ B := by rw [hB]; exact h.out.2.2.2.2.size
  clear h hsv hcr hcm hov hbv hba KV2
  go_upto_region 12 with fail
  rw [← hwo, ← hG]
  clear hwo hG x3 y3
  go_wp2_with fail
  go_loopw [71] (fun iv wr => ∃ k : Nat, iv = .int .i64 (k : Int) ∧ k ≤ pn ∧ Hid (wr.ownsRow B 9 1 (.slice br m1 dr) m1 (valsS ((amS q.2 ((natL t.2).take k) ((wsL r t.2.length).take k)).map S))) ∧ Bx wr G ar 1 cr br m1 dr ∧ Hid (Sl wr ar 1 [(m1 : Int)]) ∧ Below B w9 wr) (fun iv _ => pn - (intOf iv).toNat)
  case atStart => exact ⟨0, rfl, Nat.zero_le _, Lib.hid (by rw [List.take_zero, List.take_zero]; exact HOO.out), hXo, HSO, HBO.out⟩
  case round =>
    obtain ⟨k, rfl, hk, HO, hX, HSR, hb⟩ := hrel
    clear hXo
    have h := live_belS HLV.out hb (by rw [hB]; exact Nat.le_refl _)
    by_cases hlt : k < pn
    · have e2 : (k : Int) < (pn : Int) := by omega
      have hi0 := HIN.out k hlt
      obtain ⟨R, rfl⟩ : ∃ R, br = some ⟨R, 0, none⟩ := by
        rcases HO.out.2 with ⟨e, e0⟩ | ⟨R, cap, cur, e, _⟩
        · omega
        · injection e with e1 e2 e3; exact ⟨R, e1⟩
      obtain ⟨hBR, hRG⟩ := HRG.out R rfl
      obtain ⟨bl, ol, hpe, hcl⟩ := HPS.out.2 (by omega)
      subst hpe
      have hck := (hb.cell (p := ⟨bl, ol + k, none⟩) (by rw [hB]; exact World.block_lt_of_cell? _ _ (hcl k hlt))).trans (hcl k hlt)
      rw [← HAT.out k hlt] at hck
      have hst := HST.out k hlt
      rw [HWS.out k hlt] at hst
      obtain ⟨p, hp⟩ : ∃ p, p = (natL t.2).getD k 0 := ⟨_, rfl⟩
      rw [← hp] at hck hst hi0
      have him : k < m3 := by rw [HM3.out]; exact hlt
      obtain ⟨b5, o5, hb5, hc5⟩ := HEL.out.2 (by omega)
      subst hb5
      have hce := (h.out.2.2.2.2.cell (p := ⟨b5, o5 + k, none⟩) (World.block_lt_of_cell? W _ (hc5 k him))).trans (hc5 k him)
      rw [getD_S (by rw [HRL.out]; exact him)] at hce
      have hw1 := HO.out.stored p (.string (S (r.2.getD k 0)))
      have hcR : wr.cell? ⟨R, p, none⟩ = some (.string (((amS q.2 ((natL t.2).take k) ((wsL r t.2.length).take k)).map S).getD p ByteArray.empty)) := by
        rw [HO.out.cellAt p (by omega)]
        have hl : p < ((amS q.2 ((natL t.2).take k) ((wsL r t.2.length).take k)).map S).length := by rw [List.length_map, am_len, HMQ.out]; exact hi0
        unfold valsS
        rw [List.getElem?_map, List.getElem?_eq_getElem hl, List.getD_eq_getElem?_getD, List.getElem?_eq_getElem hl]; rfl
      have hfR := HO.out.frozenAt p
      have HN : Hid ((wr.setCell ⟨R, p, none⟩ (.string (S (r.2.getD k 0)))).ownsRow B 9 1 (.slice (some ⟨R, 0, none⟩) m1 dr) m1 (valsS ((amS q.2 ((natL t.2).take (k + 1)) ((wsL r t.2.length).take (k + 1))).map S))) := Lib.hid (by
        rw [hst, List.map_set]
        have := hw1.1
        rw [show (valsS ((amS q.2 ((natL t.2).take k) ((wsL r t.2.length).take k)).map S)).set p (.string (S (r.2.getD k 0))) = valsS (((amS q.2 ((natL t.2).take k) ((wsL r t.2.length).take k)).map S).set p (S (r.2.getD k 0))) by unfold valsS; rw [List.map_set]] at this
        exact this)
      have HXN := Lib.hid (hX.setOther (p := ⟨R, p, none⟩) (show G ≠ R by omega) (.string (S (r.2.getD k 0))))
      have HSN := Lib.hid (HSR.out.far hcR (.string (S (r.2.getD k 0))))
      have HBN := Lib.hid (hb.setCell (p := ⟨R, p, none⟩) hBR (.string (S (r.2.getD k 0))))
      obtain ⟨s, hs⟩ : ∃ s, s = S (r.2.getD k 0) := ⟨_, rfl⟩
      rw [← hs] at hce HN HXN HSN HBN

      generalize ((amS q.2 ((natL t.2).take k) ((wsL r t.2.length).take k)).map S).getD p ByteArray.empty = s0 at hcR
      have c1 := hX.c1
      have y3 := h.out.2.1.c1
      have hpm : (p : Int) < (m1 : Int) := by omega
      have hkm : (k : Int) < (m3 : Int) := by omega
      clear hcl hc5 hst hw1 hs hb h hX hp HO
      go_wp2_with fail
      go_region
      all_goals
        clear c1 y3 hce hcR hck
        go_wp2_with fail
        go_roundw
        case rel => exact ⟨k + 1, by go_num, by omega, (by first | exact HN | exact Lib.hid (show World.ownsRow _ _ _ _ _ _ _ from HN.out)), (by first | exact HXN.out | exact HXN.out.drew), (by first | exact HSN | exact Lib.hid HSN.out.drew), (by first | exact HBN.out | exact HBN.out.drew)⟩
        case measure => simp [intOf]; omega
    · have e2 : ¬ (k : Int) < (pn : Int) := by omega
      obtain rfl : k = pn := by omega
      have ho := HO.out
      rw [List.take_of_length_le (by rw [HLN.out.1]; exact Nat.le_refl _), List.take_of_length_le (by rw [HLN.out.2]; exact Nat.le_refl _)] at ho
      have hst := Lib.hid (own_st ho)
      have c0 := hX.c0
      have c1 := hX.c1
      have y0 := h.out.1.c0
      have y3 := h.out.1.c1
      have f0 := h.out.1.f 0
      have f1 := h.out.1.f 1
      clear ho HO hb
      go_wp2_with fail
      have hR := h.out.1.set ar 1 cr br m1 dr
      have r0 := hR.c0
      have r1 := hR.c1
      exact bodyPost_ret (v := .tuple #[.agg #[.slice ar 1 cr, .slice br m1 dr], .int .i64 0]) (by simp [results, Tryd.results18, go_sem, r0, r1]) rfl
        (mend_box (r := (some (q.1, amS q.2 (natL t.2) (wsL r t.2.length)), 0)) h.out.1 h.out.2.2.2.2 (by omega) ⟨by
          show Sl wr ar 1 q.1
          rw [HQ1.out, HMQ.out]; exact HSR.out, hst.out, by omega⟩ ⟨HCC.out.1, HCC.out.2, HOV.out.1, HOV.out.2⟩ HRK.out)
theorem SAmend_is {a1 b1 a2 b2 a3 b3 : Option Addr} {n1 c1 m1 d1 n2 c2 m2 d2 n3 c3 m3 d3 : Nat} {l m k : List Int} {es fs gs : List ByteArray} {W : World} {o p u : Option Ar} (h1 : Av W a1 n1 c1 b1 m1 d1 l es o) (h2 : Av W a2 n2 c2 b2 m2 d2 m fs p) (h3 : Av W a3 n3 c3 b3 m3 d3 k gs u) (hW : WT W) : Calls Tryd.prog 18 #[.agg #[.slice a1 n1 c1, .slice b1 m1 d1], .agg #[.slice a2 n2 c2, .slice b2 m2 d2], .agg #[.slice a3 n3 c3, .slice b3 m3 d3]] W (MEnd (amK o p u) W) := by
  cases o with
  | none =>
    rw [show amK none p u = (none, 1) by cases p <;> cases u <;> rfl]
    exact sam_0 (m := m) (k := k) (fs := fs) (gs := gs) h1
  | some q =>
  cases p with
  | none => rw [am_1]; exact sam_1 (k := k) (gs := gs) h1 h2
  | some t =>
  cases u with
  | none => rw [am_2]; exact sam_2 h1 h2 h3
  | some r =>
    have l1 : q.1.length = n1 := by rw [h1.fst]; exact h1.v.s.1
    have e2 := h2.fst
    have e3 := h3.fst
    have l2 := h2.v.s.1
    have l3 := h3.v.s.1
    by_cases hl1 : n1 = 1
    · have hl : q.1.length = 1 := l1.trans hl1
      by_cases hn : 1 < n2
      · rw [am_4 r hl (by rw [e2, l2]; exact hn)]; exact sam_4 h1 h2 h3 hl1 hn
      · have hn' : ¬ 1 < t.1.length := by rw [e2, l2]; exact hn
        by_cases hpl : plE t (q.2.length : Int) = 0
        · by_cases h30 : n3 = 0
          · rw [am_7 hl hn' hpl (fun h => h.1 (List.length_eq_zero_iff.1 (by rw [e3, l3]; exact h30)))]; exact sam_7a h1 h2 h3 hW hl1 hn hpl h30
          · by_cases hs : t.1 = r.1
            · rw [am_7 hl hn' hpl (fun h => h.2 hs)]; exact sam_7b h1 h2 h3 hW hl1 hn hpl h30 hs
            · rw [am_6 hl hn' hpl ⟨fun e => h30 (by rw [← l3, ← e3, e]; rfl), hs⟩]; exact sam_6 h1 h2 h3 hW hl1 hn hpl h30 hs
        · rw [am_5 r hl hn' hpl]; exact sam_5 h1 h2 h3 hW hl1 hn hpl
    · have hv : vcE (some q) = 3 := by unfold vcE; dsimp only; rw [if_pos (by omega)]
      rw [am_3 t r (by rw [hv]; decide), hv]; exact sam_3 h1 h2 h3 hl1
end Go.Proofs.YtpledghphljfkaaDoor

/-
  TreeSame at every two lists and node.
-/
import Derived.Test.YtiopemimancliaaYs
import Derived.Test.YtiopemimancliaaYx
import Derived.Deep.RegionHeld3
import Derived.Deep.DeepCutAuto
namespace Go.Proofs.Ytiopemimancliaa
open Go.RowKit

/-- A callee's end, told of an elder world. -/
theorem calls_base {f : FuncId} {args : Array Value} {wb w : World} {v : Value} (hb : Below wb.heap.size wb w) (h : Calls Try.prog f args w (ValEnd v w)) : Calls Try.prog f args w fun e W' => e = .returned v ∧ Below wb.heap.size wb W' :=
  h.mono fun _ _ ⟨h1, h2⟩ => ⟨h1, hb.trans (h2.mono hb.size)⟩
def NdEnd (F : Nat → Nd) (M : Nat) (wb w : World) (e : Ending) (W' : World) : Prop := ∃ g o c G, e = .returned (.slice (some ⟨g, o, none⟩) M c) ∧ Nq W' (some ⟨g, o, none⟩) M G ∧ (∀ j, j < M → smN (G j) (F j) = true) ∧ Below wb.heap.size wb W' ∧ Below w.heap.size w W'
theorem node_base {args : Array Value} {wb w : World} {F : Nat → Nd} {M : Nat} (hM : 0 < M) (hb : Below wb.heap.size wb w) (h : Calls Try.prog 22 args w (NodeEnd F M w)) : Calls Try.prog 22 args w (NdEnd F M wb w) :=
  h.mono fun e W' ⟨v, G, h1, h2, h3, h4, h5, _⟩ => by
    obtain ⟨g, o, c, rfl, _, _, hq, _⟩ := own_to_nq h2 h3 hM
    exact ⟨g, o, c, G, h1, hq, h4, hb.trans (h5.mono hb.size), h5⟩
theorem Nq.new1 (w : World) {d : Nd} (hd : d.on w) : Nq (w.alloc (.cells #[.int .i64 d.k, .string d.v, .string d.a, .string d.x, .slice d.g d.m d.c] 25)) (some ⟨w.heap.size, 0, none⟩) 1 (fun _ => d) := by
  have hB := Bd.new w d.k d.v d.a d.x d.g d.m d.c
  refine ⟨fun _ => ⟨_, 0, rfl, fun j hj => ?_⟩, fun j hj => hd.below (box_below w _)⟩
  obtain rfl : j = 0 := by omega
  exact ⟨hB.c0, hB.c1, hB.c2, hB.c3, hB.c4⟩
set_option maxHeartbeats 6400000 in
set_option maxRecDepth 10000 in
theorem tsame_is (a b : Option Addr) (n m c cc : Nat) (f g : Nat → Nd) (d : Nd) (W : World) (h1 : Nq W a n f) (hnc : n ≤ c) (hc : c ≤ maxLen) (h2 : Nq W b m g) (hmc : m ≤ cc) (hcc : cc ≤ maxLen) (hd : d.on W) (hdm : d.m * 16 ≤ 140737488351232) :
    Calls Try.prog 4 #[.slice a n c, .slice b m cc, d.val] W (ValEnd (.bool true) W) := by
  have hn63 : n ≤ 9223372036854775807 := maxLen_le (Nat.le_trans hnc hc)
  have hm63 : m ≤ 9223372036854775807 := maxLen_le (Nat.le_trans hmc hcc)
  have HDV := Lib.hid hd
  have hdv : d.val = .agg #[.int .i64 d.k, .string d.v, .string d.a, .string d.x, .slice d.g d.m d.c] := rfl
  rw [hdv]
  have hb0 := box_below W (.cells #[.int .i64 d.k, .string d.v, .string d.a, .string d.x, .slice d.g d.m d.c] 25)
  have hA := Bd.new W d.k d.v d.a d.x d.g d.m d.c
  have KF := Lib.hid (fun w (hw : Below W.heap.size W w) => Few_is a n c f w (h1.below hw) hn63)
  have KG := Lib.hid (fun w (hw : Below W.heap.size W w) => Few_is b m cc g w (h2.below hw) hm63)
  have KS := Lib.hid (fun w => shown_is w)
  have H1 := Lib.hid h1
  have H2 := Lib.hid h2
  clear h1 h2 hd hdv
  go_enter Try.func4, Try.ntmps4
  go_wp2_with fail
  refine (KS.out _).mono ?_
  rintro e w1 ⟨rfl, hb⟩
  have hA1 := hA.on hb
  have hb1 := hb0.trans (hb.mono hb0.size)
  clear hA hb0 hb KS
  go_wp2_with fail
  refine (KF.out _ hb1).mono ?_
  rintro e w2 ⟨r, rfl, hr, hb⟩
  have hA2 := hA1.on hb
  have hb2 := hb1.trans (hb.mono hb1.size)
  clear hA1 hb1 hb KF
  cases r with
  | false =>
    clear hr hA2
    go_wp2_with fail
    go_ret
    exact ⟨rfl, hb2⟩
  | true =>
    obtain ⟨hn80, hf120⟩ := hr rfl
    clear hr
    go_wp2_with fail
    refine (KG.out _ hb2).mono ?_
    rintro e w3 ⟨r, rfl, hr, hb⟩
    have hA3 := hA2.on hb
    have hb3 := hb2.trans (hb.mono hb2.size)
    clear hA2 hb2 hb KG
    cases r with
    | false =>
      clear hr hA3
      go_wp2_with fail
      go_ret
      exact ⟨rfl, hb3⟩
    | true =>
      obtain ⟨hm80, hg120⟩ := hr rfl
      clear hr
      have x0 := hA3.c0
      have x1 := hA3.c1
      have x2 := hA3.c2
      have x3 := hA3.c3
      have x4 := hA3.c4
      have hr0 := World.ownsRow_lit (base := W.heap.size) (e := 25) (size := 5) w3 #[.int .i64 d.k, .string d.v, .string d.a, .string d.x, .slice d.g d.m d.c] 1 hb3.size (by unfold maxLen; omega) rfl
      have hA4 := hA3.alloc (.cells #[.int .i64 d.k, .string d.v, .string d.a, .string d.x, .slice d.g d.m d.c] 25)
      have hb4 := hb3.alloc hb3.size (.cells #[.int .i64 d.k, .string d.v, .string d.a, .string d.x, .slice d.g d.m d.c] 25)
      have l3 : W.heap.size < w3.heap.size := hA3.lt
      obtain ⟨w4, hw4⟩ : ∃ w4, w4 = w3.alloc (.cells #[.int .i64 d.k, .string d.v, .string d.a, .string d.x, .slice d.g d.m d.c] 25) := ⟨_, rfl⟩
      rw [← hw4] at hr0 hA4 hb4
      have s4 : w4.heap.size = w3.heap.size + 1 := by rw [hw4]; simp
      have HW4 := Lib.hid hw4
      have hq4 := H1.out.below hb4
      have h34 : Below w3.heap.size w4 w4 := Below.refl _ _
      have nA : a = none → n = 0 := by
        intro ha
        rcases Nat.eq_zero_or_pos n with h0 | h0
        · exact h0
        · obtain ⟨_, _, e, _⟩ := hq4.ld h0
          rw [ha] at e; cases e
      have nB : b = none → m = 0 := by
        intro ha
        rcases Nat.eq_zero_or_pos m with h0 | h0
        · exact h0
        · obtain ⟨_, _, e, _⟩ := H2.out.ld h0
          rw [ha] at e; cases e
      have hr0 : w4.ownsRow w3.heap.size 25 5 (.slice (some ⟨w3.heap.size, 0, none⟩) 1 1) 1 (nvs (fun _ => d) 1) := by
        rcases hr0.2 with ⟨h0, _⟩ | ⟨g', cap', cur', h1, h2, h3⟩
        · cases h0
        · cases h1
          exact ⟨rfl, .inr ⟨_, _, cur', rfl, Nat.le_refl _, h3⟩⟩
      have hf120 := Lib.hid hf120
      have hg120 := Lib.hid hg120
      have HNA := Lib.hid nA
      have HNB := Lib.hid nB
      clear hw4 hA3 hb3 nA nB
      obtain ⟨i0, hi0, hz0, hz1, hz2⟩ := info_parts infoN
      go_wp2_with (at_builtin; rw [← HW4.out]; refine wpList_append_all rfl (.tmp 20) (.tmp 21) 22 rfl w3.heap.size 25 i0 (.agg #[.int .i64 0, .string ⟨#[]⟩, .string ⟨#[]⟩, .string ⟨#[]⟩, .slice none 0 0]) 5 80 Try.underlying22 hi0 hz0 hz1 hz2 rfl (by decide) _ 1 _ rfl hr0 a n c (nvs f n) rfl (nvs_len _ _) HNA.out hq4.cells (nvs_one _ _) ?c1 ?c2 ?c3 ?_)
      case c1 => unfold maxLen; omega
      case c2 => omega
      case c3 => omega
      intro v5 w5 hown5 hgrow5
      have h35 : Below w3.heap.size w4 w5 := h34.grown hgrow5 (by omega) (fun k hk => by cases hk; exact Nat.le_refl _)
      have hb5 : Below W.heap.size W w5 := hb4.grown hgrow5 hb4.size (fun k hk => by cases hk; exact Nat.le_of_lt l3)
      have hA5 := hA4.below h35 l3
      rw [← nvs_ap] at hown5
      have s5 := h35.size
      clear x0 x1 x2 x3 x4 hgrow5 hr0 hA4 hb4 hq4 HW4 h34
      have hq5 := H2.out.below hb5
      go_wp2_with (at_builtin; refine wpList_append_all rfl (.tmp 23) (.tmp 24) 22 rfl w3.heap.size 25 i0 (.agg #[.int .i64 0, .string ⟨#[]⟩, .string ⟨#[]⟩, .string ⟨#[]⟩, .slice none 0 0]) 5 80 Try.underlying22 hi0 hz0 hz1 hz2 rfl (by decide) _ (1 + n) _ rfl hown5 b m cc (nvs g m) rfl (nvs_len _ _) HNB.out hq5.cells (nvs_one _ _) ?d1 ?d2 (by omega) ?_)
      case d1 => unfold maxLen; omega
      case d2 => omega
      intro v6 w6 hown6 hgrow6
      have h36 : Below w3.heap.size w5 w6 := (Below.refl _ w5).grown hgrow6 (by omega) (fun k hk => (hown5.lt k hk).1)
      have hb6 : Below W.heap.size W w6 := hb5.grown hgrow6 hb5.size (fun k hk => Nat.le_trans (Nat.le_of_lt l3) (hown5.lt k hk).1)
      have hA6 := hA5.below h36 l3
      rw [← nvs_ap] at hown6
      have hon6 : ∀ j, j < 1 + n + m → (ap (ap (fun _ => d) 1 f) (1 + n) g j).on w6 := by
        intro j hj
        unfold ap
        by_cases h1 : j < 1 + n
        · rw [if_pos h1]
          by_cases h2 : j < 1
          · rw [if_pos h2]; exact HDV.out.below hb6
          · rw [if_neg h2]; exact (H1.out.below hb6).on _ (by omega)
        · rw [if_neg h1]; exact (H2.out.below hb6).on _ (by omega)
      have hz6 : ∀ j, j < 1 + n + m → (ap (ap (fun _ => d) 1 f) (1 + n) g j).m * 16 ≤ 140737488355328 := by
        intro j hj
        unfold ap
        by_cases h1 : j < 1 + n
        · rw [if_pos h1]
          by_cases h2 : j < 1
          · rw [if_pos h2]; show d.m * 16 ≤ 140737488355328; omega
          · rw [if_neg h2]; have := hf120.out (j - 1) (by omega); omega
        · rw [if_neg h1]; have := hg120.out (j - (1 + n)) (by omega); omega
      obtain ⟨gl, ol, c6, rfl, _, _, hl6, _⟩ := own_to_nq hown6 hon6 (by omega)
      have s6 := hb6.size
      have y0 := hA6.c0
      have y1 := hA6.c1
      have y2 := hA6.c2
      have y3 := hA6.c3
      have y4 := hA6.c4
      have l6 : W.heap.size < w6.heap.size := hA6.lt
      have KN1 := fun w' (hw : Below w6.heap.size w6 w') (gk : Nat) (hk : w'.heap[gk]? = some (Obj.cells #[.slice a n c, .slice b m cc] 22 (0, 0))) => node_base (M := 1 + n + m) (F := ap (ap (fun _ => d) 1 f) (1 + n) g) (by omega) hw (Node_is d (some ⟨gk, 0, none⟩) 2 2 (fun i => if i = 0 then ⟨a, n, c, f⟩ else ⟨b, m, cc, g⟩) w' (HDV.out.below (hb6.trans (hw.mono s6)))
        (fun i hi => by
          have hi : i = 0 ∨ i = 1 := by omega
          rcases hi with rfl | rfl
          · exact H1.out.below (hb6.trans (hw.mono s6))
          · exact H2.out.below (hb6.trans (hw.mono s6)))
        (fun _ => ⟨gk, 0, rfl, fun i hi => by
          have hi : i = 0 ∨ i = 1 := by omega
          rcases hi with rfl | rfl
          · rw [cell_of_row _ _ _ _ _ _ hk]; rfl
          · rw [cell_of_row _ _ _ _ _ _ hk]; rfl⟩)
        (by omega) (show 1 + n + m ≤ 1000000 by omega) hz6)
      have KN2 := fun w' (hw : Below w6.heap.size w6 w') => node_base (M := 1) (F := fun _ => d) (by omega) hw (Node_is d none 0 0 (fun _ => ⟨none, 0, 0, f⟩) w' (HDV.out.below (hb6.trans (hw.mono s6))) (fun i hi => by omega) (fun h => by omega) (by omega) (show 1 ≤ 1000000 by omega) (fun j hj => show d.m * 16 ≤ 140737488355328 by omega))
      obtain ⟨F, hF⟩ : ∃ F, F = ap (ap (fun _ => d) 1 f) (1 + n) g := ⟨_, rfl⟩
      obtain ⟨M, hMM⟩ : ∃ M, M = 1 + n + m := ⟨_, rfl⟩
      rw [← hF, ← hMM] at KN1 hl6
      rw [← hMM]
      have hM6 : M ≤ 1000000 := by omega
      have A1 := Lib.hid (fun w' (hw : Below w6.heap.size w6 w') => calls_base hw (Same_is a b n m c cc f g w' (H1.out.below (hb6.trans (hw.mono s6))) (H2.out.below (hb6.trans (hw.mono s6))) (by omega) (by omega)))
      have A2 := Lib.hid (fun w' (hw : Below w6.heap.size w6 w') => calls_base hw (rTSame_is a b n m c cc f g w' (H1.out.below (hb6.trans (hw.mono s6))) (H2.out.below (hb6.trans (hw.mono s6))) (by omega) (by omega)))
      have A3 := Lib.hid (fun w' (hw : Below w6.heap.size w6 w') g1 o1 c1 G1 (h1 : Nq w' (some ⟨g1, o1, none⟩) M G1) (hs : ∀ j, j < M → smN (G1 j) (F j) = true) => calls_base hw (by
        have := rTSame_is (some ⟨g1, o1, none⟩) (some ⟨gl, ol, none⟩) M M c1 c6 G1 F w' h1 (hl6.below hw) hM6 hM6
        rw [decide_eq_true rfl, sameL_yes.2 hs, Bool.true_and] at this
        exact this : Calls Try.prog 21 #[.slice (some ⟨g1, o1, none⟩) M c1, .slice (some ⟨gl, ol, none⟩) M c6] w' (ValEnd (.bool true) w')))
      have A4 := Lib.hid (fun w' (hw : Below w6.heap.size w6 w') g1 o1 c1 G1 g2 (h1 : Nq w' (some ⟨g1, o1, none⟩) 1 G1) (hs : ∀ j, j < 1 → smN (G1 j) d = true) (h2 : Nq w' (some ⟨g2, 0, none⟩) 1 (fun _ => d)) => calls_base hw (by
        have := rTSame_is (some ⟨g1, o1, none⟩) (some ⟨g2, 0, none⟩) 1 1 c1 1 G1 (fun _ => d) w' h1 h2 (by omega) (by omega)
        rw [decide_eq_true rfl, sameL_yes.2 hs, Bool.true_and] at this
        exact this : Calls Try.prog 21 #[.slice (some ⟨g1, o1, none⟩) 1 c1, .slice (some ⟨g2, 0, none⟩) 1 1] w' (ValEnd (.bool true) w')))
      have HDW := Lib.hid (fun w' (hw : Below w6.heap.size w6 w') => HDV.out.below (hb6.trans (hw.mono s6)))
      generalize (decide (n = m) && sameL f g n) = bS at A1 A2
      have A5 := Lib.hid KN1
      have A6 := Lib.hid KN2
      have HB6 := Lib.hid hb6
      have hq : Below w6.heap.size w6 w6 := Below.refl _ _
      have hqz := hq.size
      rw [show d.val = .agg #[.int .i64 d.k, .string d.v, .string d.a, .string d.x, .slice d.g d.m d.c] from rfl] at A5 A6
      clear hr0 hf120 hg120 HNA HNB hown5 h35 hb5 hA5 s5 hq5 hown6 hgrow6 h36 hA6 hon6 hz6 hl6 KN1 KN2 hF hMM hM6 H1 H2 HDV s4 l3 hdm hn80 hm80 hb6 s6 hnc hc hmc hcc hn63 hm63
      go_upto_region 6 with fail
      go_region_held3 (fun w' => w'.cell? ⟨W.heap.size, 0, none⟩ = some (.int .i64 d.k) ∧ w'.cell? ⟨W.heap.size, 1, none⟩ = some (.string d.v) ∧ w'.cell? ⟨W.heap.size, 2, none⟩ = some (.string d.a) ∧ w'.cell? ⟨W.heap.size, 3, none⟩ = some (.string d.x) ∧ w'.cell? ⟨W.heap.size, 4, none⟩ = some (.slice d.g d.m d.c))
        (first | exact ⟨(Below.cell (p := ⟨W.heap.size, 0, none⟩) (by repeat' (first | exact hq | refine Below.drew ?_ | refine Below.alloc ?_ ?_ _ | exact hqz | exact Nat.le_refl _ | omega | (simp; done) | (simp; omega))) l6).trans y0, (Below.cell (p := ⟨W.heap.size, 1, none⟩) (by repeat' (first | exact hq | refine Below.drew ?_ | refine Below.alloc ?_ ?_ _ | exact hqz | exact Nat.le_refl _ | omega | (simp; done) | (simp; omega))) l6).trans y1, (Below.cell (p := ⟨W.heap.size, 2, none⟩) (by repeat' (first | exact hq | refine Below.drew ?_ | refine Below.alloc ?_ ?_ _ | exact hqz | exact Nat.le_refl _ | omega | (simp; done) | (simp; omega))) l6).trans y2, (Below.cell (p := ⟨W.heap.size, 3, none⟩) (by repeat' (first | exact hq | refine Below.drew ?_ | refine Below.alloc ?_ ?_ _ | exact hqz | exact Nat.le_refl _ | omega | (simp; done) | (simp; omega))) l6).trans y3, (Below.cell (p := ⟨W.heap.size, 4, none⟩) (by repeat' (first | exact hq | refine Below.drew ?_ | refine Below.alloc ?_ ?_ _ | exact hqz | exact Nat.le_refl _ | omega | (simp; done) | (simp; omega))) l6).trans y4⟩ | fail)
        (first
          | (go_at_call 20; (with_reducible refine (A1.out _ (by repeat' (first | exact hq | refine Below.drew ?_ | refine Below.alloc ?_ ?_ _ | exact hqz | exact Nat.le_refl _ | omega | (simp; done) | (simp; omega)))).mono ?_); rintro e wa ⟨rfl, hq⟩; have hqz := hq.size)
          | (go_at_call 21; (with_reducible refine (A2.out _ (by repeat' (first | exact hq | refine Below.drew ?_ | refine Below.alloc ?_ ?_ _ | exact hqz | exact Nat.le_refl _ | omega | (simp; done) | (simp; omega)))).mono ?_); rintro e wa ⟨rfl, hq⟩; have hqz := hq.size)
          | (go_at_call 22; (with_reducible refine (A5.out _ (by repeat' (first | exact hq | refine Below.drew ?_ | refine Below.alloc ?_ ?_ _ | exact hqz | exact Nat.le_refl _ | omega | (simp; done) | (simp; omega))) _ (heap_alloc_new _ _)).mono ?_); rintro e wn ⟨g1, o1, c1, G1, rfl, hn1, hs1, hq, hr⟩; have hqz := hq.size)
          | (go_at_call 21; (with_reducible refine (A3.out _ (by repeat' (first | exact hq | refine Below.drew ?_ | refine Below.alloc ?_ ?_ _ | exact hqz | exact Nat.le_refl _ | omega | (simp; done) | (simp; omega))) _ _ _ _ hn1 hs1).mono ?_); rintro e wa ⟨rfl, hq⟩; have hqz := hq.size)
          | (go_at_call 22; (with_reducible refine (A6.out _ (by repeat' (first | exact hq | refine Below.drew ?_ | refine Below.alloc ?_ ?_ _ | exact hqz | exact Nat.le_refl _ | omega | (simp; done) | (simp; omega)))).mono ?_); have hqo := hq; rintro e wn ⟨g2, o2, c2, G2, rfl, hn2, hs2, hq, hr⟩; have hqz := hq.size; (try have hrow := (Nq.new1 _ (HDW.out _ hqo)).below hr))
          | (go_at_call 21; (with_reducible refine (A4.out _ (by repeat' (first | exact hq | refine Below.drew ?_ | refine Below.alloc ?_ ?_ _ | exact hqz | exact Nat.le_refl _ | omega | (simp; done) | (simp; omega))) _ _ _ _ _ hn2 hs2 hrow).mono ?_); rintro e wa ⟨rfl, hq⟩; have hqz := hq.size)
          | (go_at_call 21; (with_reducible refine (A4.out _ (by repeat' (first | exact hq | refine Below.drew ?_ | refine Below.alloc ?_ ?_ _ | exact hqz | exact Nat.le_refl _ | omega | (simp; done) | (simp; omega))) _ _ _ _ _ (hn2.below (box_below _ _)) hs2 (Nq.new1 _ (HDW.out _ hq))).mono ?_); rintro e wa ⟨rfl, hq⟩; have hqz := hq.size)
          | fail)
      all_goals
        go_wp2_with fail
        go_ret
        exact ⟨by simp, HB6.out.trans (hq.mono HB6.out.size)⟩
end Go.Proofs.Ytiopemimancliaa

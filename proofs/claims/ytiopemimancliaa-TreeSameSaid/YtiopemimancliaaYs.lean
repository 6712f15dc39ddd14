/-
  The document's example holds.
-/
import Derived.Test.YtiopemimancliaaYr
namespace Go.Proofs.Ytiopemimancliaa
open Go.RowKit

def dP : Nd := ⟨4, ⟨#[43]⟩, ⟨#[]⟩, ⟨#[]⟩, none, 0, 0, []⟩
theorem dP_on (W : World) : dP.on W := ⟨St.nil _ _, Nat.le_refl _, Nat.zero_le _, by unfold dP; simp, by unfold dP; simp, by unfold dP maxLen; decide, Nat.zero_le _, Nat.zero_le _, fun s hs => by cases hs⟩
theorem okN_dP : okN dP = true := by
  have h : verbB ⟨#[43]⟩ = true := by unfold verbB; rw [prt_plus]; simp
  have h2 : emp ⟨#[]⟩ = true := by unfold emp; rw [str_tl]; rfl
  have h3 : advB ⟨#[]⟩ [39, 46] = true := rfl
  unfold okN dP
  simp [h, h2, h3]
theorem okN_litN {s : ByteArray} (g : Option Addr) (hs : mayL s.data.toList = true) : okN (litN s g) = true := by
  have h2 : emp ⟨#[]⟩ = true := by unfold emp; rw [str_tl]; rfl
  unfold litN
  rw [okN_lit]
  unfold numsB alN
  simp [h2, hs]
theorem shown_facts {G : Nat → Nd} {g1 g2 : Option Addr} (h0 : smN (G 0) dP = true) (h1 : smN (G 1) (litN ⟨#[49]⟩ g1) = true) (h2 : smN (G 2) (litN ⟨#[50]⟩ g2) = true) :
    mayB G 3 = true ∧ Fd (ksF G 3) 0 1 3 2 ∧ unI (ksF G 3) 0 = [1, 2] := by
  have hk : ksF G 3 = [2, 0, 0] := by
    obtain ⟨a1, a2, _⟩ := smN_yes.1 h0
    obtain ⟨b1, b2, _⟩ := smN_yes.1 h1
    obtain ⟨c1, c2, _⟩ := smN_yes.1 h2
    show [kd (G 0).k (G 0).v, kd (G 1).k (G 1).v, kd (G 2).k (G 2).v] = _
    rw [a1, a2, b1, b2, c1, c2]
    have e0 : kd dP.k dP.v = 2 := by
      unfold kd dP
      rw [str_tl]
      decide
    have e1 : kd (litN ⟨#[49]⟩ g1).k (litN ⟨#[49]⟩ g1).v = 0 := rfl
    have e2 : kd (litN ⟨#[50]⟩ g2).k (litN ⟨#[50]⟩ g2).v = 0 := rfl
    rw [e0, e1, e2]
  have hF : Fd ([2, 0, 0] : List Int) 0 1 3 2 := Fd.cons (p := 0) (m := 0) (q := 3) (k := 2) rfl (by decide) (Fd.cons (p := 1) (m := 1) (q := 2) (k := 0) rfl (by decide) (.nil 2) (Fd.cons (p := 2) (m := 0) (q := 3) (k := 0) rfl (by decide) (.nil 3) (.nil 3))) (.nil 3)
  rw [hk]
  refine ⟨mayB_yes.2 ⟨2, by rw [hk]; exact hF, by omega, fun i hi => ?_⟩, hF, rfl⟩
  have hi : i = 0 ∨ i = 1 ∨ i = 2 := by omega
  rcases hi with rfl | rfl | rfl
  · exact ⟨by rw [okN_same h0]; exact okN_dP, fun h => absurd h (by omega)⟩
  · refine ⟨by rw [okN_same h1]; exact okN_litN _ (by decide), fun _ => ?_⟩
    rw [(smN_yes.1 h1).1]; rfl
  · refine ⟨by rw [okN_same h2]; exact okN_litN _ (by decide), fun _ => ?_⟩
    rw [(smN_yes.1 h2).1]; rfl
/-- A row of the call's own that bears another call's nodes. -/
theorem own_to_nq {w : World} {base n : Nat} {v : Value} {f : Nat → Nd} (h : w.ownsRow base 25 5 v n (nvs f n)) (ho : ∀ j, j < n → (f j).on w) (hn : 0 < n) : ∃ g off c, v = .slice (some ⟨g, off, none⟩) n c ∧ n ≤ c ∧ c ≤ maxLen ∧ Nq w (some ⟨g, off, none⟩) n f ∧ ∀ j, j < n → Ld w g (off + j * 5) (f j) := by
  obtain ⟨a, c, rfl, h1, h2, h3⟩ := own_lds h
  obtain ⟨b, off, rfl, _, hc⟩ := h3 hn
  exact ⟨b, off, c, rfl, h1, h2, ⟨fun _ => ⟨b, off, rfl, hc⟩, ho⟩, hc⟩
set_option maxHeartbeats 3200000 in
theorem shown_is (W : World) : Calls Try.prog 7 #[] W (ValEnd (.bool true) W) := by
  have K1 := Lib.hid (fun w => lit_is ⟨#[49]⟩ (by unfold maxLen; decide) w)
  have K2 := Lib.hid (fun w => lit_is ⟨#[50]⟩ (by unfold maxLen; decide) w)
  go_enter Try.func7, Try.ntmps7
  go_wp2_with fail
  refine (K1.out _).mono ?_
  rintro e w1 ⟨a1, g1, rfl, hq1, hb1⟩
  go_wp2_with fail
  refine (K2.out _).mono ?_
  rintro e w2 ⟨a2, g2, rfl, hq2, hb2⟩
  have hq1' := hq1.below hb2
  have hb3 := (hb1.trans (hb2.mono hb1.size)).alloc (Nat.le_trans hb1.size hb2.size) (.cells #[.slice a1 1 1, .slice a2 1 1] 22)
  have hbx := box_below w2 (.cells #[.slice a1 1 1, .slice a2 1 1] 22)
  have hrow := heap_alloc_new w2 (.cells #[.slice a1 1 1, .slice a2 1 1] 22)
  have KN := Node_is dP (some ⟨w2.heap.size, 0, none⟩) 2 2 (fun i => if i = 0 then ⟨a1, 1, 1, fun _ => litN ⟨#[49]⟩ g1⟩ else ⟨a2, 1, 1, fun _ => litN ⟨#[50]⟩ g2⟩) (w2.alloc (.cells #[.slice a1 1 1, .slice a2 1 1] 22)) (dP_on _)
    (fun i hi => by
      have hi : i = 0 ∨ i = 1 := by omega
      rcases hi with rfl | rfl
      · exact hq1'.below hbx
      · exact hq2.below hbx)
    (fun _ => ⟨_, 0, rfl, fun i hi => by
      have hi : i = 0 ∨ i = 1 := by omega
      rcases hi with rfl | rfl
      · rw [cell_of_row _ _ _ _ _ _ hrow]; rfl
      · rw [cell_of_row _ _ _ _ _ _ hrow]; rfl⟩)
    (by omega) (show 3 ≤ 1000000 by omega) (fun j hj => by
      have hj : j < 3 := hj
      have hj : j = 0 ∨ j = 1 ∨ j = 2 := by omega
      rcases hj with rfl | rfl | rfl
      · exact (show 0 * 16 ≤ 140737488355328 by omega)
      · exact (show 1 * 16 ≤ 140737488355328 by omega)
      · exact (show 1 * 16 ≤ 140737488355328 by omega))
  replace KN := Lib.hid KN
  have HB3 := Lib.hid hb3
  clear hq1 hq2 hq1' hb1 hb2 hbx hrow hb3 K1 K2
  go_wp2_with fail
  refine KN.out.mono ?_
  rintro e w4 ⟨v, G, rfl, ho, hon, hsm, hb4, -⟩
  have ho : w4.ownsRow _ 25 5 v 3 (nvs G 3) := ho
  obtain ⟨hmay, hF, hun⟩ := shown_facts (g1 := g1) (g2 := g2) (hsm 0 (show 0 < 3 by omega)) (hsm 1 (show 1 < 3 by omega)) (hsm 2 (show 2 < 3 by omega))
  obtain ⟨g, off, c, rfl, hc1, hc2, hnq, hld⟩ := own_to_nq ho hon (by omega)
  have hk4 : (G 0).k = 4 := (smN_yes.1 (hsm 0 (show 0 < 3 by omega))).1
  have c0 := (hld 0 (by omega)).c0
  rw [hk4, Nat.zero_mul, Nat.add_zero] at c0
  have hbW := HB3.out.trans (hb4.mono HB3.out.size)
  have KM := fun w (hw : Below w4.heap.size w4 w) => TMay_is (some ⟨g, off, none⟩) 3 c G w (hnq.below hw) hc1 hc2 (by omega)
  rw [hmay] at KM
  have KD := fun w (hw : Below w4.heap.size w4 w) => Depth_some (some ⟨g, off, none⟩) 3 c G 3 2 w (hnq.below hw) hc1 hc2 (by omega) hF
  have KU := fun w (hw : Below w4.heap.size w4 w) => Under_is (some ⟨g, off, none⟩) 3 c G 0 w (hnq.below hw) (by omega) (by omega)
  rw [hun] at KU
  replace KM := Lib.hid KM
  replace KD := Lib.hid KD
  replace KU := Lib.hid KU
  have HS := Lib.hid (fun a b c d w h1 h2 => rSameI_is a b c d [1, 2] w h1 h2 (by decide))
  clear KN ho hon hsm hmay hF hun hnq hld hk4 hb4 HB3
  go_wp2_with fail
  refine (KM.out _ (Below.refl _ _)).mono ?_
  rintro e w5 ⟨rfl, hb5⟩
  clear c0 KM
  go_wp2_with fail
  refine (KD.out _ hb5).mono ?_
  rintro e w6 ⟨rfl, hb6⟩
  replace hb5 := hb5.trans (hb6.mono hb5.size)
  clear hb6 KD
  go_wp2_with fail
  refine (KU.out _ hb5).mono ?_
  rintro e w7 ⟨a7, c7, rfl, _, _, hp7, hb7⟩
  replace hb5 := hb5.trans (hb7.mono hb5.size)
  have hb8 := hb5.alloc hb5.size (.cells #[.int .i64 1, .int .i64 2] 3)
  have hbx := box_below w7 (.cells #[.int .i64 1, .int .i64 2] 3)
  have hrow := heap_alloc_new w7 (.cells #[.int .i64 1, .int .i64 2] 3)
  have hp8 : Pl (w7.alloc (.cells #[.int .i64 1, .int .i64 2] 3)) (some ⟨w7.heap.size, 0, none⟩) [1, 2] := fun _ => ⟨_, 0, rfl, fun j x hj => by
    rw [Nat.zero_add, cell_of_row _ _ _ _ _ _ hrow]
    match j, hj with
    | 0, hj => cases hj; rfl
    | 1, hj => cases hj; rfl⟩
  have HSS := Lib.hid (HS.out a7 (some ⟨w7.heap.size, 0, none⟩) c7 2 _ (hp7.below hbx) hp8)
  clear hb7 hbx hrow hp7 hp8 hb5 KU HS
  rw [show ([1, 2] : List Nat).length = 2 from rfl] at *
  go_wp2_with fail
  refine HSS.out.mono ?_
  rintro e w9 ⟨rfl, hb9⟩
  replace hb8 := hb8.trans (hb9.mono hb8.size)
  clear hb9 HSS
  go_wp2_with fail
  go_ret
  exact ⟨rfl, hbW.trans (hb8.mono hbW.size)⟩
end Go.Proofs.Ytiopemimancliaa

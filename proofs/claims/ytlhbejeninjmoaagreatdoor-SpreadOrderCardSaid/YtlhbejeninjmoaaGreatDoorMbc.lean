import Derived.Test.YtlhbejeninjmoaaGreatDoorMbb
import Derived.Deep.RegionHeld3
import Derived.Deep.DeepCutAuto
/-
  val.Vector of texts; the statements' own example of spread.
-/
namespace Go.Proofs.YtlhbejeninjmoaaGreatDoor
set_option linter.unusedVariables false
set_option linter.unusedSimpArgs false
open Go.RowKit

theorem owns_ss {w : World} {base n : Nat} {v : Value} {es : List ByteArray} (h : w.ownsRow base 9 1 v n (valsS es)) : ∃ a c, v = .slice a n c ∧ St w a n es := by
  obtain ⟨a, c, rfl⟩ := own_form h
  exact ⟨a, c, rfl, own_st h⟩
def StsPost (es : List ByteArray) (W : World) (x : Ending) (W' : World) : Prop := ∃ a c, x = .returned (.slice a es.length c) ∧ St W' a es.length es ∧ Below W.heap.size W W'
theorem CloneS_s (a : Option Addr) (n c : Nat) (es : List ByteArray) (W : World) (h : St W a n es) (hn : n ≤ 1000000) : Calls Tryz.prog 44 #[.slice a n c] W (StsPost es W) := by
  have hl := h.1
  subst hl
  rcases a with _ | a
  · have h0 : es.length = 0 := by
      rcases Nat.eq_zero_or_pos es.length with h0 | h0
      · exact h0
      · obtain ⟨b, off, e, _⟩ := h.2 h0; cases e
    obtain rfl := List.length_eq_zero_iff.1 h0
    refine (Tryz.slices_Clone_string_nil 0 c W).mono ?_
    rintro x w ⟨rfl, rfl⟩
    exact ⟨none, 0, rfl, St.nil _ _, Below.refl _ _⟩
  · by_cases h0 : es.length = 0
    · obtain rfl := List.length_eq_zero_iff.1 h0
      refine (Tryz.slices_Clone_string_zero a c W).mono ?_
      rintro x w ⟨v', rfl, hown, _, hb⟩
      obtain ⟨a', c', rfl, hs⟩ := owns_ss (es := []) hown
      exact ⟨a', c', rfl, hs, hb⟩
    · obtain ⟨b, off, e, hc⟩ := h.2 (by omega)
      injection e with e
      subst e
      refine (Tryz.slices_Clone_string b off es.length c es W (Nat.le_refl _) (by omega) (fun j hj => hc j hj)).mono ?_
      rintro x w ⟨v', rfl, hown, _, hb⟩
      rw [List.take_of_length_le (Nat.le_refl _)] at hown
      obtain ⟨a', c', rfl, hs⟩ := owns_ss hown
      exact ⟨a', c', rfl, hs, hb⟩
def VcsEnd (es : List ByteArray) (W : World) (x : Ending) (W' : World) : Prop :=
  ∃ g a c, x = .returned (.agg #[.slice (some ⟨g, 0, none⟩) 1 1, .slice a es.length c]) ∧ Vl W' (some ⟨g, 0, none⟩) 1 a es.length [((es.length : Nat) : Int)] es ∧ Below W.heap.size W W'
set_option maxRecDepth 10000 in
theorem Vector_s (a : Option Addr) (n c : Nat) (es : List ByteArray) (W : World) (h : St W a n es) (hn : n ≤ 1000000) : Calls Tryz.prog 23 #[.slice a n c] W (VcsEnd es W) := by
  have K := fun w (hb : Below W.heap.size W w) => CloneS_s a n c es w (h.below hb) hn
  have hl := h.1
  replace K := Lib.hid K
  clear h
  obtain ⟨k, hN⟩ : ∃ k, k = es.length := ⟨_, rfl⟩
  have hnk : n = k := by omega
  subst hnk
  have HN := Lib.hid hN
  unfold StsPost at K
  rw [← hN] at K
  clear hN hl
  have hA := Bx.new W none 0 0 none 0 0
  have hb0 : Below W.heap.size W (W.alloc (.cells #[.slice none 0 0, .slice none 0 0] 25)) := (Below.refl _ _).alloc (Nat.le_refl _) _
  go_enter Tryz.func23, Tryz.ntmps23
  go_wp2_with fail
  have hb1 := hb0.alloc hb0.size (.cells #[.int .i64 n] 3)
  refine (K.out _ hb1).mono ?_
  rintro x w1 ⟨a', c', rfl, hs, hb⟩
  have hA2 := (hA.alloc (.cells #[.int .i64 n] 3)).below hb (by simp; omega)
  have hS : Sl ((W.alloc (.cells #[.slice none 0 0, .slice none 0 0] 25)).alloc (.cells #[.int .i64 n] 3)) (some ⟨W.heap.size + 1, 0, none⟩) 1 [(n : Int)] := by
    have := Sl.row (l := [(n : Int)]) (heap_alloc_new (W.alloc (.cells #[.slice none 0 0, .slice none 0 0] 25)) (.cells #[.int .i64 n] 3))
    rw [World.size_alloc] at this
    exact this
  have hS2 := hS.below hb
  have hb2 := hb1.trans (hb.mono hb1.size)
  have y0 := hA2.c0
  have y1 := hA2.c1
  have f0 := hA2.f 0
  have f1 := hA2.f 1
  have HS := Lib.hid (And.intro hS2 hs)
  clear hS hS2 hs hA hb0 hb1 hb
  go_wp2_with fail
  have hA3 := hA2.set (some ⟨W.heap.size + 1, 0, none⟩) 1 1 a' n c'
  have r0 := hA3.c0
  have r1 := hA3.c1
  have HN := HN.out
  subst HN
  exact bodyPost_ret (v := .agg #[.slice (some ⟨W.heap.size + 1, 0, none⟩) 1 1, .slice a' es.length c']) (by simp [results, Tryz.results23, go_sem, r0, r1]) rfl ⟨_, _, _, rfl, ⟨hA2.sl HS.out.1 _ _, hA2.st HS.out.2 _ _, by omega⟩, below_made hb2 (Nat.le_refl _) _ _⟩
theorem S_10 : S 10 = ⟨#[49, 48]⟩ := S_lit (l := [49, 48]) (n := 10) rfl (by unfold AllDig; decide) ⟨_, _, rfl, by decide⟩
theorem S_11 : S 11 = ⟨#[49, 49]⟩ := S_lit (l := [49, 49]) (n := 11) rfl (by unfold AllDig; decide) ⟨_, _, rfl, by decide⟩
theorem S_12 : S 12 = ⟨#[49, 50]⟩ := S_lit (l := [49, 50]) (n := 12) rfl (by unfold AllDig; decide) ⟨_, _, rfl, by decide⟩
theorem S_13 : S 13 = ⟨#[49, 51]⟩ := S_lit (l := [49, 51]) (n := 13) rfl (by unfold AllDig; decide) ⟨_, _, rfl, by decide⟩
theorem S_3b : S 3 = ⟨#[51]⟩ := S_3
theorem small_lim {x : Int} (h : x.natAbs < 1000) : x.natAbs < lim := Nat.lt_of_lt_of_le h (Nat.le_trans (by decide) lim_big)
theorem tl_small {x : Int} (h : x.natAbs < 1000) : tlI x = (some x, 0) := if_pos (small_lim h)
theorem sh_sum : dyA 0 (some ([3], [1, 2, 3])) (some ([], [10])) = (some ([3], [11, 12, 13]), 0) := by
  rw [dyA_two (by decide) (by decide)]
  have e : spL 0 (prs (nx [3]) (nx []) [1, 2, 3] [10] (prD (meV [3] [])).toNat) = (some [11, 12, 13], 0) := by
    rw [show prs (nx [3]) (nx []) [1, 2, 3] [10] (prD (meV [3] [])).toNat = [(1, 10), (2, 10), (3, 10)] by decide]
    simp only [spL, dyI]
    rw [tl_small (by decide), tl_small (by decide), tl_small (by decide)]
    rfl
  rw [e]
  rfl
theorem sh_one : AIs [3] [⟨#[49]⟩, ⟨#[50]⟩, ⟨#[51]⟩] (some ([3], [1, 2, 3])) := by
  have h := ais_of (l := [3]) (xs := [1, 2, 3]) (by decide) (by decide) (by intro x hx; apply small_lim; simp at hx; omega)
  simp only [List.map, S_1, S_2, S_3] at h
  exact h
theorem sh_two : AIs [] [⟨#[49, 48]⟩] (some ([], [10])) := by
  have h := ais_of (l := []) (xs := [10]) (by decide) (by decide) (by intro x hx; apply small_lim; simp at hx; omega)
  simp only [List.map, S_10] at h
  exact h
theorem ais_sz {l : List Int} {es : List ByteArray} {q : Ar} (h : AIs l es (some q)) {m : Nat} (hm : m = es.length) : ∀ j, j < m → (es.getD j ByteArray.empty).size ≤ maxLen := by
  intro j hj
  obtain ⟨_, h2, _, h4⟩ := h
  have hl : j < q.2.length := by rw [hm, h2, List.length_map] at hj; exact hj
  rw [h2, getD_S hl]
  exact (show Is (S (q.2.getD j 0)) (some (q.2.getD j 0)) from ⟨rfl, getD_bd h4 j⟩).size
/-- What is told is an array whose elements aren't too long. -/
theorem ts_sz {o : Option Ar} (h : AIs (TS o).1 (TS o).2 o) {m : Nat} (hm : m = (TS o).2.length) : ∀ j, j < m → ((TS o).2.getD j ByteArray.empty).size ≤ maxLen := by
  cases o with
  | none =>
    intro j hj
    rw [hm] at hj
    exact absurd hj (by simp [TS])
  | some q => exact ais_sz h hm
set_option maxRecDepth 100000 in
set_option maxHeartbeats 6400000 in
theorem sshown_is (W : World) (hW : SC W) : Calls Tryz.prog 9 #[] W (TrueEnd W) := by
  have KV := Lib.hid (fun w (hb : Below W.heap.size W w) g (h : w.heap[g]? = some (.cells #[.string ⟨#[49]⟩, .string ⟨#[50]⟩, .string ⟨#[51]⟩] 9)) => Vector_s (some ⟨g, 0, none⟩) 3 3 [⟨#[49]⟩, ⟨#[50]⟩, ⟨#[51]⟩] w (St.row (l := [⟨#[49]⟩, ⟨#[50]⟩, ⟨#[51]⟩]) h) (by omega))
  have HW := Lib.hid hW
  have hb0 : Below W.heap.size W (W.alloc (.cells #[.string ⟨#[49]⟩, .string ⟨#[50]⟩, .string ⟨#[51]⟩] 9)) := (Below.refl _ _).alloc (Nat.le_refl _) _
  have K1 := Lib.hid (KV.out _ hb0 _ (heap_alloc_new W _))
  clear hW
  go_enter Tryz.func9, Tryz.ntmps9
  go_wp2_with fail
  refine K1.out.mono ?_
  rintro e w1 ⟨g1, a1, c1, rfl, hV1, hq⟩
  have hb1 := hb0.trans (hq.mono hb0.size)
  clear hb0 hq K1
  go_wp2_with fail
  refine (Scalar_is ⟨#[49, 48]⟩ w1).mono ?_
  rintro e w2 ⟨g2, rfl, hc2, hq⟩
  have hV2 := hV1.below hq
  have hb2 := hb1.trans (hq.mono hb1.size)
  have hU2 := Vl.one hc2
  clear hV1 hb1 hq hc2
  go_wp2_with fail
  have hV2 : Vl w2 (some ⟨g1, 0, none⟩) 1 a1 3 [3] [⟨#[49]⟩, ⟨#[50]⟩, ⟨#[51]⟩] := hV2
  have KD := SDyad_is (op := ⟨#[43]⟩) (c1 := 1) (d1 := c1) (c2 := 0) (d2 := 1) w2 (HW.out.below hb2) (by unfold maxLen; decide) hV2 hU2 (ais_sz sh_one rfl) (ais_sz sh_two rfl) sh_one sh_two
  rw [show kdL (⟨#[43]⟩ : ByteArray).data.toList = 0 by decide, sh_sum] at KD
  simp only [TS, List.map, S_11, S_12, S_13] at KD
  replace KD := Lib.hid KD
  refine KD.out.mono ?_
  rintro e w3 ⟨a3, n3, c3, b3, m3, d3, rfl, hV3, hc3, hq⟩
  have hb3 := hb2.trans (hq.mono hb2.size)
  clear hV2 hU2 hb2 hq KD
  go_upto_region 2 with fail
  have hO := Bx.new w3 a3 n3 c3 b3 m3 d3
  have hbl := (Below.refl w3.heap.size w3).alloc (Nat.le_refl _) (.cells #[.slice a3 n3 c3, .slice b3 m3 d3] 25)
  have hV4 := hV3.below hbl
  have hb4 := hb3.trans (hbl.mono hb3.size)
  clear hV3 hb3 hbl
  have hn3 : n3 ≤ 1000000 := by have := hV4.s.1; simp at this; omega
  generalize hw4 : w3.alloc (.cells #[.slice a3 n3 c3, .slice b3 m3 d3] 25) = w4 at *
  have lO : w3.heap.size < w4.heap.size := hO.lt
  have x0 := hO.c0
  have x1 := hO.c1
  have Q1 : Hid (∀ z g, Below w4.heap.size w4 z → z.heap[g]? = some (.cells #[.string ⟨#[49, 49]⟩, .string ⟨#[49, 50]⟩, .string ⟨#[49, 51]⟩] 9) → Calls Tryz.prog 23 #[.slice (some ⟨g, 0, none⟩) 3 3] z fun e w' => ∃ g' a' c', e = .returned (.agg #[.slice (some ⟨g', 0, none⟩) 1 1, .slice a' 3 c']) ∧ Vl w' (some ⟨g', 0, none⟩) 1 a' 3 [3] [⟨#[49, 49]⟩, ⟨#[49, 50]⟩, ⟨#[49, 51]⟩] ∧ Below w4.heap.size w4 w') :=
    Lib.hid fun z g hz hg => (Vector_s (some ⟨g, 0, none⟩) 3 3 [⟨#[49, 49]⟩, ⟨#[49, 50]⟩, ⟨#[49, 51]⟩] z (St.row (l := [⟨#[49, 49]⟩, ⟨#[49, 50]⟩, ⟨#[49, 51]⟩]) hg) (by omega)).mono fun e w' h => by
      obtain ⟨g', a', c', h1, h2, h3⟩ := h
      exact ⟨g', a', c', h1, h2, hz.trans (h3.mono hz.size)⟩
  have Q2 : Hid (∀ z g' a' c', Below w4.heap.size w4 z → Vl z (some ⟨g', 0, none⟩) 1 a' 3 [3] [⟨#[49, 49]⟩, ⟨#[49, 50]⟩, ⟨#[49, 51]⟩] → Calls Tryz.prog 19 #[.agg #[.slice a3 n3 c3, .slice b3 m3 d3], .agg #[.slice (some ⟨g', 0, none⟩) 1 1, .slice a' 3 c']] z fun e w' => e = .returned (.bool true) ∧ Below w4.heap.size w4 w') :=
    Lib.hid fun z g' a' c' hz hv => (VSame_is (c1 := c3) (d1 := d3) (c2 := 1) (d2 := c') z (hV4.below hz) hv hn3 (by omega)).mono fun e w' h => ⟨by rw [h.1]; simp, hz.trans (h.2.mono hz.size)⟩
  have Q3 : Hid (∀ z, Below w4.heap.size w4 z → Calls Tryz.prog 16 #[.string ⟨#[43]⟩] z fun e w' => e = .returned (.bool true) ∧ Below w4.heap.size w4 w') :=
    Lib.hid fun z hz => (Ops_is ⟨#[43]⟩ (by unfold maxLen; decide) z (HW.out.below (hb4.trans (hz.mono hb4.size)))).mono fun e w' h => ⟨h.1, hz.trans (h.2.mono hz.size)⟩
  have Q4 : Hid (∀ z, Below w4.heap.size w4 z → Calls Tryz.prog 16 #[.string ⟨#[35]⟩] z fun e w' => e = .returned (.bool false) ∧ Below w4.heap.size w4 w') :=
    Lib.hid fun z hz => (Ops_is ⟨#[35]⟩ (by unfold maxLen; decide) z (HW.out.below (hb4.trans (hz.mono hb4.size)))).mono fun e w' h => ⟨h.1, hz.trans (h.2.mono hz.size)⟩
  have hA : (w4.alloc (.cells #[.string ⟨#[49, 49]⟩, .string ⟨#[49, 50]⟩, .string ⟨#[49, 51]⟩] 9)).drew.heap[w4.heap.size]? = some (.cells #[.string ⟨#[49, 49]⟩, .string ⟨#[49, 50]⟩, .string ⟨#[49, 51]⟩] 9) := heap_alloc_new w4 _
  have hbA : Below w4.heap.size w4 (w4.alloc (.cells #[.string ⟨#[49, 49]⟩, .string ⟨#[49, 50]⟩, .string ⟨#[49, 51]⟩] 9)).drew := Below.drew ((Below.refl _ _).alloc (Nat.le_refl _) _)
  have hq : Below w4.heap.size w4 w4 := Below.refl _ _
  clear hw4 hV4 hO HW KV
  go_region_held3 (fun w' => w'.cell? ⟨w3.heap.size, 0, none⟩ = some (.slice a3 n3 c3) ∧ w'.cell? ⟨w3.heap.size, 1, none⟩ = some (.slice b3 m3 d3))
    (first | exact ⟨(Below.cell (p := ⟨w3.heap.size, 0, none⟩) (by repeat' (first | exact hq | refine Below.drew ?_ | refine below_drewN ?_ _ | refine Below.alloc ?_ (Below.size (by repeat' (first | exact hq | refine Below.drew ?_ | refine below_drewN ?_ _))) _)) lO).trans x0, (Below.cell (p := ⟨w3.heap.size, 1, none⟩) (by repeat' (first | exact hq | refine Below.drew ?_ | refine below_drewN ?_ _ | refine Below.alloc ?_ (Below.size (by repeat' (first | exact hq | refine Below.drew ?_ | refine below_drewN ?_ _))) _)) lO).trans x1⟩ | fail)
    (first
      | (go_at_call 23; (with_reducible refine (Q1.out _ _ hbA hA).mono ?_); rintro e wq ⟨g', a', c', rfl, hvq, hq⟩)
      | (go_at_call 19; (with_reducible refine (Q2.out _ _ _ _ (by repeat' (first | exact hq | refine Below.drew ?_ | refine below_drewN ?_ _)) hvq).mono ?_); rintro e wq ⟨rfl, hq⟩)
      | (go_at_call 16; (with_reducible refine (Q3.out _ (by repeat' (first | exact hq | refine Below.drew ?_ | refine below_drewN ?_ _))).mono ?_); rintro e wq ⟨rfl, hq⟩)
      | (go_at_call 16; (with_reducible refine (Q4.out _ (by repeat' (first | exact hq | refine Below.drew ?_ | refine below_drewN ?_ _))).mono ?_); rintro e wq ⟨rfl, hq⟩))
  go_wp2_with fail
  go_ret
  exact ⟨rfl, hb4.trans (hq.mono hb4.size)⟩
end Go.Proofs.YtlhbejeninjmoaaGreatDoor
/-
  What the laws of spread share.
-/
namespace Go.Proofs.YtlhbejeninjmoaaGreatDoor
set_option linter.unusedVariables false
set_option linter.unusedSimpArgs false
open Go.RowKit

theorem ts_len {o : Option Ar} (h : AIs (TS o).1 (TS o).2 o) : (TS o).1.length ≤ 3 := by
  cases o with
  | none => simp [TS]
  | some q => exact (szE_may.1 h.len.2.2.1).len
theorem rVSame_b {a1 b1 a2 b2 : Option Addr} {n1 n2 c1 m1 m2 d1 c2 d2 : Nat} {l : List Int} {es : List ByteArray} (W : World) (h1 : Vl W a1 n1 b1 m1 l es) (h2 : Vl W a2 n2 b2 m2 l es) (q1 : l.length ≤ 3) :
    Calls Tryz.prog 15 #[.agg #[.slice a1 n1 c1, .slice b1 m1 d1], .agg #[.slice a2 n2 c2, .slice b2 m2 d2]] W (BoolEnd true W) := by
  have e1 : n1 = n2 := h1.s.1.symm.trans h2.s.1
  have e2 : m1 = m2 := h1.t.1.symm.trans h2.t.1
  have e3 := h1.s.1
  subst e1 e2
  exact rVSame_yes W h1 h2 (by omega)
theorem VSame_y {a1 b1 a2 b2 : Option Addr} {n1 n2 c1 m1 m2 d1 c2 d2 : Nat} {l : List Int} {es : List ByteArray} (W : World) (h1 : Vl W a1 n1 b1 m1 l es) (h2 : Vl W a2 n2 b2 m2 l es) (q1 : l.length ≤ 20) :
    Calls Tryz.prog 19 #[.agg #[.slice a1 n1 c1, .slice b1 m1 d1], .agg #[.slice a2 n2 c2, .slice b2 m2 d2]] W (BoolEnd true W) := by
  have e1 := h1.s.1
  have e2 := h2.s.1
  have h := VSame_is (c1 := c1) (d1 := d1) (c2 := c2) (d2 := d2) W h1 h2 (by omega) (by omega)
  rwa [beq_self_eq_true, decide_eq_true rfl, Bool.and_self] at h
end Go.Proofs.YtlhbejeninjmoaaGreatDoor

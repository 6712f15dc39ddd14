/-
  How deep a tree is: of the reference.
-/
import Derived.Test.YtiopemimancliaaYf
namespace Go.Proofs.Ytiopemimancliaa
open Go.RowKit

theorem drop_one {α : Type} {l r : List α} {k : Nat} {x : α} (h : x :: r = l.drop k) : l[k]? = some x ∧ r = l.drop (k + 1) := by
  have h1 : (l.drop k)[0]? = some x := by rw [← h]; rfl
  rw [List.getElem?_drop, Nat.add_zero] at h1
  refine ⟨h1, ?_⟩
  rw [← List.drop_drop, ← h]; rfl
set_option maxHeartbeats 3200000 in
theorem rdeep_all (a : Option Addr) (n c : Nat) (f : Nat → Nd) (hn : n ≤ 1000000) : ∀ N p, n - p ≤ N → ∀ (e D : Nat) (W : World), Nq W a n f → Fd (ksF f n) p 1 e D →
    Calls Try.prog 24 #[.slice a n c, .int .i64 (p : Int)] W (ValEnd (.int .i64 (D : Int)) W) := by
  intro N
  induction N with
  | zero =>
    intro p hp e D W h hF
    have := hF.lt (by omega)
    rw [ks_len] at this
    omega
  | succ N ih =>
    intro p hp e D W h hF
    have hlt := hF.lt (by omega)
    rw [ks_len] at hlt
    obtain ⟨y, hk, he2, hpe, hen, hu⟩ := tree_at hF.ends
    rw [ks_len] at hen
    obtain ⟨k, q, d1, d2, hk2, h0, g1, _, g2, hD⟩ := hF.inv
    obtain ⟨rfl, rfl⟩ := g2.inv0
    rw [hk] at hk2
    injection hk2 with hk2
    subst hk2
    rw [Int.toNat_natCast] at g1
    have hul := g1.un_len
    have hd1 := g1.deep
    have hD2 : D = 1 + d1 := by omega
    have hy : y ≤ 1000000 := by have := g1.le.1; omega
    have hd1' : d1 ≤ 1000000 := by omega
    have KU := rUnder_is a n c f p W h hn
    rw [hu] at KU
    have HG := Lib.hid g1
    obtain ⟨u, hu2⟩ : ∃ u, u = un (ksF f n) y (p + 1) := ⟨_, rfl⟩
    rw [← hu2] at KU hul
    have HU := Lib.hid hu2
    have IH := Lib.hid ih
    have H := Lib.hid h
    replace KU := Lib.hid KU
    clear hpe hen h0 hd1 hF hk he2 hu g1 g2 h ih hu2 hD
    go_enter Try.func24, Try.ntmps24
    go_wp2_with fail
    refine KU.out.mono ?_
    rintro e' w1 ⟨a2, c2, rfl, _, _, hpl, hb⟩
    rw [hul]
    have HP := Lib.hid hpl
    clear hpl KU
    go_wp2_with fail
    go_loopw [5, 7] (fun mv jv wr => ∃ (j q x dl : Nat), mv = .int .i64 x ∧ jv = .int .i64 j ∧ j ≤ y ∧ p < q ∧ x ≤ 1000000 ∧ Fd (ksF f n) q (y - j) e dl ∧ d1 = max x dl ∧ un (ksF f n) (y - j) q = u.drop j ∧ Below W.heap.size W wr ∧ Below w1.heap.size w1 wr) (fun _ jv _ => y - (intOf jv).toNat)
    case atStart => exact ⟨0, p + 1, 0, d1, rfl, rfl, by omega, by omega, by omega, HG.out, by omega, by rw [HU.out]; rfl, hb, Below.refl _ _⟩
    case round =>
      clear hb
      obtain ⟨j, q, x, dl, rfl, rfl, hj, hq, hx, hF, hdl, hun, hb, hbb⟩ := hrel
      by_cases hjy : j < y
      · have e3 : (j : Int) < (y : Int) := by omega
        rw [show y - j = (y - (j + 1)) + 1 by omega] at hF hun
        obtain ⟨k, q2, d3, d4, _, _, g1, g2, g3, hd⟩ := hF.inv
        rw [un_cons g2.ends] at hun
        obtain ⟨hun1, hun2⟩ := drop_one hun
        obtain ⟨b, off, rfl, hc⟩ := HP.out (by rw [hul]; omega)
        have cj := hc j q hun1
        have cell := (hbb.cell (World.block_lt_of_cell? w1 _ cj)).trans cj
        have KD := Lib.hid (fun w hw => IH.out q (by omega) q2 (1 + d3) w hw g2)
        have hl2 := g2.le
        have hl2' := hl2.2 (by have := g2.lt (by omega); omega)
        rw [ks_len] at hl2'
        have hdp := g2.deep
        obtain ⟨z, hz⟩ : ∃ z, z = max x (1 + d3) := ⟨_, rfl⟩
        have hz1 : z ≤ 1000000 := by omega
        have hz2 : d1 = max z d4 := by omega
        have hz3 : (x : Int) < 1 + (d3 : Int) → z = 1 + d3 := by omega
        have hz4 : 1 + (d3 : Int) ≤ (x : Int) → z = x := by omega
        have hpq : p < q2 := by omega
        have wj : IntKind.i64.wrap ((j : Int) + 1) = (j : Int) + 1 := wrn (by omega) (by omega)
        have HZ2 := Lib.hid hz2
        have HG3 := Lib.hid g3
        have HUN := Lib.hid hun2
        clear hc cj hF hun hun1 hun2 g1 g2 g3 HG HU hl2 hl2' hdp hz hz2 hdl hd
        go_wp2_with fail
        refine (KD.out _ (H.out.below hb)).mono ?_
        rintro e' w2 ⟨rfl, hb1⟩
        have hb2 := hb.trans (hb1.mono hb.size)
        have hbb2 := hbb.trans (hb1.mono hbb.size)
        clear KD hb1 cell hb hbb
        go_wp2_with fail
        all_goals
          refine ⟨⟨j + 1, q2, z, d4, by congr 1; omega, by go_num, hjy, hpq, hz1, HG3.out, HZ2.out, HUN.out, hb2, hbb2⟩, by simp [intOf]; omega⟩
      · have e3 : ¬ (j : Int) < (y : Int) := by omega
        obtain rfl : j = y := by omega
        rw [Nat.sub_self] at hF
        obtain ⟨_, rfl⟩ := hF.inv0
        obtain rfl : d1 = x := by omega
        have w1 : IntKind.i64.wrap (1 + (d1 : Int)) = 1 + (d1 : Int) := wrn (by omega) (by omega)
        subst hD2
        clear hF hdl hun HG
        go_wp2_with fail
        go_ret
        exact ⟨by congr 1, hb⟩
theorem rDepth_none (a : Option Addr) (n c : Nat) (f : Nat → Nd) (W : World) (h : Nq W a n f) (hn : n ≤ 1000000) (he : eN (ksF f n) 1 0 = none) :
    Calls Try.prog 17 #[.slice a n c] W (ValEnd (.int .i64 0) W) := by
  have KE := rEnd_all a n c f hn _ 0 (Nat.le_refl _) W h
  rw [he] at KE
  replace KE := Lib.hid KE
  clear he
  go_enter Try.func17, Try.ntmps17
  go_wp2_with fail
  refine KE.out.mono ?_
  rintro e w1 ⟨rfl, hb⟩
  unfold endV
  go_wp2_with fail
  go_ret
  exact ⟨rfl, hb⟩
theorem rDepth_some (a : Option Addr) (n c : Nat) (f : Nat → Nd) (e D : Nat) (W : World) (h : Nq W a n f) (hn : n ≤ 1000000) (he : Fd (ksF f n) 0 1 e D) :
    Calls Try.prog 17 #[.slice a n c] W (ValEnd (.int .i64 (D : Int)) W) := by
  have KE := rEnd_all a n c f hn _ 0 (Nat.le_refl _) W h
  rw [he.ends] at KE
  replace KE := Lib.hid KE
  have KD := Lib.hid (fun w hw => rdeep_all a n c f hn _ 0 (Nat.le_refl _) e D w hw he)
  have H := Lib.hid h
  clear he h
  go_enter Try.func17, Try.ntmps17
  go_wp2_with fail
  refine KE.out.mono ?_
  rintro e w1 ⟨rfl, hb⟩
  unfold endV
  go_wp2_with fail
  refine (KD.out _ (H.out.below hb)).mono ?_
  rintro e w2 ⟨rfl, hb1⟩
  replace hb := hb.trans (hb1.mono hb.size)
  go_wp2_with fail
  go_ret
  exact ⟨rfl, hb⟩
end Go.Proofs.Ytiopemimancliaa

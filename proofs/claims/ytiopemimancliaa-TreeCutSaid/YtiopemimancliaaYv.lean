/-
  TreeCut at every list and node.
-/
import Derived.Test.YtiopemimancliaaYs
namespace Go.Proofs.Ytiopemimancliaa
open Go.RowKit

/-- Of some nodes behind a tree the tree is as it was. -/
theorem ks_part {f g : Nat → Nd} {n m e d : Nat} (h : Fd (ksF f n) 0 1 e d) (hf : ∀ j, j < e → g j = f j) (hm : e ≤ m) (hn : e ≤ n) : Fd (ksF g m) 0 1 e d := by
  have := h.move (K' := ksF g m) (s := 0) (Nat.le_refl _) (fun i _ hi => by
    rw [Nat.sub_zero, ks_at (by omega), ks_at (by omega), hf i hi])
  simpa using this
/-- A tree without its end is none. -/
theorem ks_cut {f : Nat → Nd} {n m e d : Nat} (h : Fd (ksF f n) 0 1 e d) (hn : e ≤ n) (hm : m < e) : eN (ksF f m) 1 0 = none := by
  cases he : eN (ksF f m) 1 0 with
  | none => rfl
  | some q =>
    exfalso
    obtain ⟨d2, h2⟩ := Fd.ex he
    have hq := h2.le.2 (by omega)
    rw [ks_len] at hq
    have h3 := ks_part (g := f) (m := n) h2 (fun _ _ => rfl) (by omega) hq
    have := (h.det h3).1
    omega
set_option maxHeartbeats 6400000 in
theorem cut_is (a : Option Addr) (n c : Nat) (f : Nat → Nd) (d : Nd) (W : World) (h : Nq W a n f) (hnc : n ≤ c) (hc : c ≤ maxLen) (hd : d.on W) :
    Calls Try.prog 6 #[.slice a n c, d.val] W (ValEnd (.bool true) W) := by
  have hn63 : n ≤ 9223372036854775807 := maxLen_le (Nat.le_trans hnc hc)
  have HDV := Lib.hid hd
  have hdv : d.val = .agg #[.int .i64 d.k, .string d.v, .string d.a, .string d.x, .slice d.g d.m d.c] := rfl
  rw [hdv]
  have hb0 := box_below W (.cells #[.int .i64 d.k, .string d.v, .string d.a, .string d.x, .slice d.g d.m d.c] 25)
  have hA := Bd.new W d.k d.v d.a d.x d.g d.m d.c
  have KF := Lib.hid (fun w (hw : Below W.heap.size W w) => Few_is a n c f w (h.below hw) hn63)
  have KS := Lib.hid (fun w => shown_is w)
  have H := Lib.hid h
  clear h hd hdv
  go_enter Try.func6, Try.ntmps6
  go_wp2_with fail
  refine (KS.out _).mono ?_
  rintro e w1 ⟨rfl, hb⟩
  have hA1 := hA.on hb
  have hb1 := hb0.trans (hb.mono hb0.size)
  clear hA hb0 hb KS
  go_wp2_with fail
  refine (KF.out _ hb1).mono ?_
  rintro e w2 ⟨r, rfl, hr, hb⟩
  have hA2 := hA1.on hb
  have hb2 := hb1.trans (hb.mono hb1.size)
  clear hA1 hb1 hb KF
  cases r with
  | false =>
    clear hr hA2
    go_wp2_with fail
    go_ret
    exact ⟨rfl, hb2⟩
  | true =>
    obtain ⟨hn80, hm120⟩ := hr rfl
    have hn : n ≤ 1000000 := by omega
    clear hr
    have KM := fun w (hw : Below W.heap.size W w) => TMay_is a n c f w (H.out.below hw) hnc hc hn
    cases hmay : mayB f n with
    | false =>
      rw [hmay] at KM
      replace KM := Lib.hid KM
      clear hmay hA2
      go_wp2_with fail
      refine (KM.out _ hb2).mono ?_
      rintro e w3 ⟨rfl, hb⟩
      replace hb2 := hb2.trans (hb.mono hb2.size)
      go_wp2_with fail
      go_ret
      exact ⟨rfl, hb2⟩
    | true =>
      rw [hmay] at KM
      replace KM := Lib.hid KM
      obtain ⟨D, hF, hD40, hall⟩ := mayB_yes.1 hmay
      obtain ⟨n1, rfl⟩ : ∃ n1 : Nat, n = n1 + 1 := ⟨n - 1, by have := hF.le.1; omega⟩
      obtain ⟨gb, off, rfl, hld⟩ := H.out.ld (by omega)
      have hcut := ks_cut (m := n1) hF (Nat.le_refl _) (by omega)
      have KE1 := fun w (hw : Below W.heap.size W w) => End_in (some ⟨gb, off, none⟩) n1 c f 0 w ((H.out.below hw).less (by omega)) (by omega) (by omega)
      rw [hcut] at KE1
      have KM1 := fun w (hw : Below W.heap.size W w) => TMay_is (some ⟨gb, off, none⟩) n1 c f w ((H.out.below hw).less (by omega)) (by omega) hc (by omega)
      rw [may_none hcut] at KM1
      have hFm : Fd (ksF (ap f (n1 + 1) (fun _ => d)) (n1 + 1 + 1)) 0 1 (n1 + 1) D := ks_part hF (fun j hj => by unfold ap; rw [if_pos hj]) (by omega) (Nat.le_refl _)
      have KD := fun w (hw : Below W.heap.size W w) => Depth_some (some ⟨gb, off, none⟩) (n1 + 1) c f (n1 + 1) D w (H.out.below hw) hnc hc hn hF
      have HFM := Lib.hid hFm
      have HNV := Lib.hid (nvs_ap f (n1 + 1) (fun _ => d) 1)
      have w6 : IntKind.i64.wrap ((n1 : Int) + 1 - 1) = (n1 : Int) := by rw [Int.add_sub_cancel]; exact wrn (by omega) (by omega)
      have w7 : IntKind.i64.wrap (n1 : Int) = (n1 : Int) := wrn (by omega) (by omega)
      replace KE1 := Lib.hid KE1
      replace KM1 := Lib.hid KM1
      replace KD := Lib.hid KD
      clear hmay hF hall hcut hFm hld hm120
      go_wp2_with fail
      refine (KM.out _ hb2).mono ?_
      rintro e w3 ⟨rfl, hb⟩
      have hA3 := hA2.on hb
      have hb3 := hb2.trans (hb.mono hb2.size)
      clear hA2 hb2 hb KM
      go_wp2_with fail
      refine (KE1.out _ hb3).mono ?_
      rintro e w4 ⟨rfl, hb⟩
      have hA4 := hA3.on hb
      have hb4 := hb3.trans (hb.mono hb3.size)
      clear hA3 hb3 hb KE1
      unfold endV
      -- the copy of the list
      have hq4 := (H.out.below hb4).below (box_below w4 (.cells #[] 25))
      have hr0 := World.ownsRow_lit (base := W.heap.size) (e := 25) (size := 5) w4 #[] 0 hb4.size (by unfold maxLen; omega) rfl
      have hA5 := hA4.alloc (.cells #[] 25)
      have hb5 := hb4.alloc hb4.size (.cells #[] 25)
      have hsz5 := hb5.size
      obtain ⟨w5, hw5⟩ : ∃ w5, w5 = w4.alloc (.cells #[] 25) := ⟨_, rfl⟩
      rw [← hw5] at hq4 hr0 hA5 hb5 hsz5
      have HW5 := Lib.hid hw5
      have l4 : W.heap.size < w4.heap.size := hA4.lt
      have s45 : w5.heap.size = w4.heap.size + 1 := by rw [hw5]; simp
      clear hA4 hw5 hb4
      obtain ⟨i0, hi0, hz0, hz1, hz2⟩ := info_parts infoN
      go_wp2_with (at_builtin; rw [← HW5.out]; refine wpList_append_all rfl (.tmp 35) (.tmp 36) 22 rfl W.heap.size 25 i0 (.agg #[.int .i64 0, .string ⟨#[]⟩, .string ⟨#[]⟩, .string ⟨#[]⟩, .slice none 0 0]) 5 80 Try.underlying22 hi0 hz0 hz1 hz2 rfl (by decide) _ 0 _ rfl hr0 (some ⟨gb, off, none⟩) (n1 + 1) c (nvs f (n1 + 1)) rfl (nvs_len _ _) (fun h => by cases h) hq4.cells (nvs_one _ _) ?c1 ?c2 hsz5 ?_)
      case c1 => unfold maxLen; omega
      case c2 => omega
      intro v6 w6' hown6 hgrow6
      have hb6 : Below W.heap.size W w6' := hb5.grown hgrow6 hsz5 (fun k hk => by cases hk; exact Nat.le_of_lt l4)
      have hA6 := hA5.below ((Below.refl w4.heap.size w5).grown hgrow6 (by omega) (fun k hk => by cases hk; exact Nat.le_refl _)) l4
      have hsz6 := hb6.size
      have x0 := hA6.c0
      have x1 := hA6.c1
      have x2 := hA6.c2
      have x3 := hA6.c3
      have x4 := hA6.c4
      clear hgrow6 hr0 hA5 hb5 hsz5 hq4 HW5 s45 l4
      go_wp2_with (at_builtin; refine wpList_append_all rfl (.tmp 38) (.tmp 40) 22 rfl W.heap.size 25 i0 (.agg #[.int .i64 0, .string ⟨#[]⟩, .string ⟨#[]⟩, .string ⟨#[]⟩, .slice none 0 0]) 5 80 Try.underlying22 hi0 hz0 hz1 hz2 rfl (by decide) _ (n1 + 1) _ rfl (hown6.alloc _) (some ⟨w6'.heap.size, 0, none⟩) 1 1 (nvs (fun _ => d) 1) rfl (nvs_len _ _) (fun h => by cases h) ?c0 (nvs_one _ _) ?c1 ?c2 ?c3 ?_)
      case c0 =>
        intro ad had j u hj
        cases had
        rw [Go.WideShapes.add_plain, Nat.zero_add, cell_of_row _ _ _ _ _ _ (heap_alloc_new w6' _), ← hj, ← Array.getElem?_toList]
        rfl
      case c1 => unfold maxLen; omega
      case c2 => omega
      case c3 => simp; omega
      intro v8 w8 hown8 hgrow8
      have hb8 : Below W.heap.size W w8 := (hb6.alloc hsz6 _).grown hgrow8 (by simp; omega) (fun k hk => (hown6.lt k hk).1)
      rw [← HNV.out] at hown8
      have hon8 : ∀ j, j < n1 + 1 + 1 → (ap f (n1 + 1) (fun _ => d) j).on w8 := by
        intro j hj
        unfold ap
        by_cases hjn : j < n1 + 1
        · rw [if_pos hjn]; exact (H.out.below hb8).on j hjn
        · rw [if_neg hjn]; exact HDV.out.below hb8
      obtain ⟨g8, o8, c8, rfl, hc8, hm8, hq8, _⟩ := own_to_nq hown8 hon8 (by omega)
      obtain ⟨G, hG⟩ : ∃ G, G = ap f (n1 + 1) (fun _ => d) := ⟨_, rfl⟩
      rw [← hG] at hq8 HFM
      have KE2 := fun w (hw : Below w8.heap.size w8 w) => End_in (some ⟨g8, o8, none⟩) (n1 + 1 + 1) c8 G 0 w (hq8.below hw) (by omega) (by omega)
      rw [HFM.out.ends] at KE2
      have KM2 := fun w (hw : Below w8.heap.size w8 w) => TMay_is (some ⟨g8, o8, none⟩) (n1 + 1 + 1) c8 G w (hq8.below hw) hc8 hm8 (by omega)
      rw [may_short HFM.out.ends (by omega)] at KM2
      have KD2 := fun w (hw : Below w8.heap.size w8 w) => Depth_some (some ⟨g8, o8, none⟩) (n1 + 1 + 1) c8 G (n1 + 1) D w (hq8.below hw) hc8 hm8 (by omega) HFM.out
      replace KE2 := Lib.hid KE2
      replace KM2 := Lib.hid KM2
      replace KD2 := Lib.hid KD2
      have HB8 := Lib.hid hb8
      clear hgrow8 hown6 hb6 hA6 hsz6 x0 x1 x2 x3 x4 hown8 hon8 hq8 hG HFM HNV H HDV hb8
      go_wp2_with fail
      refine (KE2.out _ (Below.refl _ _)).mono ?_
      rintro e w9 ⟨rfl, hb⟩
      unfold endV
      go_wp2_with fail
      refine (KM2.out _ hb).mono ?_
      rintro e w10 ⟨rfl, hb1⟩
      replace hb := hb.trans (hb1.mono hb.size)
      go_wp2_with fail
      refine (KM1.out _ (HB8.out.trans (hb.mono HB8.out.size))).mono ?_
      rintro e w11 ⟨rfl, hb1⟩
      replace hb := hb.trans (hb1.mono hb.size)
      go_wp2_with fail
      refine (KD2.out _ hb).mono ?_
      rintro e w12 ⟨rfl, hb1⟩
      replace hb := hb.trans (hb1.mono hb.size)
      go_wp2_with fail
      refine (KD.out _ (HB8.out.trans (hb.mono HB8.out.size))).mono ?_
      rintro e w13 ⟨rfl, hb1⟩
      replace hb := hb.trans (hb1.mono hb.size)
      go_wp2_with fail
      go_ret
      exact ⟨by simp, HB8.out.trans (hb.mono HB8.out.size)⟩
end Go.Proofs.Ytiopemimancliaa

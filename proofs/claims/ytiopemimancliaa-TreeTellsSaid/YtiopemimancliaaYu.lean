/-
  TreeTells at every list, place and node.
-/
import Derived.Test.YtiopemimancliaaYs
import Derived.Deep.RegionHeld3
import Derived.Deep.DeepCutAuto
namespace Go.Proofs.Ytiopemimancliaa
open Go.RowKit

theorem endV_form (r : Option Nat) : ∃ (x : Int) (b : Bool), endV r = .tuple #[.int .i64 x, .bool b] := by
  cases r
  · exact ⟨_, _, rfl⟩
  · exact ⟨_, _, rfl⟩
theorem unI_len (K : List Int) (i : Int) : (unI K i).length ≤ K.length := by
  cases he : enI K i with
  | none => unfold unI; rw [he]; simp
  | some e =>
    have h0 : ¬ i < 0 := by
      intro h0
      unfold enI at he
      rw [if_pos h0] at he
      cases he
    obtain ⟨p, rfl⟩ : ∃ p : Nat, i = p := ⟨i.toNat, by omega⟩
    rw [enI_nat] at he
    obtain ⟨y, _, he2, _, hen, hu⟩ := tree_at he
    obtain ⟨d, hd⟩ := Fd.ex he2
    rw [hu, hd.un_len]
    have := hd.le.1
    omega
/-- A callee's end, told of an elder world. -/
theorem calls_base {f : FuncId} {args : Array Value} {wb w : World} {v : Value} (hb : Below wb.heap.size wb w) (h : Calls Try.prog f args w (ValEnd v w)) : Calls Try.prog f args w fun e W' => e = .returned v ∧ Below wb.heap.size wb W' :=
  h.mono fun _ _ ⟨h1, h2⟩ => ⟨h1, hb.trans (h2.mono hb.size)⟩
theorem under_base {f : FuncId} {args : Array Value} {wb w : World} {l : List Nat} (hb : Below wb.heap.size wb w) (h : Calls Try.prog f args w (UnEnd l w)) : Calls Try.prog f args w fun e W' => ∃ a c, e = .returned (.slice a l.length c) ∧ Pl W' a l ∧ Below wb.heap.size wb W' ∧ Below w.heap.size w W' :=
  h.mono fun _ _ ⟨a, c, h1, _, _, h3, h4⟩ => ⟨a, c, h1, h3, hb.trans (h4.mono hb.size), h4⟩
theorem depths (a : Option Addr) (n c : Nat) (f : Nat → Nd) (hnc : n ≤ c) (hc : c ≤ maxLen) (hn : n ≤ 1000000) : ∃ D : Int, (∀ w, Nq w a n f → Calls Try.prog 16 #[.slice a n c] w (ValEnd (.int .i64 D) w)) ∧ ∀ w, Nq w a n f → Calls Try.prog 17 #[.slice a n c] w (ValEnd (.int .i64 D) w) := by
  cases he : eN (ksF f n) 1 0 with
  | none => exact ⟨0, fun w h => Depth_none a n c f w h hn he, fun w h => rDepth_none a n c f w h hn he⟩
  | some e =>
    obtain ⟨D, hD⟩ := Fd.ex he
    exact ⟨D, fun w h => Depth_some a n c f e D w h hnc hc hn hD, fun w h => rDepth_some a n c f e D w h hn hD⟩
set_option maxHeartbeats 6400000 in
set_option maxRecDepth 10000 in
theorem tells_is (a : Option Addr) (n c : Nat) (f : Nat → Nd) (i : Int) (d : Nd) (W : World) (h : Nq W a n f) (hnc : n ≤ c) (hc : c ≤ maxLen) (hi : i ≤ 9223372036854775807) :
    Calls Try.prog 3 #[.slice a n c, .int .i64 i, d.val] W (ValEnd (.bool true) W) := by
  have hn63 : n ≤ 9223372036854775807 := maxLen_le (Nat.le_trans hnc hc)
  obtain ⟨k, v, ad, x, g, m, cc, ns⟩ := d
  show Calls _ _ #[.slice a n c, .int .i64 i, .agg #[.int .i64 k, .string v, .string ad, .string x, .slice g m cc]] W _
  have hb0 := box_below W (.cells #[.int .i64 k, .string v, .string ad, .string x, .slice g m cc] 25)
  have hA := Bd.new W k v ad x g m cc
  have KF := Lib.hid (fun w (hw : Below W.heap.size W w) => Few_is a n c f w (h.below hw) hn63)
  have KS := Lib.hid (fun w => shown_is w)
  have H := Lib.hid h
  clear h
  go_enter Try.func3, Try.ntmps3
  go_wp2_with fail
  refine (KS.out _).mono ?_
  rintro e w1 ⟨rfl, hb⟩
  have hA1 := hA.on hb
  have hb1 := hb0.trans (hb.mono hb0.size)
  clear hA hb0 hb KS
  go_wp2_with fail
  refine (KF.out _ hb1).mono ?_
  rintro e w2 ⟨r, rfl, hr, hb⟩
  have hA2 := hA1.on hb
  have hb2 := hb1.trans (hb.mono hb1.size)
  clear hA1 hb1 hb KF
  cases r with
  | false =>
    clear hr hA2
    go_wp2_with fail
    go_ret
    exact ⟨rfl, hb2⟩
  | true =>
    obtain ⟨hn80, _⟩ := hr rfl
    have hn : n ≤ 1000000 := by omega
    clear hr
    obtain ⟨ex, eb, hev⟩ := endV_form (enI (ksF f n) i)
    have KE := fun w (hw : Below W.heap.size W w) => End_is a n c f i w (H.out.below hw) hn hi
    have KE' := fun w (hw : Below W.heap.size W w) => rEnd_is a n c f i w (H.out.below hw) hn
    rw [hev] at KE KE'
    replace KE := Lib.hid KE
    replace KE' := Lib.hid KE'
    clear hev
    go_wp2_with fail
    refine (KE.out _ hb2).mono ?_
    rintro e w3 ⟨rfl, hb⟩
    have hA3 := hA2.on hb
    have hb3 := hb2.trans (hb.mono hb2.size)
    clear hA2 hb2 hb KE
    go_wp2_with fail
    refine (KE'.out _ hb3).mono ?_
    rintro e w4 ⟨rfl, hb⟩
    have hA4 := hA3.on hb
    have hb4 := hb3.trans (hb.mono hb3.size)
    clear hA3 hb3 hb KE'
    have x0 := hA4.c0
    have x1 := hA4.c1
    have x2 := hA4.c2
    have x3 := hA4.c3
    have x4 := hA4.c4
    have l0 := hA4.lt
    have hs4 := hb4.size
    obtain ⟨D, hD1, hD2⟩ := depths a n c f hnc hc hn
    obtain ⟨z, hz⟩ : ∃ z, z = kd k v := ⟨_, rfl⟩
    obtain ⟨l, hl⟩ : ∃ l, l = unI (ksF f n) i := ⟨_, rfl⟩
    obtain ⟨b, hbm⟩ : ∃ b, b = mayB f n := ⟨_, rfl⟩
    have hll : l.length ≤ 1000000 := by
      have := unI_len (ksF f n) i
      rw [ks_len, ← hl] at this
      omega
    have A1 := Lib.hid (fun w' (hb : Below w4.heap.size w4 w') => calls_base hb (by rw [hz]; exact Kids_is k v ad x g m cc w' : Calls Try.prog 11 #[.agg #[.int .i64 k, .string v, .string ad, .string x, .slice g m cc]] w' (ValEnd (.int .i64 z) w')))
    have A2 := Lib.hid (fun w' (hb : Below w4.heap.size w4 w') => calls_base hb (by rw [hz]; exact rKids_is k v ad x g m cc w' : Calls Try.prog 12 #[.agg #[.int .i64 k, .string v, .string ad, .string x, .slice g m cc]] w' (ValEnd (.int .i64 z) w')))
    have A3 := Lib.hid (fun w' (hb : Below w4.heap.size w4 w') => under_base hb (by rw [hl]; exact Under_is a n c f i w' (H.out.below (hb4.trans (hb.mono hs4))) hn hi : Calls Try.prog 14 #[.slice a n c, .int .i64 i] w' (UnEnd l w')))
    have A4 := Lib.hid (fun w' (hb : Below w4.heap.size w4 w') => under_base hb (by rw [hl]; exact rUnder_is a n c f i w' (H.out.below (hb4.trans (hb.mono hs4))) hn : Calls Try.prog 15 #[.slice a n c, .int .i64 i] w' (UnEnd l w')))
    have A5 := Lib.hid (fun w' (hb : Below w4.heap.size w4 w') aa bb c1 c2 (h1 : Pl w' aa l) (h2 : Pl w' bb l) => calls_base hb (rSameI_is aa bb c1 c2 l w' h1 h2 hll))
    have A6 := Lib.hid (fun w' (hb : Below w4.heap.size w4 w') => calls_base hb (hD1 w' (H.out.below (hb4.trans (hb.mono hs4)))))
    have A7 := Lib.hid (fun w' (hb : Below w4.heap.size w4 w') => calls_base hb (hD2 w' (H.out.below (hb4.trans (hb.mono hs4)))))
    have A8 := Lib.hid (fun w' (hb : Below w4.heap.size w4 w') => calls_base hb (by rw [hbm]; exact TMay_is a n c f w' (H.out.below (hb4.trans (hb.mono hs4))) hnc hc hn : Calls Try.prog 18 #[.slice a n c] w' (ValEnd (.bool b) w')))
    have A9 := Lib.hid (fun w' (hb : Below w4.heap.size w4 w') => calls_base hb (by rw [hbm]; exact rTMay_is a n c f w' (H.out.below (hb4.trans (hb.mono hs4))) hn : Calls Try.prog 19 #[.slice a n c] w' (ValEnd (.bool b) w')))
    have hq : Below w4.heap.size w4 w4 := Below.refl _ _
    have HB4 := Lib.hid hb4
    obtain ⟨L, hL⟩ : ∃ L, L = l.length := ⟨_, rfl⟩
    rw [← hL] at A3 A4 A5
    clear H hA4 hD1 hD2 hz hl hbm hll hb4 hs4 hL hnc hc hi hn hn80 hn63
    go_upto_region 6 with fail
    go_region_held3 (fun w' => w'.cell? ⟨W.heap.size, 0, none⟩ = some (.int .i64 k) ∧ w'.cell? ⟨W.heap.size, 1, none⟩ = some (.string v) ∧ w'.cell? ⟨W.heap.size, 2, none⟩ = some (.string ad) ∧ w'.cell? ⟨W.heap.size, 3, none⟩ = some (.string x) ∧ w'.cell? ⟨W.heap.size, 4, none⟩ = some (.slice g m cc))
      (first | exact ⟨(Below.cell (p := ⟨W.heap.size, 0, none⟩) (by repeat' (first | exact hq | refine Below.drew ?_)) l0).trans x0, (Below.cell (p := ⟨W.heap.size, 1, none⟩) (by repeat' (first | exact hq | refine Below.drew ?_)) l0).trans x1, (Below.cell (p := ⟨W.heap.size, 2, none⟩) (by repeat' (first | exact hq | refine Below.drew ?_)) l0).trans x2, (Below.cell (p := ⟨W.heap.size, 3, none⟩) (by repeat' (first | exact hq | refine Below.drew ?_)) l0).trans x3, (Below.cell (p := ⟨W.heap.size, 4, none⟩) (by repeat' (first | exact hq | refine Below.drew ?_)) l0).trans x4⟩ | fail)
      (first
        | (go_at_call 11; (with_reducible refine (A1.out _ (by repeat' (first | exact hq | refine Below.drew ?_))).mono ?_); rintro e wa ⟨rfl, hq⟩)
        | (go_at_call 12; (with_reducible refine (A2.out _ (by repeat' (first | exact hq | refine Below.drew ?_))).mono ?_); rintro e wa ⟨rfl, hq⟩)
        | (go_at_call 14; (with_reducible refine (A3.out _ (by repeat' (first | exact hq | refine Below.drew ?_))).mono ?_); rintro e wa ⟨au, cu, rfl, hpu, hq, hr⟩)
        | (go_at_call 15; (with_reducible refine (A4.out _ (by repeat' (first | exact hq | refine Below.drew ?_))).mono ?_); rintro e wa ⟨av, cv, rfl, hpv, hq, hr⟩; have hpu := hpu.below hr)
        | (go_at_call 13; (with_reducible refine (A5.out _ (by repeat' (first | exact hq | refine Below.drew ?_)) _ _ _ _ hpu hpv).mono ?_); rintro e wa ⟨rfl, hq⟩)
        | (go_at_call 16; (with_reducible refine (A6.out _ (by repeat' (first | exact hq | refine Below.drew ?_))).mono ?_); rintro e wa ⟨rfl, hq⟩)
        | (go_at_call 17; (with_reducible refine (A7.out _ (by repeat' (first | exact hq | refine Below.drew ?_))).mono ?_); rintro e wa ⟨rfl, hq⟩)
        | (go_at_call 18; (with_reducible refine (A8.out _ (by repeat' (first | exact hq | refine Below.drew ?_))).mono ?_); rintro e wa ⟨rfl, hq⟩)
        | (go_at_call 19; (with_reducible refine (A9.out _ (by repeat' (first | exact hq | refine Below.drew ?_))).mono ?_); rintro e wa ⟨rfl, hq⟩))
    all_goals
      go_wp2_with fail
      go_ret
      exact ⟨by simp, HB4.out.trans (hq.mono HB4.out.size)⟩
end Go.Proofs.Ytiopemimancliaa

/-
  ValInts at every list.
-/
import Derived.Test.YtpnedgldnndnjaaDoorVg
namespace Go.Proofs.YtpnedgldnndnjaaDoor
open Go.RowKit

theorem ints_may {l : List Int} {n : Nat} (hl : l.length = n) (hn : n ≤ 300) (hi : ∀ j, j < n → I64 (l.getD j 0)) : mayV [(n : Int)] (l.map S) = true := by
  refine mayV_yes.2 ⟨szE_may.2 ⟨by simp, fun j hj => ?_, fun j hj => ?_, ?_⟩, ?_, fun j hj => ?_⟩
  · obtain rfl : j = 0 := by simp at hj; omega
    show (0 : Int) ≤ (n : Int); omega
  · obtain rfl : j = 0 := by simp at hj; omega
    show (n : Int) ≤ 1099511627776; omega
  · show (n : Int) * 1 ≤ 4096; omega
  · rw [List.length_map, hl]; show (n : Int) = (n : Int) * 1; omega
  · rw [List.length_map] at hj
    rw [map_getD l hj, S_toList]
    exact (mayL_itoa _).2 (lim_i64 (hi j (by omega)).1 (hi j (by omega)).2)
theorem ints_small {l : List Int} {n : Nat} (hl : l.length = n) (hi : ∀ j, j < n → I64 (l.getD j 0)) : ∀ j, j < n → ((l.map S).getD j ByteArray.empty).size ≤ maxLen := by
  intro j hj
  rw [map_getD l (by rw [hl]; exact hj)]
  exact Nat.le_trans (S_size (lim_i64 (hi j hj).1 (hi j hj).2)) (by decide)
set_option maxRecDepth 10000 in
set_option maxHeartbeats 1600000 in
theorem ints_any (a : Option Addr) (n c : Nat) (l : List Int) (W : World) (h : Sl W a n l) (hi : ∀ j, j < n → I64 (l.getD j 0)) (ht : WT W) :
    Calls Tryd.prog 4 #[.slice a n c] W (TrueEnd W) := by
  by_cases gn : 300 < n
  · have HW := Lib.hid ht
    clear h hi ht
    have e1 : (300 : Int) < n := by omega
    go_enter Tryd.func4, Tryd.ntmps4
    go_wp2_with fail
    refine (shown_is _ HW.out).mono ?_
    rintro x w1 ⟨rfl, hb1⟩
    go_wp2_with fail
    go_ret
    exact ⟨rfl, hb1⟩
  have e1 : ¬ (300 : Int) < n := by omega
  have HS := Lib.hid h
  have HI := Lib.hid hi
  have HW := Lib.hid ht
  have HM := Lib.hid (ints_may h.1 (by omega) hi)
  have HZ := Lib.hid (ints_small h.1 hi)
  clear h hi ht
  go_enter Tryd.func4, Tryd.ntmps4
  go_wp2_with fail
  refine (shown_is _ HW.out).mono ?_
  rintro x w1 ⟨rfl, hb1⟩
  go_wp2_with fail
  refine (Ints_is a n c l w1 (HS.out.below hb1) HI.out (by omega) (HW.out.below hb1)).mono ?_
  rintro x w2 ⟨g1, g2, rfl, hV, hb⟩
  have hb2 := hb1.trans (hb.mono hb1.size)
  have hA := Bx.new w2 (some ⟨g1, 0, none⟩) 1 1 (some ⟨g2, 0, none⟩) n n
  have x0 := hA.c0
  have x1 := hA.c1
  clear hb1 hb
  go_wp2_with fail
  have hr : Below w2.heap.size w2 (w2.alloc (.cells #[.slice (some ⟨g1, 0, none⟩) 1 1, .slice (some ⟨g2, 0, none⟩) n n] 25)) := (Below.refl _ _).alloc (Nat.le_refl _) _
  have hV2 := hV.below hr
  have hb3 := hb2.trans (hr.mono hb2.size)
  clear hV hr hb2 x0 x1
  generalize w2.alloc (.cells #[.slice (some ⟨g1, 0, none⟩) 1 1, .slice (some ⟨g2, 0, none⟩) n n] 25) = w3 at *
  refine (All_is w3 hV2 HI.out (by omega)).mono ?_
  rintro x w4 ⟨a5, n5, c5, z, rfl, hall, hb⟩
  have hA4 := hA.below hb hA.lt
  have hV4 := hV2.below hb
  have hb4 := hb3.trans (hb.mono hb3.size)
  have HALL := Lib.hid hall
  clear hA hV2 hb3 hb hall
  generalize w2.heap.size = G at *
  go_wp2_with fail
  -- LOOP
  have HB4 := Lib.hid hb4
  clear hb4
  go_loopw [7, 8] (fun sv i wr => ∃ (k : Nat) (s : Bool), i = .int .i64 k ∧ k ≤ n ∧ sv = .bool s ∧ Hid (s = true ↔ ∀ j, j < k → fine (l.getD j 0) = true) ∧ Bx wr G (some ⟨g1, 0, none⟩) 1 1 (some ⟨g2, 0, none⟩) n n ∧ Vl wr (some ⟨g1, 0, none⟩) 1 (some ⟨g2, 0, none⟩) n [(n : Int)] (l.map S) ∧ Below w4.heap.size w4 wr) (fun _ i _ => n - (intOf i).toNat)
  case atStart => exact ⟨0, true, rfl, by omega, rfl, Lib.hid ⟨fun _ j hj => by omega, fun _ => rfl⟩, hA4, hV4, Below.refl _ _⟩
  case round =>
    obtain ⟨k, s, rfl, hk, rfl, HIs, hA3, hV3, hbw⟩ := hrel
    clear hA4 hV4
    have x0 := hA3.c0
    have x1 := hA3.c1
    by_cases hlt : k < n
    · clear x0
      have e2 : (k : Int) < (n : Int) := by omega
      obtain ⟨bb, off, rfl, hc⟩ := HS.out.2 (by omega)
      have hWc := hc k hlt
      have HX64 := Lib.hid (HI.out k hlt)
      have hst : wr.cell? ⟨g2, k, none⟩ = some (.string (S (l.getD k 0))) := by
        obtain ⟨b', o', e, hc'⟩ := hV3.t.2 (by omega)
        injection e with e
        injection e with e3 e4 _
        subst e3 e4
        have := hc' k hlt
        rwa [Nat.zero_add, map_getD l (by rw [HS.out.1]; exact hlt)] at this
      obtain ⟨x, hx⟩ : ∃ x, x = l.getD k 0 := ⟨_, rfl⟩
      rw [← hx] at hWc HX64 hst
      have HC := Lib.hid (And.intro (World.block_lt_of_cell? W _ hWc) hWc)
      have hck : wr.cell? ⟨bb, off + k, none⟩ = some (.int .i64 x) := ((HB4.out.trans (hbw.mono HB4.out.size)).cell (p := ⟨bb, off + k, none⟩) HC.out.1).trans HC.out.2
      have HX := Lib.hid hx
      clear hc hx hWc
      by_cases c1 : -1099511627776 ≤ x
      · by_cases c2 : x ≤ 1099511627776
        · have HFX := Lib.hid ((fine_yes (x := x)).2 ⟨c1, c2⟩)
          rcases s with _ | _
          · have KN := Lib.hid (fun w => near_yes (S x) x w (Int_ok x HX64.out.1 HX64.out.2 w) HFX.out)
            go_wp2_with fail
            refine (Scalar_is (S x) wr).mono ?_
            rintro y w5 ⟨g, rfl, hg, hb⟩
            have hA5 := hA3.below hb hA3.lt
            have hV5 := hV3.below hb
            have hb5 := hbw.trans (hb.mono hbw.size)
            have HG := Lib.hid hg
            clear hA3 hV3 hbw hb hg x1 hst hck
            go_wp2_with fail
            refine (VInt_one none 0 g 1 (S x) x 0 w5 HG.out (fun w _ => KN.out w)).mono ?_
            rintro y w6 ⟨rfl, hb⟩
            have hA6 := hA5.below hb hA5.lt
            have hV6 := hV5.below hb
            have hb6 := hb5.trans (hb.mono hb5.size)
            have hck6 : w6.cell? ⟨bb, off + k, none⟩ = some (.int .i64 x) := ((HB4.out.trans (hb6.mono HB4.out.size)).cell (p := ⟨bb, off + k, none⟩) HC.out.1).trans HC.out.2
            clear hA5 hV5 hb5 hb
            go_wp2_with fail
            go_roundw
            case rel => exact ⟨k + 1, false, by go_num, by omega, rfl, Lib.hid ⟨fun hh => (by cases hh), fun hh => absurd (HIs.out.2 fun j hj => hh j (by omega)) (by decide)⟩, hA6, hV6, hb6⟩
            case measure => simp [intOf]; omega
          · have KN := Lib.hid (fun w => near_yes (S x) x w (Int_ok x HX64.out.1 HX64.out.2 w) HFX.out)
            go_wp2_with fail
            refine (Scalar_is (S x) wr).mono ?_
            rintro y w5 ⟨g, rfl, hg, hb⟩
            have hA5 := hA3.below hb hA3.lt
            have hV5 := hV3.below hb
            have hb5 := hbw.trans (hb.mono hbw.size)
            have HG := Lib.hid hg
            clear hA3 hV3 hbw hb hg x1 hst hck
            go_wp2_with fail
            refine (VInt_one none 0 g 1 (S x) x 0 w5 HG.out (fun w _ => KN.out w)).mono ?_
            rintro y w6 ⟨rfl, hb⟩
            have hA6 := hA5.below hb hA5.lt
            have hV6 := hV5.below hb
            have hb6 := hb5.trans (hb.mono hb5.size)
            have hck6 : w6.cell? ⟨bb, off + k, none⟩ = some (.int .i64 x) := ((HB4.out.trans (hb6.mono HB4.out.size)).cell (p := ⟨bb, off + k, none⟩) HC.out.1).trans HC.out.2
            clear hA5 hV5 hb5 hb
            go_wp2_with fail
            go_roundw
            case rel => exact ⟨k + 1, true, by go_num, by omega, rfl, Lib.hid ⟨fun _ j hj => (by rcases Nat.lt_or_ge j k with h2 | h2; exact HIs.out.1 (by simp) j h2; rw [show j = k by omega, ← HX.out]; exact HFX.out), fun _ => rfl⟩, hA6, hV6, hb6⟩
            case measure => simp [intOf]; omega
        · have HFX := Lib.hid ((fine_no (x := x)).2 (.inr (by omega)))
          rcases s with _ | _
          · have KN := Lib.hid (fun w => near_no (S x) x true w (Int_ok x HX64.out.1 HX64.out.2 w) (.inr HFX.out))
            go_wp2_with fail
            refine (Scalar_is (S x) wr).mono ?_
            rintro y w5 ⟨g, rfl, hg, hb⟩
            have hA5 := hA3.below hb hA3.lt
            have hV5 := hV3.below hb
            have hb5 := hbw.trans (hb.mono hbw.size)
            have HG := Lib.hid hg
            clear hA3 hV3 hbw hb hg x1 hst hck
            go_wp2_with fail
            refine (VInt_one none 0 g 1 (S x) 0 5 w5 HG.out (fun w _ => KN.out w)).mono ?_
            rintro y w6 ⟨rfl, hb⟩
            have hA6 := hA5.below hb hA5.lt
            have hV6 := hV5.below hb
            have hb6 := hb5.trans (hb.mono hb5.size)
            have hck6 : w6.cell? ⟨bb, off + k, none⟩ = some (.int .i64 x) := ((HB4.out.trans (hb6.mono HB4.out.size)).cell (p := ⟨bb, off + k, none⟩) HC.out.1).trans HC.out.2
            clear hA5 hV5 hb5 hb
            go_wp2_with fail
            go_roundw
            case rel => exact ⟨k + 1, false, by go_num, by omega, rfl, Lib.hid ⟨fun hh => (by cases hh), fun hh => absurd (hh k (by omega)) (by rw [← HX.out, HFX.out]; decide)⟩, hA6, hV6, hb6⟩
            case measure => simp [intOf]; omega
          · have KN := Lib.hid (fun w => near_no (S x) x true w (Int_ok x HX64.out.1 HX64.out.2 w) (.inr HFX.out))
            go_wp2_with fail
            refine (Scalar_is (S x) wr).mono ?_
            rintro y w5 ⟨g, rfl, hg, hb⟩
            have hA5 := hA3.below hb hA3.lt
            have hV5 := hV3.below hb
            have hb5 := hbw.trans (hb.mono hbw.size)
            have HG := Lib.hid hg
            clear hA3 hV3 hbw hb hg x1 hst hck
            go_wp2_with fail
            refine (VInt_one none 0 g 1 (S x) 0 5 w5 HG.out (fun w _ => KN.out w)).mono ?_
            rintro y w6 ⟨rfl, hb⟩
            have hA6 := hA5.below hb hA5.lt
            have hV6 := hV5.below hb
            have hb6 := hb5.trans (hb.mono hb5.size)
            have hck6 : w6.cell? ⟨bb, off + k, none⟩ = some (.int .i64 x) := ((HB4.out.trans (hb6.mono HB4.out.size)).cell (p := ⟨bb, off + k, none⟩) HC.out.1).trans HC.out.2
            clear hA5 hV5 hb5 hb
            go_wp2_with fail
            go_roundw
            case rel => exact ⟨k + 1, false, by go_num, by omega, rfl, Lib.hid ⟨fun hh => (by cases hh), fun hh => absurd (hh k (by omega)) (by rw [← HX.out, HFX.out]; decide)⟩, hA6, hV6, hb6⟩
            case measure => simp [intOf]; omega
      · have HFX := Lib.hid ((fine_no (x := x)).2 (.inl (by omega)))
        rcases s with _ | _
        · have KN := Lib.hid (fun w => near_no (S x) x true w (Int_ok x HX64.out.1 HX64.out.2 w) (.inr HFX.out))
          go_wp2_with fail
          refine (Scalar_is (S x) wr).mono ?_
          rintro y w5 ⟨g, rfl, hg, hb⟩
          have hA5 := hA3.below hb hA3.lt
          have hV5 := hV3.below hb
          have hb5 := hbw.trans (hb.mono hbw.size)
          have HG := Lib.hid hg
          clear hA3 hV3 hbw hb hg x1 hst hck
          go_wp2_with fail
          refine (VInt_one none 0 g 1 (S x) 0 5 w5 HG.out (fun w _ => KN.out w)).mono ?_
          rintro y w6 ⟨rfl, hb⟩
          have hA6 := hA5.below hb hA5.lt
          have hV6 := hV5.below hb
          have hb6 := hb5.trans (hb.mono hb5.size)
          have hck6 : w6.cell? ⟨bb, off + k, none⟩ = some (.int .i64 x) := ((HB4.out.trans (hb6.mono HB4.out.size)).cell (p := ⟨bb, off + k, none⟩) HC.out.1).trans HC.out.2
          clear hA5 hV5 hb5 hb
          go_wp2_with fail
          go_roundw
          case rel => exact ⟨k + 1, false, by go_num, by omega, rfl, Lib.hid ⟨fun hh => (by cases hh), fun hh => absurd (hh k (by omega)) (by rw [← HX.out, HFX.out]; decide)⟩, hA6, hV6, hb6⟩
          case measure => simp [intOf]; omega
        · have KN := Lib.hid (fun w => near_no (S x) x true w (Int_ok x HX64.out.1 HX64.out.2 w) (.inr HFX.out))
          go_wp2_with fail
          refine (Scalar_is (S x) wr).mono ?_
          rintro y w5 ⟨g, rfl, hg, hb⟩
          have hA5 := hA3.below hb hA3.lt
          have hV5 := hV3.below hb
          have hb5 := hbw.trans (hb.mono hbw.size)
          have HG := Lib.hid hg
          clear hA3 hV3 hbw hb hg x1 hst hck
          go_wp2_with fail
          refine (VInt_one none 0 g 1 (S x) 0 5 w5 HG.out (fun w _ => KN.out w)).mono ?_
          rintro y w6 ⟨rfl, hb⟩
          have hA6 := hA5.below hb hA5.lt
          have hV6 := hV5.below hb
          have hb6 := hb5.trans (hb.mono hb5.size)
          have hck6 : w6.cell? ⟨bb, off + k, none⟩ = some (.int .i64 x) := ((HB4.out.trans (hb6.mono HB4.out.size)).cell (p := ⟨bb, off + k, none⟩) HC.out.1).trans HC.out.2
          clear hA5 hV5 hb5 hb
          go_wp2_with fail
          go_roundw
          case rel => exact ⟨k + 1, false, by go_num, by omega, rfl, Lib.hid ⟨fun hh => (by cases hh), fun hh => absurd (hh k (by omega)) (by rw [← HX.out, HFX.out]; decide)⟩, hA6, hV6, hb6⟩
          case measure => simp [intOf]; omega
    · have e2 : ¬ (k : Int) < (n : Int) := by omega
      obtain rfl : k = n := by omega
      have hs : s = l.all fine := by
        have h1 := HIs.out
        have h2 := fine_all (l := l)
        rw [HS.out.1] at h2
        rw [← h2] at h1
        cases s <;> cases hh : l.all fine <;> simp [hh] at h1 ⊢
      have KM := fun w (h : Vl w (some ⟨g1, 0, none⟩) 1 (some ⟨g2, 0, none⟩) k [(k : Int)] (l.map S)) => VMay_is (c := 1) (d := k) w h HZ.out
      rw [HM.out] at KM
      replace KM := Lib.hid KM
      have KY := fun w (h : Vl w (some ⟨g1, 0, none⟩) 1 (some ⟨g2, 0, none⟩) k [(k : Int)] (l.map S)) => VMany_is (c := 1) (d := k) w h (by omega) (by omega) (by unfold maxLen; omega)
      rw [show itV [(k : Int)] = (k : Int) from rfl] at KY
      replace KY := Lib.hid KY
      rcases HALL.out with ⟨hf, rfl, rfl, hS⟩ | ⟨hf, rfl⟩
      · obtain rfl : s = true := hs.trans hf
        have HS5 := Lib.hid hS
        clear hs hf hS
        go_wp2_with fail
        refine (KM.out _ hV3).mono ?_
        rintro y w5 ⟨rfl, hb⟩
        have hA5 := hA3.below hb hA3.lt
        have hV5 := hV3.below hb
        have hb5 := hbw.trans (hb.mono hbw.size)
        clear hA3 hV3 hbw hb x0 x1
        go_wp2_with fail
        refine (rSame_is a5 a _ c5 _ c l l w5 (HS5.out.below hb5) (HS.out.below (HB4.out.trans (hb5.mono HB4.out.size))) (by omega) (by omega) true (beq_self_eq_true l).symm).mono ?_
        rintro y w6 ⟨rfl, hd⟩
        have hA6 := hA5.below hd.below hA5.lt
        have hV6 := hV5.below hd.below
        have hb6 := hb5.trans (hd.below.mono hb5.size)
        have x0 := hA6.c0
        have x1 := hA6.c1
        clear hA5 hV5 hb5 hd
        go_wp2_with fail
        refine (KY.out _ hV6).mono ?_
        rintro y w7 ⟨rfl, hb⟩
        have hb7 := hb6.trans (hb.mono hb6.size)
        go_wp2_with fail
        go_ret
        exact ⟨rfl, HB4.out.trans (hb7.mono HB4.out.size)⟩
      · obtain rfl : s = false := hs.trans hf
        clear hs hf
        go_wp2_with fail
        refine (KM.out _ hV3).mono ?_
        rintro y w5 ⟨rfl, hb⟩
        have hA5 := hA3.below hb hA3.lt
        have hV5 := hV3.below hb
        have hb5 := hbw.trans (hb.mono hbw.size)
        clear hA3 hV3 hbw hb x0 x1
        have x0 := hA5.c0
        have x1 := hA5.c1
        go_wp2_with fail
        refine (KY.out _ hV5).mono ?_
        rintro y w7 ⟨rfl, hb⟩
        have hb7 := hb5.trans (hb.mono hb5.size)
        go_wp2_with fail
        go_ret
        exact ⟨rfl, HB4.out.trans (hb7.mono HB4.out.size)⟩
end Go.Proofs.YtpnedgldnndnjaaDoor

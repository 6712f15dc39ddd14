/-
  BudgetParts at every list of prices.
-/
import Derived.Test.YtjjeikcmnngnjaaGt
import Derived.Test.YtjjeikcmnngnjaaGh
import Derived.RegionTactic
namespace Go.Proofs.Ytjjeikcmnngnjaa
open Go.RowKit

/-- The first k prices, added. -/
def acc (f : Nat → Int) : Nat → Int
  | 0 => 0
  | k + 1 => acc f k + f k
theorem acc_le {f : Nat → Int} {n : Nat} (h : ∀ j, j < n → 0 ≤ f j ∧ f j ≤ 65535) : ∀ k, k ≤ n → 0 ≤ acc f k ∧ acc f k ≤ 65535 * (k : Int)
  | 0, _ => ⟨Int.le_refl _, Int.le_refl _⟩
  | k + 1, hk => by
    have h1 := acc_le h k (by omega)
    have h2 := h k (by omega)
    show 0 ≤ acc f k + f k ∧ acc f k + f k ≤ _
    omega
/-- The three boxes: what there was, what is left, and all prices so far. -/
structure Pt (W : World) (g : Nat) (F C p q s t : Int) : Prop where
  b : Bt 25 W g F C
  l : Bt 25 W (g + 1) p q
  a : Bt 25 W (g + 1 + 1) s t
theorem Pt.on {W W' : World} {g : Nat} {F C p q s t : Int} (h : Pt W g F C p q s t) (hb : Below W.heap.size W W') : Pt W' g F C p q s t := ⟨h.b.on hb, h.l.on hb, h.a.on hb⟩
theorem Pt.setA {W : World} {g : Nat} {F C p q s t : Int} (h : Pt W g F C p q s t) (s' t' : Int) : Pt ((W.setCell ⟨g + 1 + 1, 0, none⟩ (.int .i64 s')).setCell ⟨g + 1 + 1, 1, none⟩ (.int .i64 t')) g F C p q s' t' :=
  ⟨(h.b.setOther (p := ⟨g + 1 + 1, 0, none⟩) (show g ≠ g + 1 + 1 by omega) _).setOther (p := ⟨g + 1 + 1, 1, none⟩) (show g ≠ g + 1 + 1 by omega) _, (h.l.setOther (p := ⟨g + 1 + 1, 0, none⟩) (show g + 1 ≠ g + 1 + 1 by omega) _).setOther (p := ⟨g + 1 + 1, 1, none⟩) (show g + 1 ≠ g + 1 + 1 by omega) _, h.a.set _ _⟩
theorem Pt.setL {W : World} {g : Nat} {F C p q s t : Int} (h : Pt W g F C p q s t) (p' q' : Int) : Pt ((W.setCell ⟨g + 1, 0, none⟩ (.int .i64 p')).setCell ⟨g + 1, 1, none⟩ (.int .i64 q')) g F C p' q' s t :=
  ⟨(h.b.setOther (p := ⟨g + 1, 0, none⟩) (show g ≠ g + 1 by omega) _).setOther (p := ⟨g + 1, 1, none⟩) (show g ≠ g + 1 by omega) _, h.l.set _ _, (h.a.setOther (p := ⟨g + 1, 0, none⟩) (show g + 1 + 1 ≠ g + 1 by omega) _).setOther (p := ⟨g + 1, 1, none⟩) (show g + 1 + 1 ≠ g + 1 by omega) _⟩

theorem canB_step {F C s t x y : Int} (hs : 0 ≤ s) (ht : 0 ≤ t) (hx : 0 ≤ x) (hy : 0 ≤ y) : canB F C (s + x) (t + y) = (canB F C s t && canB (F - s) (C - t) x y) := by
  rw [Bool.eq_iff_iff, Bool.and_eq_true, canB_yes, canB_yes, canB_yes]
  omega
set_option maxRecDepth 10000 in
set_option maxHeartbeats 6400000 in
theorem parts_any {F C : Int} {a : Option Addr} {n c : Nat} {f : Nat → Int} (W : World) (hF : 0 ≤ F ∧ F ≤ 4294967295) (hC : 0 ≤ C ∧ C ≤ 4294967295) (h : Us W a n f) (hm : n ≤ 9223372036854775807) :
    Calls Try.prog 5 #[.int .u32 F, .int .u32 C, .slice a n c] W (TrueEnd W) := by
  by_cases hn : n ≤ 200
  · have e1 : ¬ (200 : Int) < (n : Int) := by omega
    have hfr : ∀ j, j < n → 0 ≤ f j ∧ f j ≤ 65535 := fun j hj => by
      obtain ⟨_, _, _, hc⟩ := h (by omega)
      exact (hc j hj).2
    have hfr3 : ∀ j, j < n → 0 ≤ f j / 3 ∧ f j / 3 ≤ 65535 := fun j hj => by have := hfr j hj; omega
    have HA := Lib.hid (acc_le hfr)
    have HA3 := Lib.hid (acc_le (f := fun j => f j / 3) hfr3)
    have HU := Lib.hid h
    have HF := Lib.hid hF
    have HC := Lib.hid hC
    have K1 := fun w => New_is F C w
    rw [bd_in hF.1 (by omega), bd_in hC.1 (by omega)] at K1
    replace K1 := Lib.hid K1
    have wF : IntKind.i64.wrap F = F := wr (by omega) (by omega)
    have wC : IntKind.i64.wrap C = C := wr (by omega) (by omega)
    clear h hF hC hfr hfr3
    go_enter Try.func5, Try.ntmps5
    go_wp2_with fail
    refine (shown_is _).mono ?_
    rintro e w1 ⟨rfl, hb1⟩
    go_wp2_with fail
    refine (K1.out _).mono ?_
    rintro e w2 ⟨rfl, hb⟩
    have hb2 := hb1.trans (hb.mono hb1.size)
    have s2 : (w2.alloc (.cells #[.int .i64 F, .int .i64 C] 25)).heap.size = w2.heap.size + 1 := by simp
    have s3 : ((w2.alloc (.cells #[.int .i64 F, .int .i64 C] 25)).alloc (.cells #[.int .i64 F, .int .i64 C] 25)).heap.size = w2.heap.size + 1 + 1 := by simp
    have hP : Pt (((w2.alloc (.cells #[.int .i64 F, .int .i64 C] 25)).alloc (.cells #[.int .i64 F, .int .i64 C] 25)).alloc (.cells #[.int .i64 0, .int .i64 0] 25)) w2.heap.size F C F C 0 0 :=
      ⟨((Bt.new 25 w2 F C).alloc _).alloc _, (Bt.new' 25 _ s2.symm F C).alloc _, Bt.new' 25 _ s3.symm 0 0⟩
    have hb3 := ((hb2.alloc hb2.size (.cells #[.int .i64 F, .int .i64 C] 25)).alloc (by have := hb2.size; simp; omega) (.cells #[.int .i64 F, .int .i64 C] 25)).alloc (by have := hb2.size; simp; omega) (.cells #[.int .i64 0, .int .i64 0] 25)
    have hz := hb2.size
    have x0 := (Bt.new 25 w2 F C).c0
    have x1 := (Bt.new 25 w2 F C).c1
    clear hb1 hb hb2 s2 s3
    go_wp2_with fail
    generalize ((w2.alloc (.cells #[.int .i64 F, .int .i64 C] 25)).alloc (.cells #[.int .i64 F, .int .i64 C] 25)).alloc (.cells #[.int .i64 0, .int .i64 0] 25) = w3 at *
    generalize w2.heap.size = g at *
    go_loopw [11, 12] (fun fv iv wz => ∃ (k : Nat) (p q : Int), iv = .int .i64 k ∧ k ≤ n ∧ fv = .bool (canB F C (acc f k) (acc (fun j => f j / 3) k)) ∧ (canB F C (acc f k) (acc (fun j => f j / 3) k) = true → p = F - acc f k ∧ q = C - acc (fun j => f j / 3) k) ∧ Pt wz g F C p q (acc f k) (acc (fun j => f j / 3) k) ∧ Below W.heap.size W wz) (fun _ iv _ => n - (intOf iv).toNat)
    case atStart => exact ⟨0, F, C, rfl, by omega, congrArg Value.bool (show canB F C (acc f 0) (acc (fun j => f j / 3) 0) = true from canB_yes.2 ⟨Int.le_refl 0, HF.out.1, Int.le_refl 0, HC.out.1⟩).symm, fun _ => ⟨(Int.sub_zero F).symm, (Int.sub_zero C).symm⟩, hP, hb3⟩
    case round =>
      obtain ⟨k, p, q, rfl, hk, rfl, hpq, hP1, hb⟩ := hrel
      clear hP hb3 x0 x1
      by_cases hlt : k < n
      · have e2 : (k : Int) < (n : Int) := by omega
        obtain ⟨gb, off, rfl, hc⟩ := HU.out (by omega)
        have c0 := (hb.cell (p := ⟨gb, off + k, none⟩) (World.block_lt_of_cell? W _ (hc k hlt).1)).trans (hc k hlt).1
        have hfk := (hc k hlt).2
        clear hc
        have hs := HA.out k hk
        have ht := HA3.out k hk
        obtain ⟨x3, hx3⟩ : ∃ x3, x3 = f k / 3 := ⟨_, rfl⟩
        have HS := Lib.hid (show acc f k + f k = acc f (k + 1) from rfl)
        have HT := Lib.hid (show acc (fun j => f j / 3) k + x3 = acc (fun j => f j / 3) (k + 1) by rw [hx3]; rfl)
        have HQ := Lib.hid hpq
        clear hpq
        generalize acc f k = s at *
        generalize acc (fun j => f j / 3) k = t at *
        generalize f k = x at *
        have wx : IntKind.i64.wrap x = x := Go.Proofs.Ytjjeikcmnngnjaa.wr (by omega) (by omega)
        have wx3 : IntKind.i64.wrap (x.tdiv 3) = x3 := by rw [Int.tdiv_eq_ediv_of_nonneg (by omega), ← hx3]; exact Go.Proofs.Ytjjeikcmnngnjaa.wr (by omega) (by omega)
        have HX := Lib.hid hx3
        have HK := Lib.hid (And.intro hfk (And.intro hs ht))
        have e3 : ¬ (n : Int) ≤ (k : Int) := by omega
        have e4 : ¬ (k : Int) < 0 := by omega
        have e5 : 0 ≤ x := by omega
        have e6 : x / 3 = x3 := hx3.symm
        clear hx3 hs ht hfk
        have c1 := ((box_below wr (.cells #[.int .i64 0, .int .i64 0] 25)).cell (p := ⟨gb, off + k, none⟩) (World.block_lt_of_cell? wr _ c0)).trans c0
        go_upto_region 11 with fail
        go_region
        obtain ⟨⟨hx0, hx9⟩, ⟨hs0, hs9⟩, ht0, ht9⟩ := HK.out
        have hx30 : 0 ≤ x3 := by have := HX.out; omega
        have hx39 : x3 ≤ 65535 := by have := HX.out; omega
        have hdr : Below wr.heap.size wr (wr.alloc (.cells #[.int .i64 x, .int .i64 x3] 25)).drew := (box_below wr (.cells #[.int .i64 x, .int .i64 x3] 25)).drew
        have hP4 := hP1.on hdr
        have hC4 := (Bt.new 25 wr x x3).drew
        have hb4 := hb.trans (hdr.mono hb.size)
        have hz4 := hb.size
        have hgc : g + 1 + 1 < wr.heap.size := hP1.a.lt
        clear hP1 hb hdr c0 c1 HX HK wx wx3 e3 e4 e5 e6
        generalize (wr.alloc (.cells #[.int .i64 x, .int .i64 x3] 25)).drew = w4 at *
        generalize wr.heap.size = gc at *
        have HN := canB_step (F := F) (C := C) hs0 ht0 hx0 hx30
        have q1 : sm s x = s + x := sm_in hs0 hx0 (by omega)
        have q2 : sm t x3 = t + x3 := sm_in ht0 hx30 (by omega)
        have x0 := hP4.a.c0
        have x1 := hP4.a.c1
        have u0 := hC4.c0
        have u1 := hC4.c1
        go_wp2_with fail
        have hrow := heap_alloc_new w4 (.cells #[.int .i64 s, .int .i64 t, .int .i64 x, .int .i64 x3] 25)
        have KS := Sum2_is (g := w4.heap.size) (c := 2) _ hrow
        rw [q1, q2] at KS
        refine KS.mono ?_
        rintro e w5 ⟨rfl, hq⟩
        have hbl := box_below w4 (.cells #[.int .i64 s, .int .i64 t, .int .i64 x, .int .i64 x3] 25)
        have hP5 := (hP4.on hbl).on hq
        have hC5 := (hC4.on hbl).on hq
        have hb5 := (hb4.trans (hbl.mono hb4.size)).trans (hq.mono (hb4.trans (hbl.mono hb4.size)).size)
        clear hP4 hC4 hb4 hrow KS hq hbl x0 x1 u0 u1 q1 q2
        have y0 := hP5.a.c0
        have y1 := hP5.a.c1
        have f0 := hP5.a.f 0
        have f1 := hP5.a.f 1
        have hP6 := hP5.setA (s + x) (t + x3)
        have hC6 := (hC5.setOther (p := ⟨g + 1 + 1, 0, none⟩) (show gc ≠ g + 1 + 1 by omega) (.int .i64 (s + x))).setOther (p := ⟨g + 1 + 1, 1, none⟩) (show gc ≠ g + 1 + 1 by omega) (.int .i64 (t + x3))
        have hb6 := below_made hb5 (g := g + 1 + 1) (by omega) (.int .i64 (s + x)) (.int .i64 (t + x3))
        clear hP5 hC5 hb5
        generalize canB F C s t = cb at *
        rcases cb with _ | _
        · replace hP6 := Lib.hid hP6
          replace hb6 := Lib.hid hb6
          replace HN := Lib.hid HN
          clear hC6
          go_wp2_with fail
          go_roundw
          case rel =>
            replace HN := HN.out
            rw [Bool.false_and] at HN
            exact ⟨k + 1, p, q, by go_num, by omega, by rw [← HS.out, ← HT.out, HN], (fun h => by rw [← HS.out, ← HT.out, HN] at h; exact absurd h (by decide)), by rw [← HS.out, ← HT.out]; exact hP6.out, hb6.out⟩
          case measure => simp [intOf]; omega
        · have hpq := HQ.out rfl
          have hFo := HF.out
          have hCo := HC.out
          have KP := fun w => Pay_is (x := p) (y := q) x x3 (by omega) (by omega) w
          have x0 := hP6.l.c0
          have x1 := hP6.l.c1
          have u0 := hC6.c0
          have u1 := hC6.c1
          rw [← hpq.1, ← hpq.2] at HN
          replace hP6 := Lib.hid hP6
          replace hb6 := Lib.hid hb6
          replace HN := Lib.hid HN
          have HPQ := Lib.hid hpq
          clear hC6 HQ
          rcases Bool.eq_false_or_eq_true (canB p q x x3) with hc2 | hc2
          · have hcx := canB_yes.1 hc2
            have w8 : IntKind.i64.wrap (p - x) = p - x := Go.Proofs.Ytjjeikcmnngnjaa.wr (by omega) (by omega)
            have w9 : IntKind.i64.wrap (q - x3) = q - x3 := Go.Proofs.Ytjjeikcmnngnjaa.wr (by omega) (by omega)
            clear hcx hpq hFo hCo
            rw [pay_ok hc2] at KP
            replace hc2 := Lib.hid hc2
            simp only [lf, if_true] at KP
            replace KP := Lib.hid KP
            go_wp2_with fail
            refine (KP.out _).mono ?_
            rintro e w7 ⟨rfl, hq⟩
            have hP7 := (hP6.out.on hq).on (box_below w7 (.cells #[.int .i64 (p - x), .int .i64 (q - x3)] 25))
            have hX7 := Bt.new 25 w7 (p - x) (q - x3)
            have hb7 := (hb6.out.trans (hq.mono hb6.out.size)).alloc (Nat.le_trans hb6.out.size hq.size) (.cells #[.int .i64 (p - x), .int .i64 (q - x3)] 25)
            have y0 := hP7.l.c0
            have y1 := hP7.l.c1
            have f0 := hP7.l.f 0
            have f1 := hP7.l.f 1
            have z0 := hX7.c0
            have z1 := hX7.c1
            clear hP6 hq hb6 x0 x1 u0 u1
            have hP8 := Lib.hid (hP7.setL (p - x) (q - x3))
            have hb8 := Lib.hid (below_made hb7 (g := g + 1) (by omega) (.int .i64 (p - x)) (.int .i64 (q - x3)))
            clear hb7 hP7 hX7
            go_wp2_with fail
            go_roundw
            case rel =>
              replace HN := HN.out
              rw [hc2.out, Bool.and_true] at HN
              exact ⟨k + 1, p - x, q - x3, by go_num, by omega, by rw [← HS.out, ← HT.out, HN], (fun _ => by rw [← HS.out, ← HT.out]; have := HPQ.out; omega), by rw [← HS.out, ← HT.out]; exact hP8.out, hb8.out⟩
            case measure => simp [intOf]; omega
          · rw [pay_limit (by omega) hc2] at KP
            replace hc2 := Lib.hid hc2
            clear hpq hFo hCo
            simp only [lf, show ¬ (9 : Int) = 0 by decide, if_false] at KP
            replace KP := Lib.hid KP
            go_wp2_with fail
            refine (KP.out _).mono ?_
            rintro e w7 ⟨rfl, hq⟩
            have hP7 := (hP6.out.on hq).on (box_below w7 (.cells #[.int .i64 0, .int .i64 0] 25))
            have hb7 := (hb6.out.trans (hq.mono hb6.out.size)).alloc (Nat.le_trans hb6.out.size hq.size) (.cells #[.int .i64 0, .int .i64 0] 25)
            clear hP6 hq hb6 x0 x1 u0 u1
            go_wp2_with fail
            go_roundw
            case rel =>
              replace HN := HN.out
              rw [hc2.out, Bool.and_false] at HN
              exact ⟨k + 1, p, q, by go_num, by omega, by rw [← HS.out, ← HT.out, HN], (fun h => by rw [← HS.out, ← HT.out, HN] at h; exact absurd h (by decide)), by rw [← HS.out, ← HT.out]; exact hP7, hb7⟩
            case measure => simp [intOf]; omega
      · have e2 : ¬ (k : Int) < (n : Int) := by omega
        obtain rfl : k = n := by omega
        have hs := HA.out k hk
        have ht := HA3.out k hk
        generalize acc f k = s at *
        generalize acc (fun j => f j / 3) k = t at *
        have hFo := HF.out
        have hCo := HC.out
        have KP := fun w => Pay_is (x := F) (y := C) s t (by omega) (by omega) w
        have KC := fun w => Can_is F C s t w
        have x0 := hP1.b.c0
        have x1 := hP1.b.c1
        have u0 := hP1.a.c0
        have u1 := hP1.a.c1
        clear hFo hCo
        rcases Bool.eq_false_or_eq_true (canB F C s t) with hc2 | hc2
        · obtain ⟨hp1, hp2⟩ := hpq hc2
          rw [hc2]
          rw [pay_ok hc2] at KP
          simp only [lf, if_true, ← hp1, ← hp2] at KP
          rw [hc2] at KC
          replace KP := Lib.hid KP
          replace KC := Lib.hid KC
          clear hs ht hpq hp1 hp2 hc2
          go_wp2_with fail
          refine (KP.out _).mono ?_
          rintro e w5 ⟨rfl, hq⟩
          have hP2 := (hP1.on hq).on (box_below w5 (.cells #[.int .i64 p, .int .i64 q] 25))
          have hY := Bt.new 25 w5 p q
          have hb2 := (hb.trans (hq.mono hb.size)).alloc (Nat.le_trans hb.size hq.size) (.cells #[.int .i64 p, .int .i64 q] 25)
          clear hP1 hb hq x0 x1 u0 u1
          have x0 := hP2.b.c0
          have x1 := hP2.b.c1
          have u0 := hP2.a.c0
          have u1 := hP2.a.c1
          have y0 := hP2.l.c0
          have y1 := hP2.l.c1
          have z0 := hY.c0
          have z1 := hY.c1
          go_wp2_with fail
          refine (KC.out _).mono ?_
          rintro e w6 ⟨rfl, hq⟩
          go_wp2_with fail
          go_ret
          exact ⟨rfl, hb2.trans (hq.mono hb2.size)⟩
        · rw [hc2]
          rw [pay_limit (by omega) hc2] at KP
          simp only [lf, show ¬ (9 : Int) = 0 by decide, if_false] at KP
          rw [hc2] at KC
          replace KP := Lib.hid KP
          replace KC := Lib.hid KC
          clear hs ht hpq hc2
          go_wp2_with fail
          refine (KP.out _).mono ?_
          rintro e w5 ⟨rfl, hq⟩
          have hP2 := (hP1.on hq).on (box_below w5 (.cells #[.int .i64 0, .int .i64 0] 25))
          have hY := Bt.new 25 w5 0 0
          have hb2 := (hb.trans (hq.mono hb.size)).alloc (Nat.le_trans hb.size hq.size) (.cells #[.int .i64 0, .int .i64 0] 25)
          clear hP1 hb hq x0 x1 u0 u1
          have x0 := hP2.b.c0
          have x1 := hP2.b.c1
          have u0 := hP2.a.c0
          have u1 := hP2.a.c1
          have y0 := hP2.l.c0
          have y1 := hP2.l.c1
          have z0 := hY.c0
          have z1 := hY.c1
          go_wp2_with fail
          refine (KC.out _).mono ?_
          rintro e w6 ⟨rfl, hq⟩
          go_wp2_with fail
          go_ret
          exact ⟨rfl, hb2.trans (hq.mono hb2.size)⟩
  · have e1 : (200 : Int) < (n : Int) := by omega
    clear h
    go_enter Try.func5, Try.ntmps5
    go_wp2_with fail
    refine (shown_is _).mono ?_
    rintro e w1 ⟨rfl, hb1⟩
    go_wp2_with fail
    go_ret
    exact ⟨rfl, hb1⟩
end Go.Proofs.Ytjjeikcmnngnjaa

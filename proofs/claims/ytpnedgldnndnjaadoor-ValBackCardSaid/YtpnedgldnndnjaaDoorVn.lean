/-
  ValBack at every array.
-/
import Derived.Test.YtpnedgldnndnjaaDoorVm
import Derived.Deep.RegionHeld3
import Derived.Deep.DeepCutAuto
namespace Go.Proofs.YtpnedgldnndnjaaDoor
open Go.RowKit

theorem may_parts {l : List Int} {es : List ByteArray} (h : mayV l es = true) : ∃ q e : Nat, itV l = (q : Int) ∧ es.length = q * e ∧ (∀ i, i < q → mayV l.tail (part es e i) = true) ∧ szE ((q : Int) :: l.tail) = 0 ∧ (l.length = 0 → q = 1 ∧ e = es.length) ∧ (l.length ≠ 0 → (q : Int) :: l.tail = l) ∧ l.length ≤ 3 := by
  obtain ⟨h1, h2, h3⟩ := mayV_yes.1 h
  have hm := szE_may.1 h1
  have hall : ∀ (q e i : Nat), es.length = q * e → i < q → ∀ j, j < (part es e i).length → mayL ((part es e i).getD j ByteArray.empty).data.toList = true := by
    intro q e i hq hi j hj
    obtain ⟨g1, g2, _⟩ := item_sum hi hq
    rw [part_length g1] at hj
    rw [part_get hj]
    exact h3 _ (by omega)
  cases l with
  | nil =>
    refine ⟨1, es.length, rfl, by omega, fun i hi => ?_, by decide, fun _ => ⟨rfl, rfl⟩, fun h => absurd rfl h, by simp⟩
    obtain ⟨g1, _, _⟩ := item_sum hi (show es.length = 1 * es.length by omega)
    exact mayV_yes.2 ⟨by decide, by rw [part_length g1]; exact h2, hall 1 es.length i (by omega) hi⟩
  | cons x r =>
    have hx := hm.nn 0 (by simp)
    simp only [List.getD_cons_zero] at hx
    have hr : ∀ j, j < r.length → 0 ≤ r.getD j 0 := fun j hj => by have := hm.nn (j + 1) (by simpa using hj); simpa using this
    have hp := pr_nonneg hr
    have e1 : ((x.toNat : Nat) : Int) = x := Int.toNat_of_nonneg hx
    have e2 : (((pr r).toNat : Nat) : Int) = pr r := Int.toNat_of_nonneg hp
    have e3 : es.length = x.toNat * (pr r).toNat := by
      have : (es.length : Int) = ((x.toNat * (pr r).toNat : Nat) : Int) := by rw [h2, Int.natCast_mul, e1, e2]; rfl
      omega
    refine ⟨x.toNat, (pr r).toNat, by rw [e1]; rfl, e3, fun i hi => ?_, by rw [e1]; exact h1, fun h => by simp at h, fun _ => by rw [e1]; rfl, hm.len⟩
    obtain ⟨g1, _, _⟩ := item_sum hi e3
    have ht := (items_of hm (by simp)).2 (by show x ≠ 0; omega)
    refine mayV_yes.2 ⟨szE_may.2 ht, ?_, hall _ _ i e3 hi⟩
    rw [part_length g1, e2]; rfl
set_option maxRecDepth 100000 in
set_option maxHeartbeats 3200000 in
theorem back_any {a b : Option Addr} {n c m d : Nat} {l : List Int} {es : List ByteArray} (W : World) (h : Vl W a n b m l es) (hcp : Cp n c m d) (hz : ∀ j, j < m → (es.getD j ByteArray.empty).size ≤ maxLen) (ht : WT W) :
    Calls Tryd.prog 3 #[.agg #[.slice a n c, .slice b m d]] W (TrueEnd W) := by
  have KF := Lib.hid (fun w (hb : Below W.heap.size W w) => Few_is (c := c) (d := d) w (h.below hb) hz)
  have KM := Lib.hid (fun w (hb : Below W.heap.size W w) => VMay_is (c := c) (d := d) w (h.below hb) hz)
  have HW := Lib.hid ht
  have H := Lib.hid h
  have HC := Lib.hid hcp
  have HZ := Lib.hid hz
  clear h hcp hz ht
  have hA := Bx.new W a n c b m d
  have hb0 : Below W.heap.size W (W.alloc (.cells #[.slice a n c, .slice b m d] 25)) := (Below.refl _ _).alloc (Nat.le_refl _) _
  by_cases hfa : fewB l es = false
  · rw [hfa] at KF
    clear hfa KM H HC HZ
    go_enter Tryd.func3, Tryd.ntmps3
    go_wp2_with fail
    refine (shown_is _ (HW.out.below hb0)).mono ?_
    rintro y w1 ⟨rfl, hb⟩
    have hA1 := hA.below hb hA.lt
    have hb1 := hb0.trans (hb.mono hb0.size)
    clear hA hb0 hb
    have x0 := hA1.c0
    have x1 := hA1.c1
    go_wp2_with fail
    refine (KF.out _ hb1).mono ?_
    rintro y w2 ⟨rfl, hb⟩
    go_wp2_with fail
    go_ret
    exact ⟨rfl, hb1.trans (hb.mono hb1.size)⟩
  have hfa : fewB l es = true := by simpa using hfa
  obtain ⟨f1, f2, f3⟩ := fewB_yes hfa
  rw [H.out.s.1] at f1
  rw [H.out.t.1] at f2 f3
  rw [hfa] at KF
  clear hfa
  by_cases hmy : mayV l es = false
  · rw [hmy] at KM
    clear hmy H HC HZ f3
    go_enter Tryd.func3, Tryd.ntmps3
    go_wp2_with fail
    refine (shown_is _ (HW.out.below hb0)).mono ?_
    rintro y w1 ⟨rfl, hb⟩
    have hA1 := hA.below hb hA.lt
    have hb1 := hb0.trans (hb.mono hb0.size)
    clear hA hb0 hb
    have x0 := hA1.c0
    have x1 := hA1.c1
    go_wp2_with fail
    refine (KF.out _ hb1).mono ?_
    rintro y w2 ⟨rfl, hb⟩
    have hA2 := hA1.below hb hA1.lt
    have hb2 := hb1.trans (hb.mono hb1.size)
    clear hA1 hb1 hb x0 x1
    have x0 := hA2.c0
    have x1 := hA2.c1
    go_wp2_with fail
    refine (KM.out _ hb2).mono ?_
    rintro y w3 ⟨rfl, hb⟩
    go_wp2_with fail
    go_ret
    exact ⟨rfl, hb2.trans (hb.mono hb2.size)⟩
  have hmy : mayV l es = true := by simpa using hmy
  obtain ⟨q, e, hq, hqe, hparts, hsz, hzero, hcons, hl3⟩ := may_parts hmy
  have KY := fun w (hb : Below W.heap.size W w) => VMany_is (c := c) (d := d) w (H.out.below hb) f1 HC.out.nc HC.out.cm
  rw [hq] at KY
  replace KY := Lib.hid KY
  have KI := Lib.hid (fun w (hb : Below W.heap.size W w) k (hk : k < q) => Item_yes (c := c) (d := d) w (H.out.below hb) HC.out f1 (by omega) HZ.out hmy q e k hq hk (by rw [← hqe, H.out.t.1]))
  have KN := Lib.hid (fun w (hb : Below W.heap.size W w) => Item_no (c := c) (d := d) w (H.out.below hb) HC.out f1 q (.inr (by rw [hq]; exact Int.le_refl _)))
  have KP := Lib.hid (fun w k (hk : k < q) a n c b m' d (hV : Vl w a n b m' l.tail (part es e k)) => VMay_is (c := c) (d := d) w hV (fun j hj => by
    obtain ⟨g1, g2, _⟩ := item_sum hk hqe
    have hpl := part_length g1
    have := hV.t.1
    rw [part_get (by omega)]
    exact HZ.out _ (by have := H.out.t.1; omega)))
  have HPT := Lib.hid hparts
  have HF := Lib.hid (And.intro hqe (And.intro hsz (And.intro hzero (And.intro hcons hl3))))
  rw [hmy] at KM
  clear hq hqe hparts hsz hzero hcons hmy f3
  by_cases hq3 : 300 < q
  · have e1 : (300 : Int) < (q : Int) := by omega
    go_enter Tryd.func3, Tryd.ntmps3
    go_wp2_with fail
    refine (shown_is _ (HW.out.below hb0)).mono ?_
    rintro y w1 ⟨rfl, hb⟩
    have hA1 := hA.below hb hA.lt
    have hb1 := hb0.trans (hb.mono hb0.size)
    clear hA hb0 hb
    have x0 := hA1.c0
    have x1 := hA1.c1
    go_wp2_with fail
    refine (KF.out _ hb1).mono ?_
    rintro y w2 ⟨rfl, hb⟩
    have hA2 := hA1.below hb hA1.lt
    have hb2 := hb1.trans (hb.mono hb1.size)
    clear hA1 hb1 hb x0 x1
    have x0 := hA2.c0
    have x1 := hA2.c1
    go_wp2_with fail
    refine (KM.out _ hb2).mono ?_
    rintro y w3 ⟨rfl, hb⟩
    have hA3 := hA2.below hb hA2.lt
    have hb3 := hb2.trans (hb.mono hb2.size)
    clear hA2 hb2 hb x0 x1
    have x0 := hA3.c0
    have x1 := hA3.c1
    go_wp2_with fail
    refine (KY.out _ hb3).mono ?_
    rintro y w4 ⟨rfl, hb⟩
    go_wp2_with fail
    go_ret
    exact ⟨rfl, hb3.trans (hb.mono hb3.size)⟩
  have e1 : ¬ (300 : Int) < (q : Int) := by omega
  go_enter Tryd.func3, Tryd.ntmps3
  go_wp2_with fail
  refine (shown_is _ (HW.out.below hb0)).mono ?_
  rintro y w1 ⟨rfl, hb⟩
  have hA1 := hA.below hb hA.lt
  have hb1 := hb0.trans (hb.mono hb0.size)
  clear hA hb0 hb
  have x0 := hA1.c0
  have x1 := hA1.c1
  go_wp2_with fail
  refine (KF.out _ hb1).mono ?_
  rintro y w2 ⟨rfl, hb⟩
  have hA2 := hA1.below hb hA1.lt
  have hb2 := hb1.trans (hb.mono hb1.size)
  clear hA1 hb1 hb x0 x1
  have x0 := hA2.c0
  have x1 := hA2.c1
  go_wp2_with fail
  refine (KM.out _ hb2).mono ?_
  rintro y w3 ⟨rfl, hb⟩
  have hA3 := hA2.below hb hA2.lt
  have hb3 := hb2.trans (hb.mono hb2.size)
  clear hA2 hb2 hb x0 x1
  have x0 := hA3.c0
  have x1 := hA3.c1
  go_wp2_with fail
  refine (KY.out _ hb3).mono ?_
  rintro y w4 ⟨rfl, hb⟩
  have hA4 := hA3.below hb hA3.lt
  have hb4 := hb3.trans (hb.mono hb3.size)
  have hH4 : W.heap.size < w4.heap.size := hA4.lt
  clear hA3 hb3 hb x0 x1
  go_wp2_with fail
  go_loopw [5, 6] (fun ev i wr => ∃ k : Nat, i = .int .i64 k ∧ k ≤ q ∧ Iw wr w4.heap.size ev k l.tail (part es e) ∧ Below w4.heap.size w4 wr) (fun _ i _ => q - (intOf i).toNat)
  case atStart => exact ⟨0, rfl, by omega, Iw.nil _ _ _ _, Below.refl _ _⟩
  case round =>
    obtain ⟨k, rfl, hk, hI, hbw⟩ := hrel
    have hAr := hA4.below hbw hH4
    have hbr := hb4.trans (hbw.mono hb4.size)
    have x0 := hAr.c0
    have x1 := hAr.c1
    by_cases hlt : k < q
    · have e2 : (k : Int) < (q : Int) := by omega
      go_wp2_with fail
      refine (KI.out _ hbr k hlt).mono ?_
      rintro y w5 ⟨a5, n5, c5, b5, m5, d5, rfl, hV5, hn5, hb⟩
      have hbx : Below wr.heap.size wr (w5.alloc (.cells #[.slice a5 n5 c5, .slice b5 m5 d5] 25)) := hb.alloc hb.size _
      have hX6 := Bx.new w5 a5 n5 c5 b5 m5 d5
      have hV6 := hV5.below ((Below.refl w5.heap.size w5).alloc (Nat.le_refl _) (.cells #[.slice a5 n5 c5, .slice b5 m5 d5] 25))
      have hI6 := hI.below hbx
      have hb6 := hbw.trans (hbx.mono hbw.size)
      have KPk := KP.out (w5.alloc (.cells #[.slice a5 n5 c5, .slice b5 m5 d5] 25)) k hlt a5 n5 c5 b5 m5 d5 hV6
      rw [HPT.out k hlt] at KPk
      replace KPk := Lib.hid KPk
      have z0 := hX6.c0
      have z1 := hX6.c1
      clear hI hbw hAr hbr x0 x1 hV5 hb hbx
      go_wp2_with fail
      refine KPk.out.mono ?_
      rintro y w7 ⟨rfl, hb⟩
      have hX7 := hX6.below hb hX6.lt
      have hV7 := hV6.below hb
      have hI7 := hI6.below hb
      have hb7 := hb6.trans (hb.mono hb6.size)
      clear KPk hX6 hV6 hI6 hb6 hb z0 z1
      have z0 := hX7.c0
      have z1 := hX7.c1
      have hal : Below w7.heap.size w7 (w7.alloc (.cells #[.slice a5 n5 c5, .slice b5 m5 d5] 25)) := (Below.refl _ _).alloc (Nat.le_refl _) _
      have hI8 := Lib.hid (hI7.below hal)
      have hV8 := Lib.hid (hV7.below hal)
      have hb8 := hb7.trans (hal.mono hb7.size)
      have hX8 := Bx.new w7 a5 n5 c5 b5 m5 d5
      have hs8 := hb8.size
      clear hI7 hV7 hal
      go_wp2_with (at_builtin; refine wpList_append_val rfl (.tmp 46) (.tmp 48) rfl hI8.out hs8 hX8 hV8.out (by omega) rfl rfl ?_; intro av cv w9 hI9 hb9)
      have hb10 := hb8.trans hb9
      go_wp2_with fail
      go_roundw
      case rel => exact ⟨k + 1, by go_num, by omega, hI9, hb10⟩
      case measure => simp [intOf]; omega
    · have e2 : ¬ (k : Int) < (q : Int) := by omega
      obtain rfl : q = k := by omega
      go_wp2_with fail
      refine (KN.out _ hbr).mono ?_
      rintro y w5 ⟨rfl, hb⟩
      have hbx : Below wr.heap.size wr (w5.alloc (.cells #[.slice none 0 0, .slice none 0 0] 25)) := hb.alloc hb.size _
      have hI6 := hI.below hbx
      have hA6 := hAr.below hbx hAr.lt
      have hb6 := hbr.trans (hbx.mono hbr.size)
      clear hI hbw hAr hbr x0 x1 hb hbx hA4 hb4 e2 KP KI
      by_cases hq0 : q = 0
      · subst hq0
        have e3 : ((0 : Nat) : Int) = 0 := rfl
        clear hI6
        go_wp2_with fail
        go_ret
        exact ⟨rfl, hb6⟩
      have e3 : ((q : Int) == 0) = false := beq_eq_false_iff_ne.2 (by omega)
      obtain ⟨av, cv, rfl, hit⟩ := hI6.its
      have htl : l.tail.length ≤ 20 := by rw [List.length_tail]; omega
      have hcat := cat_part es e q
      rw [← HF.out.1, List.take_of_length_le (Nat.le_refl _)] at hcat
      have KJ := Join_is (w5.alloc (.cells #[.slice none 0 0, .slice none 0 0] 25)) hit (cv := cv) (by omega) (by omega) htl HF.out.2.1 (by rw [hcat, H.out.t.1]; omega)
      rw [hcat] at KJ
      replace KJ := Lib.hid KJ
      have HIT := Lib.hid hit
      clear hit hcat hI6 htl
      go_wp2_with fail
      refine KJ.out.mono ?_
      rintro y w7 ⟨a7, n7, c7, b7, m7, d7, rfl, hV7, hn7, hb⟩
      have hA7 := hA6.below hb hA6.lt
      have hIT7 := HIT.out.below hb
      have hb7 := hb6.trans (hb.mono hb6.size)
      have hX7 := Bx.new w7 a7 n7 c7 b7 m7 d7
      have hal : Below w7.heap.size w7 (w7.alloc (.cells #[.slice a7 n7 c7, .slice b7 m7 d7] 25)) := (Below.refl _ _).alloc (Nat.le_refl _) _
      have hV8 := hV7.below hal
      have hIT8 := hIT7.below hal
      have hA8 := hA7.below hal hA7.lt
      have hb8 := hb7.trans (hal.mono hb7.size)
      clear KJ HIT hA6 hb6 hb hA7 hIT7 hb7 hV7 hal
      have x0 := hA8.c0
      have x1 := hA8.c1
      have z0 := hX7.c0
      have z1 := hX7.c1
      by_cases hn : n = 0
      · subst hn
        have hl0 : l = [] := List.eq_nil_of_length_eq_zero H.out.s.1
        subst hl0
        obtain ⟨rfl, rfl⟩ := HF.out.2.2.1 rfl
        obtain ⟨g, rfl, hit⟩ := hIT8 (by omega)
        obtain ⟨a9, n9, c9, b9, m9, d9, q0, q1, hV9⟩ := hit 0 (by omega)
        rw [show 0 * 2 = 0 from rfl] at q0 q1
        have hp0 : part es es.length 0 = es := by unfold part; simp
        rw [hp0] at hV9
        obtain rfl : 0 = n9 := hV9.s.1
        clear hit hIT8
        go_upto_region 20 with fail
        generalize hw8 : w7.alloc (.cells #[.slice a7 n7 c7, .slice b7 m7 d7] 25) = w8 at *
        have K9 := fun w (hw : Below w8.heap.size w8 w) => (VSame_is (c1 := c9) (d1 := d9) (c2 := c) (d2 := d) w (hV9.below hw) ((H.out.below hb8).below hw) (by omega) (by omega)).mono fun e w' h => (⟨h.1, hw.trans (h.2.mono hw.size)⟩ : e = _ ∧ Below w8.heap.size w8 w')
        rw [show (([] : List Int).tail == []) = true from rfl, show decide (es = es) = true by simp] at K9
        replace K9 := Lib.hid K9
        have l1 : W.heap.size < w8.heap.size := hA8.lt
        have l2 : g < w8.heap.size := World.block_lt_of_cell? w8 _ q0
        have hq : Below w8.heap.size w8 w8 := Below.refl _ _
        clear hV8 hV9 hA8 hX7 z0 z1 hw8 hp0
        go_region_held3 (fun w' => w'.cell? ⟨W.heap.size, 0, none⟩ = some (.slice a 0 c) ∧ w'.cell? ⟨W.heap.size, 1, none⟩ = some (.slice b m d) ∧ w'.cell? ⟨g, 0, none⟩ = some (.slice a9 0 c9) ∧ w'.cell? ⟨g, 1, none⟩ = some (.slice b9 m9 d9))
          (first | exact ⟨(Below.cell (p := ⟨W.heap.size, 0, none⟩) (by repeat' (first | exact hq | refine Below.drew ?_ | refine below_drewN ?_ _)) l1).trans x0, (Below.cell (p := ⟨W.heap.size, 1, none⟩) (by repeat' (first | exact hq | refine Below.drew ?_ | refine below_drewN ?_ _)) l1).trans x1, (Below.cell (p := ⟨g, 0, none⟩) (by repeat' (first | exact hq | refine Below.drew ?_ | refine below_drewN ?_ _)) l2).trans q0, (Below.cell (p := ⟨g, 1, none⟩) (by repeat' (first | exact hq | refine Below.drew ?_ | refine below_drewN ?_ _)) l2).trans q1⟩ | fail)
          (first | (go_at_call 13; (with_reducible refine (K9.out _ (by repeat' (first | exact hq | refine Below.drew ?_ | refine below_drewN ?_ _))).mono ?_); rintro y wq ⟨rfl, hq⟩))
        go_wp2_with fail
        go_ret
        exact ⟨rfl, hb8.trans (hq.mono hb8.size)⟩
      · have hne : l.length ≠ 0 := by rw [H.out.s.1]; exact hn
        have hl := HF.out.2.2.2.1 hne
        rw [hl] at hV8
        have K9 := VSame_is (c1 := c7) (d1 := d7) (c2 := c) (d2 := d) _ hV8 (H.out.below hb8) (by omega) (by omega)
        rw [show (l == l) = true by simp, show decide (es = es) = true by simp] at K9
        replace K9 := Lib.hid K9
        have e4 : ((n : Int) == 0) = false := beq_eq_false_iff_ne.2 (by omega)
        clear hIT8 hV8 hA8 hX7 hl hne
        go_wp2_with fail
        refine K9.out.mono ?_
        rintro y w9 ⟨rfl, hb⟩
        go_wp2_with fail
        go_ret
        exact ⟨rfl, hb8.trans (hb.mono hb8.size)⟩
end Go.Proofs.YtpnedgldnndnjaaDoor

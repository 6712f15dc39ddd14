import Derived.Test.YtomkjmhebnecbaaGreatDoorMan
import Derived.Test.YtomkjmhebnecbaaGreatDoorMbc
import Derived.Lib.Bytealg
/-
  Of lex, the reference: a part as a number, a number as a part; joined by shake.py out of the texts of stage 7.
-/
namespace Go.Proofs.YtomkjmhebnecbaaGreatDoor
set_option linter.unusedVariables false
set_option linter.unusedSimpArgs false
section
open Go.RowKit
theorem rMay_tx (l : List UInt8) (h : l.length ≤ 140737488355328) (v : Bool) (hv : mayL l = v) (w : World) : Calls Tryz.prog 32 #[.string (tx l)] w (TBoolEnd v w) := by
  have := rMay_any (tx l) (by rw [tx_size]; unfold maxLen; omega) w
  rw [tx_list, hv] at this
  exact this
theorem tx_empty (l : List UInt8) : (tx l).toList.isEmpty = l.isEmpty := by rw [str_tl, tx_list]
theorem tx_get0 (c : UInt8) (r : List UInt8) (h : 0 < (tx (c :: r)).size) : (tx (c :: r))[0] = c := rfl
theorem tx_drop1 (c : UInt8) (r : List UInt8) : (tx (c :: r)).extract 1 (r.length + 1) = tx r := bytes_ext (by
  rw [extract_list, tx_list, tx_list]
  simp)
set_option maxHeartbeats 1600000 in
theorem rNumber_is (l : List UInt8) (h : l.length ≤ 140737488355327) (w : World) : Calls Tryz.prog 54 #[.string (tx l)] w (PairEnd (numT l) (numB l) w) := by
  cases l with
  | nil =>
    have KM := Lib.hid (rMay_tx [] (by simp) false (by decide) w)
    have e0 := Lib.hid (show numB [] = false by decide)
    have e1 := Lib.hid (show numT [] = [] by decide)
    have he := tx_empty []
    rw [show ([] : List UInt8).isEmpty = true from rfl] at he
    rw [e0.out, e1.out]
    have HX := Lib.hid (show (⟨#[]⟩ : ByteArray) = tx [] from rfl)
    rw [← HX.out] at KM
    go_enter Tryz.func54, Tryz.ntmps54
    go_wp2_with fail
    refine KM.out.mono ?_
    rintro e w1 ⟨rfl, rfl⟩
    go_wp2_with fail
    go_ret2
    exact ⟨rfl, rfl⟩
  | cons c r =>
    have he := tx_empty (c :: r)
    rw [show (c :: r).isEmpty = false from rfl] at he
    have hl : r.length + 1 ≤ 140737488355327 := h
    have hp : 0 < (tx (c :: r)).size := by rw [tx_size]; simp
    have h00 := tx_get0 c r hp
    by_cases h1 : c = 45
    · subst h1
      have e0 := Lib.hid (show numB (45 :: r) = false by unfold numB; rfl)
      have e1 := Lib.hid (show numT (45 :: r) = [] by unfold numT; rw [e0.out]; rfl)
      have e2 : (((tx (45 :: r))[0].toNat : Int) == 45) = true := by rw [h00]; rfl
      have e3 : (((tx (45 :: r))[0].toNat : Int) == 95) = false := by rw [h00]; rfl
      rw [e0.out, e1.out]
      clear h h00
      generalize tx (45 :: r) = s at *
      go_enter Tryz.func54, Tryz.ntmps54
      go_wp2_with fail
      go_ret2
      exact ⟨rfl, rfl⟩
    · have hh : ((c :: r).head? == some 45) = false := beq_eq_false_iff_ne.2 (fun h => h1 (Option.some.inj h))
      have g1 : ((c.toNat : Int) == 45) = false := beq_false_of_ne (fun h => h1 (UInt8.toNat_inj.1 (by simp; omega)))
      have e2 : (((tx (c :: r))[0].toNat : Int) == 45) = false := by rw [h00]; exact g1
      by_cases h2 : c = 95
      · subst h2
        have e3 : (((tx (95 :: r))[0].toNat : Int) == 95) = true := by rw [h00]; rfl
        have e0 := Lib.hid (show numB (95 :: r) = mayL (45 :: r) by unfold numB; rw [hh]; rfl)
        have hc : (⟨#[45]⟩ : ByteArray) ++ tx r = tx (45 :: r) := tx_cat [45] r
        have KM := Lib.hid (rMay_tx (45 :: r) (by simp; omega) (mayL (45 :: r)) rfl w)
        have ez := Lib.hid (show numT (95 :: r) = if mayL (45 :: r) then 45 :: r else [] by unfold numT; rw [e0.out]; rfl)
        have hx := tx_drop1 95 r
        rw [e0.out, ez.out]
        rw [← hc] at KM
        have HC := Lib.hid hc
        have hq : (tx (95 :: r)).size = r.length + 1 := rfl
        have hzr : (tx r).size ≤ 140737488355327 := by rw [tx_size]; omega
        rw [← hq] at hx
        have hzs : (tx (95 :: r)).size ≤ 140737488355327 := by rw [hq]; omega
        clear hh g1 hc hq h00
        generalize tx (95 :: r) = s at *
        rcases hb : mayL (45 :: r) with _ | _
        all_goals
          rw [hb] at KM
          clear hb
          go_enter Tryz.func54, Tryz.ntmps54
          go_wp2_with fail
          refine KM.out.mono ?_
          rintro e w1 ⟨rfl, rfl⟩
          go_wp2_with fail
          go_ret2
          first | exact ⟨rfl, rfl⟩ | exact ⟨by rw [HC.out]; rfl, rfl⟩
      · have g2 : ((c.toNat : Int) == 95) = false := beq_false_of_ne (fun h => h2 (UInt8.toNat_inj.1 (by simp; omega)))
        have e3 : (((tx (c :: r))[0].toNat : Int) == 95) = false := by rw [h00]; exact g2
        have hsw : swapN (c :: r) = c :: r := if_neg h2
        have e0 := Lib.hid (show numB (c :: r) = mayL (c :: r) by unfold numB; rw [hh, hsw]; rfl)
        have KM := Lib.hid (rMay_tx (c :: r) (by simp; omega) (mayL (c :: r)) rfl w)
        have ez := Lib.hid (show numT (c :: r) = if mayL (c :: r) then c :: r else [] by unfold numT; rw [e0.out, hsw])
        rw [e0.out, ez.out]
        clear h1 hh h2 hsw g1 g2 h00
        rcases hb : mayL (c :: r) with _ | _
        all_goals
          rw [hb] at KM
          clear hb
          go_enter Tryz.func54, Tryz.ntmps54
          go_wp2_with fail
          refine KM.out.mono ?_
          rintro e w1 ⟨rfl, rfl⟩
          go_wp2_with fail
          go_ret2
          exact ⟨rfl, rfl⟩
set_option maxHeartbeats 1600000 in
theorem rLiteral_is (l : List UInt8) (h : l.length ≤ 140737488355327) (w : World) : Calls Tryz.prog 33 #[.string (tx l)] w (PairEnd (litT l) (mayL l) w) := by
  have KM := Lib.hid (rMay_tx l (by omega) (mayL l) rfl w)
  have e0 := Lib.hid (show litT l = if mayL l then swapL l else [] from rfl)
  rw [e0.out]
  clear e0
  rcases hb : mayL l with _ | _
  · rw [hb] at KM
    clear hb
    generalize tx l = s at *
    go_enter Tryz.func33, Tryz.ntmps33
    go_wp2_with fail
    refine KM.out.mono ?_
    rintro e w1 ⟨rfl, rfl⟩
    go_wp2_with fail
    go_ret2
    exact ⟨rfl, rfl⟩
  · rw [hb] at KM
    cases l with
    | nil => exact absurd hb (by decide)
    | cons c r =>
      clear hb
      have hl : r.length + 1 ≤ 140737488355327 := h
      have hp : 0 < (tx (c :: r)).size := by rw [tx_size]; simp
      have h00 := tx_get0 c r hp
      by_cases h2 : c = 45
      · subst h2
        have e3 : (((tx (45 :: r))[0].toNat : Int) == 45) = true := by rw [h00]; rfl
        have hc : (⟨#[95]⟩ : ByteArray) ++ tx r = tx (95 :: r) := tx_cat [95] r
        have HC := Lib.hid hc
        have hx := tx_drop1 45 r
        have hq : (tx (45 :: r)).size = r.length + 1 := rfl
        have hzr : (tx r).size ≤ 140737488355327 := by rw [tx_size]; omega
        rw [← hq] at hx
        have hzs : (tx (45 :: r)).size ≤ 140737488355327 := by rw [hq]; omega
        have es := Lib.hid (show (if true = true then swapL (45 :: r) else []) = 95 :: r from rfl)
        rw [es.out]
        clear hc hq h00 es
        generalize tx (45 :: r) = s at *
        go_enter Tryz.func33, Tryz.ntmps33
        go_wp2_with fail
        refine KM.out.mono ?_
        rintro e w1 ⟨rfl, rfl⟩
        go_wp2_with fail
        go_ret2
        first | exact ⟨rfl, rfl⟩ | exact ⟨by rw [HC.out]; rfl, rfl⟩
      · have g2 : ((c.toNat : Int) == 45) = false := beq_false_of_ne (fun h => h2 (UInt8.toNat_inj.1 (by simp; omega)))
        have e3 : (((tx (c :: r))[0].toNat : Int) == 45) = false := by rw [h00]; exact g2
        have es := Lib.hid (show (if true = true then swapL (c :: r) else []) = c :: r from if_neg h2)
        rw [es.out]
        clear h2 g2 h00 es
        go_enter Tryz.func33, Tryz.ntmps33
        go_wp2_with fail
        refine KM.out.mono ?_
        rintro e w1 ⟨rfl, rfl⟩
        go_wp2_with fail
        go_ret2
        exact ⟨rfl, rfl⟩
end
end Go.Proofs.YtomkjmhebnecbaaGreatDoor

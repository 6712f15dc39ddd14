/-
  The reference's small functions: has, all, Number, Literal.
-/
import Derived.Test.YtiopemimancliaaLc
namespace Go.Proofs.Ytiopemimancliaa
open Go.RowKit

theorem drop_at (s : ByteArray) (j : Nat) (h : j < s.size) : s.data.toList.drop j = s[j] :: s.data.toList.drop (j + 1) := by
  rw [List.drop_eq_getElem_cons (by simpa using h)]; rfl
theorem drop_end (s : ByteArray) (j : Nat) (h : s.size ≤ j) : s.data.toList.drop j = [] := List.drop_eq_nil_of_le (by simpa using h)
theorem has_is (m : ByteArray) (c : UInt8) (v : Bool) (hv : m.data.toList.contains c = v) (hz : m.size ≤ 9223372036854775807) (w : World) : Calls Try.prog 58 #[.string m, .int .u8 (c.toNat : Int)] w (BoolEnd v w) := by
  have HV := Lib.hid hv
  clear hv
  go_enter Try.func58, Try.ntmps58
  go_wp2_with fail
  go_loop [5] (fun i => ∃ j : Nat, i = .int .i64 j ∧ j ≤ m.size ∧ m.data.toList.contains c = (m.data.toList.drop j).contains c) (fun i => m.size - (intOf i).toNat)
  case atStart => exact ⟨0, rfl, Nat.zero_le _, rfl⟩
  case round =>
    obtain ⟨j, rfl, hj, hI⟩ := hrel
    have HI := Lib.hid hI
    clear hI
    by_cases h1 : j < m.size
    · have hd := drop_at m j h1
      by_cases h2 : m[j] = c
      · have e2 : (m[j]).toNat = c.toNat := by rw [h2]
        obtain rfl : v = true := by rw [← HV.out, HI.out, hd, List.contains_cons, h2]; simp
        clear hd h2
        go_wp2_with fail
        go_ret
        exact ⟨rfl, rfl⟩
      · have e2 : ¬ (m[j]).toNat = c.toNat := fun h => h2 (UInt8.toNat_inj.1 h)
        have HN := Lib.hid (show m.data.toList.contains c = (m.data.toList.drop (j + 1)).contains c by
          rw [HI.out, hd, List.contains_cons, beq_false_of_ne (fun h => h2 h.symm), Bool.false_or])
        clear hd h2
        go_wp2_with fail
        go_round
        case rel => exact ⟨j + 1, by go_num, by omega, HN.out⟩
        case measure => simp [intOf]; omega
    · obtain rfl : v = false := by rw [← HV.out, HI.out, drop_end m j (by omega)]; rfl
      go_wp2_with fail
      go_ret
      exact ⟨rfl, rfl⟩
theorem all_is (s m : ByteArray) (a : Nat) (v : Bool) (hv : (s.data.toList.drop a).all m.data.toList.contains = v) (hz : m.size ≤ 9223372036854775807) (ha : a ≤ s.size) (hs : s.size ≤ 9223372036854775807) (w : World) :
    Calls Try.prog 59 #[.string s, .int .i64 a, .string m] w (BoolEnd v w) := by
  have HV := Lib.hid hv
  clear hv
  have K := Lib.hid (fun c v hv => has_is m c v hv hz)
  clear hz
  go_enter Try.func59, Try.ntmps59
  go_wp2_with fail
  go_loop [7] (fun i => ∃ j : Nat, i = .int .i64 j ∧ j ≤ s.size ∧ (s.data.toList.drop a).all m.data.toList.contains = (s.data.toList.drop j).all m.data.toList.contains) (fun i => s.size - (intOf i).toNat)
  case atStart => exact ⟨a, rfl, ha, rfl⟩
  case round =>
    obtain ⟨j, rfl, hj, hI⟩ := hrel
    have HI := Lib.hid hI
    clear hI
    by_cases h1 : j < s.size
    · have hd := drop_at s j h1
      by_cases h2 : m.data.toList.contains s[j] = true
      · have K2 := Lib.hid (K.out s[j] true h2)
        have HN := Lib.hid (show (s.data.toList.drop a).all m.data.toList.contains = (s.data.toList.drop (j + 1)).all m.data.toList.contains by
          rw [HI.out, hd, List.all_cons, h2, Bool.true_and])
        clear hd h2
        go_wp2_with fail
        refine (K2.out _).mono ?_
        rintro e w1 ⟨rfl, rfl⟩
        go_wp2_with fail
        go_round
        case rel => exact ⟨j + 1, by go_num, by omega, HN.out⟩
        case measure => simp [intOf]; omega
      · have h3 : m.data.toList.contains s[j] = false := by simpa using h2
        have K2 := Lib.hid (K.out s[j] false h3)
        obtain rfl : v = false := by rw [← HV.out, HI.out, hd, List.all_cons, h3, Bool.false_and]
        clear hd h2 h3
        go_wp2_with fail
        refine (K2.out _).mono ?_
        rintro e w1 ⟨rfl, rfl⟩
        go_wp2_with fail
        go_ret
        exact ⟨rfl, rfl⟩
    · obtain rfl : v = true := by rw [← HV.out, HI.out, drop_end s j (by omega)]; rfl
      go_wp2_with fail
      go_ret
      exact ⟨rfl, rfl⟩
theorem rMay_tx (l : List UInt8) (h : l.length ≤ 140737488355328) (v : Bool) (hv : mayL l = v) (w : World) : Calls Try.prog 34 #[.string (tx l)] w (BoolEnd v w) := by
  have := rMay_any (tx l) (by rw [tx_size]; unfold maxLen; omega) w
  rw [tx_list, hv] at this
  exact this
theorem tx_empty (l : List UInt8) : (tx l).toList.isEmpty = l.isEmpty := by rw [str_tl, tx_list]
theorem tx_get0 (c : UInt8) (r : List UInt8) (h : 0 < (tx (c :: r)).size) : (tx (c :: r))[0] = c := rfl
theorem tx_drop1 (c : UInt8) (r : List UInt8) : (tx (c :: r)).extract 1 (r.length + 1) = tx r := bytes_ext (by
  rw [extract_list, tx_list, tx_list]
  simp)
set_option maxHeartbeats 1600000 in
theorem rNumber_is (l : List UInt8) (h : l.length ≤ 140737488355327) (w : World) : Calls Try.prog 52 #[.string (tx l)] w (PairEnd (numT l) (numB l) w) := by
  cases l with
  | nil =>
    have KM := Lib.hid (rMay_tx [] (by simp) false (by decide) w)
    have e0 := Lib.hid (show numB [] = false by decide)
    have e1 := Lib.hid (show numT [] = [] by decide)
    have he := tx_empty []
    rw [show ([] : List UInt8).isEmpty = true from rfl] at he
    rw [e0.out, e1.out]
    have HX := Lib.hid (show (⟨#[]⟩ : ByteArray) = tx [] from rfl)
    rw [← HX.out] at KM
    go_enter Try.func52, Try.ntmps52
    go_wp2_with fail
    refine KM.out.mono ?_
    rintro e w1 ⟨rfl, rfl⟩
    go_wp2_with fail
    go_ret2
    exact ⟨rfl, rfl⟩
  | cons c r =>
    have he := tx_empty (c :: r)
    rw [show (c :: r).isEmpty = false from rfl] at he
    have hl : r.length + 1 ≤ 140737488355327 := h
    have hp : 0 < (tx (c :: r)).size := by rw [tx_size]; simp
    have h00 := tx_get0 c r hp
    by_cases h1 : c = 45
    · subst h1
      have e0 := Lib.hid (show numB (45 :: r) = false by unfold numB; rfl)
      have e1 := Lib.hid (show numT (45 :: r) = [] by unfold numT; rw [e0.out]; rfl)
      have e2 : (((tx (45 :: r))[0].toNat : Int) == 45) = true := by rw [h00]; rfl
      have e3 : (((tx (45 :: r))[0].toNat : Int) == 95) = false := by rw [h00]; rfl
      rw [e0.out, e1.out]
      clear h h00
      generalize tx (45 :: r) = s at *
      go_enter Try.func52, Try.ntmps52
      go_wp2_with fail
      go_ret2
      exact ⟨rfl, rfl⟩
    · have hh : ((c :: r).head? == some 45) = false := beq_eq_false_iff_ne.2 (fun h => h1 (Option.some.inj h))
      have g1 : ((c.toNat : Int) == 45) = false := beq_false_of_ne (fun h => h1 (UInt8.toNat_inj.1 (by simp; omega)))
      have e2 : (((tx (c :: r))[0].toNat : Int) == 45) = false := by rw [h00]; exact g1
      by_cases h2 : c = 95
      · subst h2
        have e3 : (((tx (95 :: r))[0].toNat : Int) == 95) = true := by rw [h00]; rfl
        have e0 := Lib.hid (show numB (95 :: r) = mayL (45 :: r) by unfold numB; rw [hh]; rfl)
        have hc : (⟨#[45]⟩ : ByteArray) ++ tx r = tx (45 :: r) := tx_cat [45] r
        have KM := Lib.hid (rMay_tx (45 :: r) (by simp; omega) (mayL (45 :: r)) rfl w)
        have ez := Lib.hid (show numT (95 :: r) = if mayL (45 :: r) then 45 :: r else [] by unfold numT; rw [e0.out]; rfl)
        have hx := tx_drop1 95 r
        rw [e0.out, ez.out]
        rw [← hc] at KM
        have HC := Lib.hid hc
        have hq : (tx (95 :: r)).size = r.length + 1 := rfl
        have hzr : (tx r).size ≤ 140737488355327 := by rw [tx_size]; omega
        rw [← hq] at hx
        have hzs : (tx (95 :: r)).size ≤ 140737488355327 := by rw [hq]; omega
        clear hh g1 hc hq h00
        generalize tx (95 :: r) = s at *
        rcases hb : mayL (45 :: r) with _ | _
        all_goals
          rw [hb] at KM
          clear hb
          go_enter Try.func52, Try.ntmps52
          go_wp2_with fail
          refine KM.out.mono ?_
          rintro e w1 ⟨rfl, rfl⟩
          go_wp2_with fail
          go_ret2
          first | exact ⟨rfl, rfl⟩ | exact ⟨by rw [HC.out]; rfl, rfl⟩
      · have g2 : ((c.toNat : Int) == 95) = false := beq_false_of_ne (fun h => h2 (UInt8.toNat_inj.1 (by simp; omega)))
        have e3 : (((tx (c :: r))[0].toNat : Int) == 95) = false := by rw [h00]; exact g2
        have hsw : swapN (c :: r) = c :: r := if_neg h2
        have e0 := Lib.hid (show numB (c :: r) = mayL (c :: r) by unfold numB; rw [hh, hsw]; rfl)
        have KM := Lib.hid (rMay_tx (c :: r) (by simp; omega) (mayL (c :: r)) rfl w)
        have ez := Lib.hid (show numT (c :: r) = if mayL (c :: r) then c :: r else [] by unfold numT; rw [e0.out, hsw])
        rw [e0.out, ez.out]
        clear h1 hh h2 hsw g1 g2 h00
        rcases hb : mayL (c :: r) with _ | _
        all_goals
          rw [hb] at KM
          clear hb
          go_enter Try.func52, Try.ntmps52
          go_wp2_with fail
          refine KM.out.mono ?_
          rintro e w1 ⟨rfl, rfl⟩
          go_wp2_with fail
          go_ret2
          exact ⟨rfl, rfl⟩
end Go.Proofs.Ytiopemimancliaa

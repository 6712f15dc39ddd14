import Derived.Test.YtomkjmhebnecbaaGreatDoorMac
import Derived.Test.YtomkjmhebnecbaaGreatDoorMam
import Derived.Lib.Bytealg
/-
  Of lex, what text leans on: a part as a number, a number as a part, over num.May; joined by shake.py out of the texts of stage 7.
-/
namespace Go.Proofs.YtomkjmhebnecbaaGreatDoor
set_option linter.unusedVariables false
set_option linter.unusedSimpArgs false
section
open Go.RowKit
def TBoolEnd (v : Bool) (w : World) (e : Ending) (w' : World) : Prop := e = .returned (.bool v) ∧ w = w'
theorem bytes_ext {a b : ByteArray} (h : a.data.toList = b.data.toList) : a = b := by
  cases a; cases b
  simp only [ByteArray.mk.injEq]
  exact Array.toList_inj.1 h
theorem extract_list (s : ByteArray) (i j : Nat) : (s.extract i j).data.toList = (s.data.toList.drop i).take (j - i) := by
  rw [ByteArray.data_extract, Array.toList_extract, List.extract_eq_take_drop]
theorem get_list {s : ByteArray} {k : Nat} (h : k < s.size) {c : UInt8} (hc : s.data.toList[k]? = some c) : s[k] = c := by
  have h2 : k < s.data.toList.length := by simpa using h
  rw [List.getElem?_eq_getElem h2] at hc
  exact Option.some.inj hc
end
section
open Go.RowKit
def tx (l : List UInt8) : ByteArray := ⟨l.toArray⟩
theorem tx_list (l : List UInt8) : (tx l).data.toList = l := rfl
theorem tx_size (l : List UInt8) : (tx l).size = l.length := rfl
theorem tx_back (s : ByteArray) : tx s.data.toList = s := bytes_ext rfl
theorem tx_cat (a b : List UInt8) : tx a ++ tx b = tx (a ++ b) := bytes_ext (by
  show ((tx a) ++ (tx b)).data.toList = a ++ b
  rw [ByteArray.data_append, Array.toList_append]
  rfl)
def swapN : List UInt8 → List UInt8
  | [] => []
  | c :: r => if c = 95 then 45 :: r else c :: r
def swapL : List UInt8 → List UInt8
  | [] => []
  | c :: r => if c = 45 then 95 :: r else c :: r
def numB (l : List UInt8) : Bool := !(l.head? == some 45) && mayL (swapN l)
def numT (l : List UInt8) : List UInt8 := if numB l then swapN l else []
def litT (l : List UInt8) : List UInt8 := if mayL l then swapL l else []
def PairEnd (t : List UInt8) (v : Bool) (w : World) (e : Ending) (w' : World) : Prop := e = .returned (.tuple #[.string (tx t), .bool v]) ∧ w = w'
theorem prefix_head (l : List UInt8) (c : UInt8) : Lib.hasPrefix l [c] = (l.head? == some c) := by
  cases l with
  | nil => rfl
  | cons d l =>
    show ([c] : List UInt8).isPrefixOf (d :: l) = (some d == some c)
    simp only [List.isPrefixOf, Bool.and_true]
    rw [Bool.eq_iff_iff, beq_iff_eq, beq_iff_eq, Option.some.injEq]
    exact eq_comm
theorem pair_eq {t u : List UInt8} {v x : Bool} (h : t = u) (hv : v = x) : Ending.returned (.tuple #[.string (tx t), .bool v]) = .returned (.tuple #[.string (tx u), .bool x]) := by rw [h, hv]
theorem May_tx (l : List UInt8) (h : l.length ≤ 140737488355328) (v : Bool) (hv : mayL l = v) (w : World) : Calls Tryz.prog 27 #[.string (tx l)] w (TBoolEnd v w) := by
  have := may_any (tx l) w (by rw [tx_size]; unfold maxLen; omega)
  rw [tx_list, hv] at this
  exact this
theorem Has_tx (l : List UInt8) (c : UInt8) (w : World) (v : Bool) (hv : (l.head? == some c) = v) : Calls Tryz.prog 49 #[.string (tx l), .string ⟨#[c]⟩] w (TBoolEnd v w) := by
  have := Tryz.strings_HasPrefix (tx l) ⟨#[c]⟩ w
  rw [tx_list, show (⟨#[c]⟩ : ByteArray).data.toList = [c] from rfl, prefix_head, hv] at this
  exact this.mono fun e w' h => ⟨h.1, h.2.symm⟩
theorem Cut_tx (l m : List UInt8) (c : UInt8) (w : World) (v : Bool) (hv : (l.head? == some c) = v) (hm : m = if v then l.drop 1 else l) : Calls Tryz.prog 45 #[.string (tx l), .string ⟨#[c]⟩] w (PairEnd m v w) := by
  have := Tryz.strings_CutPrefix (tx l) ⟨#[c]⟩ w
  rw [tx_list, show (⟨#[c]⟩ : ByteArray).data.toList = [c] from rfl] at this
  unfold Lib.trimPrefix at this
  rw [prefix_head, hv] at this
  subst hm
  exact this.mono fun e w' h => ⟨h.1, h.2.symm⟩
set_option maxHeartbeats 800000 in
theorem Number_is (l : List UInt8) (h : l.length ≤ 140737488355327) (w : World) : Calls Tryz.prog 34 #[.string (tx l)] w (PairEnd (numT l) (numB l) w) := by
  by_cases h1 : l.head? = some 45
  · have e0 := Lib.hid (show numB l = false by unfold numB; rw [h1]; rfl)
    have e1 := Lib.hid (show numT l = [] by unfold numT; rw [e0.out]; rfl)
    have K := Lib.hid (Has_tx l 45 w true (by rw [h1]; rfl))
    clear h1
    rw [e0.out, e1.out]
    generalize tx l = s at *
    go_enter Tryz.func34, Tryz.ntmps34
    go_wp2_with fail
    refine K.out.mono ?_
    rintro e w1 ⟨rfl, rfl⟩
    go_wp2_with fail
    go_ret2
    exact ⟨rfl, rfl⟩
  · have hh : (l.head? == some 45) = false := beq_eq_false_iff_ne.2 h1
    have K := Lib.hid (Has_tx l 45 w false hh)
    by_cases h2 : l.head? = some 95
    · obtain ⟨r, rfl⟩ : ∃ r, l = 95 :: r := by
        cases l with
        | nil => cases h2
        | cons d r => cases h2; exact ⟨r, rfl⟩
      have e0 := Lib.hid (show numB (95 :: r) = mayL (45 :: r) by unfold numB; rw [hh]; rfl)
      have K2 := Lib.hid (Cut_tx (95 :: r) r 95 w true rfl rfl)
      have hc : (⟨#[45]⟩ : ByteArray) ++ tx r = tx (45 :: r) := tx_cat [45] r
      have KM := Lib.hid (May_tx (45 :: r) (by simp at h ⊢; omega) (mayL (45 :: r)) rfl w)
      have hz : (tx r).size ≤ 140737488355327 := by rw [tx_size]; simp at h; omega
      have e2 := Lib.hid (show numT (95 :: r) = if mayL (45 :: r) then 45 :: r else [] by unfold numT; rw [e0.out]; rfl)
      rw [e0.out, e2.out]
      rw [← hc] at KM
      have HC := Lib.hid hc
      clear h1 hh h2 hc
      generalize tx (95 :: r) = s at *
      rcases hb : mayL (45 :: r) with _ | _
      all_goals
        rw [hb] at KM
        clear hb
        go_enter Tryz.func34, Tryz.ntmps34
        go_wp2_with fail
        refine K.out.mono ?_
        rintro e w1 ⟨rfl, rfl⟩
        go_wp2_with fail
        refine K2.out.mono ?_
        rintro e w1 ⟨rfl, rfl⟩
        go_wp2_with fail
        refine KM.out.mono ?_
        rintro e w1 ⟨rfl, rfl⟩
        go_wp2_with fail
        go_ret2
        first | exact ⟨rfl, rfl⟩ | exact ⟨by rw [HC.out]; rfl, rfl⟩
    · have hh2 : (l.head? == some 95) = false := beq_eq_false_iff_ne.2 h2
      have hsw : swapN l = l := by
        cases l with
        | nil => rfl
        | cons d r =>
          show (if d = 95 then 45 :: r else d :: r) = d :: r
          exact if_neg (fun h' => h2 (by rw [h']; rfl))
      have e0 := Lib.hid (show numB l = mayL l by unfold numB; rw [hh, hsw]; rfl)
      have K2 := Lib.hid (Cut_tx l l 95 w false hh2 rfl)
      have KM := Lib.hid (May_tx l (by omega) (mayL l) rfl w)
      have e2 := Lib.hid (show numT l = if mayL l then l else [] by unfold numT; rw [e0.out, hsw])
      rw [e0.out, e2.out]
      clear h1 hh h2 hh2 hsw
      rcases hb : mayL l with _ | _
      all_goals
        rw [hb] at KM
        clear hb
        go_enter Tryz.func34, Tryz.ntmps34
        go_wp2_with fail
        refine K.out.mono ?_
        rintro e w1 ⟨rfl, rfl⟩
        go_wp2_with fail
        refine K2.out.mono ?_
        rintro e w1 ⟨rfl, rfl⟩
        go_wp2_with fail
        refine KM.out.mono ?_
        rintro e w1 ⟨rfl, rfl⟩
        go_wp2_with fail
        go_ret2
        exact ⟨rfl, rfl⟩
set_option maxHeartbeats 800000 in
theorem Literal_is (l : List UInt8) (h : l.length ≤ 140737488355327) (w : World) : Calls Tryz.prog 29 #[.string (tx l)] w (PairEnd (litT l) (mayL l) w) := by
  have KM := Lib.hid (May_tx l (by omega) (mayL l) rfl w)
  have e0 := Lib.hid (show litT l = if mayL l then swapL l else [] from rfl)
  rw [e0.out]
  clear e0
  by_cases h2 : l.head? = some 45
  · obtain ⟨r, rfl⟩ : ∃ r, l = 45 :: r := by
      cases l with
      | nil => cases h2
      | cons d r => cases h2; exact ⟨r, rfl⟩
    have K2 := Lib.hid (Cut_tx (45 :: r) r 45 w true rfl rfl)
    have HC := Lib.hid (show (⟨#[95]⟩ : ByteArray) ++ tx r = tx (95 :: r) from tx_cat [95] r)
    have hz : (tx r).size ≤ 140737488355327 := by rw [tx_size]; simp at h; omega
    rw [show swapL (45 :: r) = 95 :: r from rfl]
    clear h2
    rcases hb : mayL (45 :: r) with _ | _
    all_goals
      rw [hb] at KM
      clear hb
      generalize tx (45 :: r) = s at *
      go_enter Tryz.func29, Tryz.ntmps29
      go_wp2_with fail
      refine KM.out.mono ?_
      rintro e w1 ⟨rfl, rfl⟩
      go_wp2_with fail
    · go_ret2
      exact ⟨rfl, rfl⟩
    · refine K2.out.mono ?_
      rintro e w1 ⟨rfl, rfl⟩
      go_wp2_with fail
      go_ret2
      first | exact ⟨rfl, rfl⟩ | exact ⟨by rw [HC.out]; rfl, rfl⟩
  · have hh2 : (l.head? == some 45) = false := beq_eq_false_iff_ne.2 h2
    have hsw : swapL l = l := by
      cases l with
      | nil => rfl
      | cons d r =>
        show (if d = 45 then 95 :: r else d :: r) = d :: r
        exact if_neg (fun h' => h2 (by rw [h']; rfl))
    have K2 := Lib.hid (Cut_tx l l 45 w false hh2 rfl)
    rw [hsw]
    clear h2 hh2 hsw
    rcases hb : mayL l with _ | _
    all_goals
      rw [hb] at KM
      clear hb
      go_enter Tryz.func29, Tryz.ntmps29
      go_wp2_with fail
      refine KM.out.mono ?_
      rintro e w1 ⟨rfl, rfl⟩
      go_wp2_with fail
    · go_ret2
      exact ⟨rfl, rfl⟩
    · refine K2.out.mono ?_
      rintro e w1 ⟨rfl, rfl⟩
      go_wp2_with fail
      go_ret2
      exact ⟨rfl, rfl⟩
end
end Go.Proofs.YtomkjmhebnecbaaGreatDoor

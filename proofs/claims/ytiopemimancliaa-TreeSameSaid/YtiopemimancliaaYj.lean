/-
  Whether texts are a Lit's numbers; whether a node may be: plainly, and of the program, kind by kind.
-/
import Derived.Test.YtiopemimancliaaYi
import Derived.Deep.RegionHeld3
import Derived.BigRegion
namespace Go.Proofs.Ytiopemimancliaa
open Go.RowKit

def alN (l : List ByteArray) : Bool := l.all fun s => mayL s.data.toList
def numsB (l : List ByteArray) : Bool := decide (1 ≤ l.length) && (decide (l.length ≤ 100) && alN l)
theorem drop_getD {l : List ByteArray} {j : Nat} (h : j < l.length) : l.drop j = l.getD j ByteArray.empty :: l.drop (j + 1) := by
  rw [List.drop_eq_getElem_cons h]
  simp [List.getD_eq_getElem?_getD, List.getElem?_eq_getElem h]
theorem getD_mem {l : List ByteArray} {j : Nat} (h : j < l.length) : l.getD j ByteArray.empty ∈ l := by
  simp [List.getD_eq_getElem?_getD, List.getElem?_eq_getElem h]
theorem notMay_is (s : ByteArray) (hs : s.size ≤ maxLen) (w : World) : Calls Try.prog 39 #[.string s] w (BoolEnd (!mayL s.data.toList) w) := by
  have K := may_any s w hs
  generalize mayL s.data.toList = v at *
  replace K := Lib.hid K
  cases v
  all_goals
    go_enter Try.func39, Try.ntmps39
    go_wp2_with fail
    refine K.out.mono ?_
    rintro e w1 ⟨rfl, rfl⟩
    go_wp2_with fail
    go_ret
    exact ⟨rfl, rfl⟩
def IxEnd (v : Bool) (w : World) (e : Ending) (w' : World) : Prop := ∃ r : Int, e = .returned (.int .i64 r) ∧ decide (0 ≤ r) = v ∧ w = w'
set_option maxHeartbeats 1600000 in
theorem Index_is (a : Option Addr) (n c : Nat) (l : List ByteArray) (w : World) (h : St w a n l) (hn : n ≤ 1000000) (hz : ∀ s ∈ l, s.size ≤ maxLen) :
    Calls Try.prog 44 #[.slice a n c, .func (.func 39) #[] #[]] w (IxEnd (!alN l) w) := by
  obtain ⟨v, hv⟩ : ∃ v, v = !alN l := ⟨_, rfl⟩
  rw [← hv]
  have HV := Lib.hid hv
  have H := Lib.hid h
  have HZ := Lib.hid hz
  have hl := h.1
  clear hv h hz
  go_enter Try.func44, Try.ntmps44
  go_wp2_with fail
  go_loop [8] (fun i => ∃ j : Nat, i = .int .i64 j ∧ j ≤ n ∧ alN l = alN (l.drop j)) (fun i => n - (intOf i).toNat)
  case atStart => exact ⟨0, rfl, Nat.zero_le _, rfl⟩
  case round =>
    obtain ⟨j, rfl, hj, hI⟩ := hrel
    have HI := Lib.hid hI
    clear hI
    by_cases h1 : j < n
    · have e2 : (j : Int) < (n : Int) := by omega
      obtain ⟨b, off, rfl, hc⟩ := H.out.2 (by omega)
      have cj := hc j h1
      have hd := drop_getD (l := l) (j := j) (by omega)
      have K := notMay_is (l.getD j ByteArray.empty) (HZ.out _ (getD_mem (by omega))) w
      obtain ⟨s, hs⟩ : ∃ s, s = l.getD j ByteArray.empty := ⟨_, rfl⟩
      rw [← hs] at cj hd K
      cases hm : mayL s.data.toList with
      | true =>
        rw [hm] at K
        replace K := Lib.hid K
        have HN := Lib.hid (show alN l = alN (l.drop (j + 1)) by rw [HI.out, hd]; unfold alN; rw [List.all_cons, hm, Bool.true_and])
        clear hd hm hc hs
        go_wp2_with fail
        refine K.out.mono ?_
        rintro e w1 ⟨rfl, rfl⟩
        go_wp2_with fail
        go_round
        case rel => exact ⟨j + 1, by go_num, by omega, HN.out⟩
        case measure => simp [intOf]; omega
      | false =>
        rw [hm] at K
        replace K := Lib.hid K
        have HN := Lib.hid (show v = true by rw [HV.out, HI.out, hd]; unfold alN; rw [List.all_cons, hm]; rfl)
        clear hd hm hc hs
        go_wp2_with fail
        refine K.out.mono ?_
        rintro e w1 ⟨rfl, rfl⟩
        go_wp2_with fail
        go_ret
        exact ⟨j, rfl, by rw [HN.out]; exact decide_eq_true (by omega), rfl⟩
    · have e2 : ¬ (j : Int) < (n : Int) := by omega
      have HN := Lib.hid (show v = false by rw [HV.out, HI.out, List.drop_eq_nil_of_le (by omega)]; rfl)
      go_wp2_with fail
      go_ret
      exact ⟨-1, rfl, by rw [HN.out]; rfl, rfl⟩
theorem Contains_is (a : Option Addr) (n c : Nat) (l : List ByteArray) (w : World) (h : St w a n l) (hn : n ≤ 1000000) (hz : ∀ s ∈ l, s.size ≤ maxLen) :
    Calls Try.prog 38 #[.slice a n c, .func (.func 39) #[] #[]] w (BoolEnd (!alN l) w) := by
  have K := Lib.hid (Index_is a n c l w h hn hz)
  generalize (!alN l) = v at *
  cases v
  all_goals
    go_enter Try.func38, Try.ntmps38
    go_wp2_with fail
    refine K.out.mono ?_
    rintro e w1 ⟨r, rfl, hr, rfl⟩
    have HR := Lib.hid hr
    clear hr
    go_wp2_with fail
    go_ret
    exact ⟨by rw [← HR.out]; rfl, rfl⟩
set_option maxHeartbeats 1600000 in
theorem areNumbers_is (a : Option Addr) (n c : Nat) (l : List ByteArray) (w : World) (h : St w a n l) (hn : n ≤ maxLen) (hz : ∀ s ∈ l, s.size ≤ maxLen) :
    Calls Try.prog 30 #[.slice a n c] w (ValEnd (.bool (numsB l)) w) := by
  have hn2 := maxLen_le hn
  unfold numsB
  rw [h.1]
  by_cases h1 : n < 1
  · have e1 : (n : Int) < 1 := by omega
    rw [decide_eq_false (by omega)]
    go_enter Try.func30, Try.ntmps30
    go_wp2_with fail
    go_ret
    exact ⟨rfl, Below.refl _ _⟩
  rw [decide_eq_true (show 1 ≤ n by omega)]
  by_cases h2 : 100 < n
  · have e1 : ¬ (n : Int) < 1 := by omega
    have e2 : (100 : Int) < (n : Int) := by omega
    rw [decide_eq_false (by omega)]
    go_enter Try.func30, Try.ntmps30
    go_wp2_with fail
    go_ret
    exact ⟨rfl, Below.refl _ _⟩
  rw [decide_eq_true (show n ≤ 100 by omega), Bool.true_and, Bool.true_and]
  have e1 : ¬ (n : Int) < 1 := by omega
  have e2 : ¬ (100 : Int) < (n : Int) := by omega
  have K := Contains_is a n c l w h (by omega) hz
  generalize alN l = v at *
  replace K := Lib.hid K
  cases v
  all_goals
    go_enter Try.func30, Try.ntmps30
    go_wp2_with fail
    refine K.out.mono ?_
    rintro e w1 ⟨rfl, rfl⟩
    go_wp2_with fail
    go_ret
    exact ⟨rfl, Below.refl _ _⟩
end Go.Proofs.Ytiopemimancliaa

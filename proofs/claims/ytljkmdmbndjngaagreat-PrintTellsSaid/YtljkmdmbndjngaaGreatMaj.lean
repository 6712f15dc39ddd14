import Derived.Test.YtljkmdmbndjngaaGreatMai
import Derived.Deep.RegionHeld3
import Derived.BigRegion
/-
  Adverbs, verbs, numbers of a node, and whether two nodes are the same: of the program, and of the reference.
-/
namespace Go.Proofs.YtljkmdmbndjngaaGreat
set_option linter.unusedVariables false
set_option linter.unusedSimpArgs false
open Go.RowKit

/-- A text that is empty, or one of some bytes. -/
def advB (s : ByteArray) (l : List UInt8) : Bool := s.data.toList.isEmpty || l.any fun c => s.data.toList == [c]
theorem adv_one (c : UInt8) (l : List UInt8) : advB ⟨#[c]⟩ l = l.contains c := by
  show (false || l.any fun d => [c] == [d]) = _
  rw [Bool.false_or]
  induction l with
  | nil => rfl
  | cons d l ih =>
    rw [List.any_cons, ih, List.contains_cons, show ([c] == [d]) = (c == d) by simp]
theorem adv_long {s : ByteArray} {c d : UInt8} {r : List UInt8} (h : s.data.toList = c :: d :: r) (l : List UInt8) : advB s l = false := by
  unfold advB
  rw [h]
  show (false || l.any fun x => c :: d :: r == [x]) = false
  rw [Bool.false_or]
  induction l with
  | nil => rfl
  | cons x l ih =>
    rw [List.any_cons, ih, show (c :: d :: r == [x]) = false by simp]; rfl
set_option maxHeartbeats 1600000 in
theorem rhas_is (s m : ByteArray) (hz : m.size ≤ 1000000) (w : World) : Calls Tryz.prog 54 #[.string s, .string m] w (ValEnd (.bool (advB s m.data.toList)) w) := by
  obtain ⟨v, hv⟩ : ∃ v, v = advB s m.data.toList := ⟨_, rfl⟩
  rw [← hv]
  have HV := Lib.hid hv
  clear hv
  go_enter Tryz.func54, Tryz.ntmps54
  go_wp2_with fail
  go_loop [5] (fun i => ∃ j : Nat, i = .int .i64 j ∧ j ≤ m.size ∧ (m.data.toList.any fun c => s.data.toList == [c]) = ((m.data.toList.drop j).any fun c => s.data.toList == [c])) (fun i => m.size - (intOf i).toNat)
  case atStart => exact ⟨0, rfl, Nat.zero_le _, rfl⟩
  case round =>
    obtain ⟨j, rfl, hj, hI⟩ := hrel
    have HI := Lib.hid hI
    clear hI
    by_cases h1 : j < m.size
    · have e2 : (j : Int) < (m.size : Int) := by omega
      have hd := drop_at m j h1
      have hx : (m.extract j (j + 1)).toList = [m[j]] := by rw [str_tl, extract_list, hd, Nat.add_sub_cancel_left]; rfl
      by_cases h2 : s.data.toList = [m[j]]
      · have e3 : s.toList = [m[j]] := by rw [str_tl]; exact h2
        obtain rfl : v = true := by rw [HV.out]; unfold advB; rw [HI.out, hd, List.any_cons, h2]; simp
        clear hd h2
        go_wp2_with fail
        go_ret
        exact ⟨rfl, Below.refl _ _⟩
      · have e3 : ¬ s.toList = [m[j]] := by rw [str_tl]; exact h2
        have e4 : (s.toList == [m[j]]) = false := beq_eq_false_iff_ne.2 e3
        have HN := Lib.hid (show (m.data.toList.any fun c => s.data.toList == [c]) = ((m.data.toList.drop (j + 1)).any fun c => s.data.toList == [c]) by
          rw [HI.out, hd, List.any_cons, beq_eq_false_iff_ne.2 h2, Bool.false_or])
        clear hd h2
        go_wp2_with fail
        go_round
        case rel => exact ⟨j + 1, by go_num, by omega, HN.out⟩
        case measure => simp [intOf]; omega
    · have e2 : ¬ (j : Int) < (m.size : Int) := by omega
      have hv : v = s.toList.isEmpty := by rw [HV.out, str_tl]; unfold advB; rw [HI.out, drop_end m j (by omega)]; simp
      subst hv
      clear HV HI
      by_cases h0 : s.toList.isEmpty = true
      · rw [h0]
        go_wp2_with fail
        go_ret
        exact ⟨rfl, Below.refl _ _⟩
      · have h1 : s.toList.isEmpty = false := by simpa using h0
        rw [h1]
        clear h0
        go_wp2_with fail
        go_ret
        exact ⟨rfl, Below.refl _ _⟩
set_option maxHeartbeats 1600000 in
theorem isAdv_is (s m : ByteArray) (hz : s.size ≤ 9223372036854775807) (w : World) : Calls Tryz.prog 45 #[.string s, .string m] w (ValEnd (.bool (advB s m.data.toList)) w) := by
  rcases hl : s.data.toList with _ | ⟨c, _ | ⟨d, r⟩⟩
  · have e1 : s.toList.isEmpty = true := by rw [str_tl, hl]; rfl
    rw [show advB s m.data.toList = true by unfold advB; rw [hl]; rfl]
    clear hl
    go_enter Tryz.func45, Tryz.ntmps45
    go_wp2_with fail
    go_ret
    exact ⟨rfl, Below.refl _ _⟩
  · obtain rfl : s = ⟨#[c]⟩ := bytes_ext hl
    have K := Tryz.strings_Contains_one m c w
    rw [show decide (0 ≤ Lib.indexByte m.data.toList c) = advB ⟨#[c]⟩ m.data.toList by
      refine Bool.eq_iff_iff.2 ?_
      rw [decide_eq_true_iff, indexByte_nn, adv_one]] at K
    generalize advB ⟨#[c]⟩ m.data.toList = v at *
    replace K := Lib.hid K
    clear hl
    cases v
    all_goals
      go_enter Tryz.func45, Tryz.ntmps45
      go_wp2_with fail
      refine K.out.mono ?_
      rintro e w1 ⟨rfl, rfl⟩
      go_wp2_with fail
      go_ret
      exact ⟨rfl, Below.refl _ _⟩
  · have hs : s.data.toList.length = s.size := by simp
    have e1 : s.toList.isEmpty = false := by rw [str_tl, hl]; rfl
    have e2 : ¬ (s.size : Int) = 1 := by rw [← hs, hl]; simp; omega
    rw [adv_long hl]
    clear hl hs
    go_enter Tryz.func45, Tryz.ntmps45
    go_wp2_with fail
    go_ret
    exact ⟨rfl, Below.refl _ _⟩
noncomputable def verbB (v : ByteArray) : Bool := v.toList == [123] || (prt v 4 || prt v 3)
set_option maxHeartbeats 1600000 in
theorem isVerb_is (s : ByteArray) (hs : s.size ≤ 9223372036854775807) (W : World) : Calls Tryz.prog 44 #[.string s] W (ValEnd (.bool (verbB s)) W) := by
  unfold verbB
  by_cases h1 : (s.toList == [123]) = true
  · rw [h1]
    go_enter Tryz.func44, Tryz.ntmps44
    go_wp2_with fail
    go_ret
    exact ⟨rfl, Below.refl _ _⟩
  · have h2 : (s.toList == [123]) = false := by simpa using h1
    have K4 := fun w => isPart_is s 4 hs w
    have K3 := fun w => isPart_is s 3 hs w
    rw [h2]
    generalize prt s 4 = p4 at *
    generalize prt s 3 = p3 at *
    replace K4 := Lib.hid K4
    replace K3 := Lib.hid K3
    clear h1
    cases p4
    · cases p3
      all_goals
        go_enter Tryz.func44, Tryz.ntmps44
        go_wp2_with fail
        refine (K4.out _).mono ?_
        rintro e w1 ⟨rfl, hb⟩
        go_wp2_with fail
        refine (K3.out _).mono ?_
        rintro e w2 ⟨rfl, hb1⟩
        replace hb := hb.trans (hb1.mono hb.size)
        go_wp2_with fail
        go_ret
        exact ⟨rfl, hb⟩
    · go_enter Tryz.func44, Tryz.ntmps44
      go_wp2_with fail
      refine (K4.out _).mono ?_
      rintro e w1 ⟨rfl, hb⟩
      go_wp2_with fail
      go_ret
      exact ⟨rfl, hb⟩
/-- Two slices of strings: whether they are the same. -/
theorem EqualS_is (a1 a2 : Option Addr) (n c m d : Nat) (l k : List ByteArray) (W : World) (h1 : St W a1 n l) (h2 : St W a2 m k) (hn : n ≤ 9223372036854775807) (hm : m ≤ 9223372036854775807) :
    Calls Tryz.prog 69 #[.slice a1 n c, .slice a2 m d] W (ValEnd (.bool (decide (l = k))) W) := by
  by_cases hnm : n = m
  · subst hnm
    by_cases h0 : n = 0
    · subst h0
      have e1 := List.length_eq_zero_iff.1 h1.1
      have e2 := List.length_eq_zero_iff.1 h2.1
      subst e1 e2
      refine (Tryz.slices_Equal_string_empty a1 a2 c 0 d W (by decide)).mono ?_
      rintro x w ⟨rfl, rfl⟩
      exact ⟨rfl, Below.refl _ _⟩
    · obtain ⟨b1, o1, rfl, hc1⟩ := h1.2 (by omega)
      obtain ⟨b2, o2, rfl, hc2⟩ := h2.2 (by omega)
      refine (Tryz.slices_Equal_string b1 o1 n c b2 o2 n d l k W (by rw [h1.1]; exact Nat.le_refl _) (by rw [h2.1]; exact Nat.le_refl _) hn hm (fun j hj => hc1 j (by rw [← h1.1]; exact hj)) (fun j hj => hc2 j (by rw [← h2.1]; exact hj))).mono ?_
      rintro x w ⟨rfl, q, rfl⟩
      refine ⟨?_, ⟨rfl, rfl, rfl, Nat.le_refl _, fun _ _ => rfl⟩⟩
      rw [List.take_of_length_le (by rw [h1.1]; exact Nat.le_refl _), List.take_of_length_le (by rw [h2.1]; exact Nat.le_refl _)]
  · refine (Tryz.slices_Equal_string_lens a1 a2 n c m d W hnm).mono ?_
    rintro x w ⟨rfl, rfl⟩
    refine ⟨?_, Below.refl _ _⟩
    have : decide (l = k) = false := decide_eq_false (by rintro rfl; exact hnm (h1.1.symm.trans h2.1))
    rw [this]
/-- Two nodes: whether they are the same. -/
def smN (d e : Nd) : Bool := decide (d.k = e.k) && (decide (d.v.toList = e.v.toList) && (decide (d.a.toList = e.a.toList) && (decide (d.x.toList = e.x.toList) && decide (d.ns = e.ns))))
theorem maxLen_le {n : Nat} (h : n ≤ maxLen) : n ≤ 9223372036854775807 := h
set_option maxHeartbeats 3200000 in
theorem same_is (d e : Nd) (W : World) (hd : d.on W) (he : e.on W) : Calls Tryz.prog 46 #[d.val, e.val] W (ValEnd (.bool (smN d e)) W) := by
  obtain ⟨dk, dv, da, dx, dg, dm, dc, dn⟩ := d
  obtain ⟨ek, ev, ea, ex, eg, em', ec, en⟩ := e
  have hb0 := (box_below W (.cells #[.int .i64 dk, .string dv, .string da, .string dx, .slice dg dm dc] 37)).alloc (by simp) (.cells #[.int .i64 ek, .string ev, .string ea, .string ex, .slice eg em' ec] 37)
  have KE := fun w (hw : Below W.heap.size W w) => EqualS_is dg eg dm dc em' ec dn en w (hd.st.below hw) (he.st.below hw) (maxLen_le (Nat.le_trans hd.mc hd.cm)) (maxLen_le (Nat.le_trans he.mc he.cm))
  have hA := (Bd.new W dk dv da dx dg dm dc).alloc (.cells #[.int .i64 ek, .string ev, .string ea, .string ex, .slice eg em' ec] 37)
  have hB := Bd.new (W.alloc (.cells #[.int .i64 dk, .string dv, .string da, .string dx, .slice dg dm dc] 37)) ek ev ea ex eg em' ec
  rw [show (W.alloc (.cells #[.int .i64 dk, .string dv, .string da, .string dx, .slice dg dm dc] 37)).heap.size = W.heap.size + 1 by simp] at hB
  have a0 := hA.c0
  have a1 := hA.c1
  have a2 := hA.c2
  have a3 := hA.c3
  have a4 := hA.c4
  have b0 := hB.c0
  have b1 := hB.c1
  have b2 := hB.c2
  have b3 := hB.c3
  have b4 := hB.c4
  show Calls _ _ #[.agg #[.int .i64 dk, .string dv, .string da, .string dx, .slice dg dm dc], .agg #[.int .i64 ek, .string ev, .string ea, .string ex, .slice eg em' ec]] W (ValEnd (.bool (decide (dk = ek) && (decide (dv.toList = ev.toList) && (decide (da.toList = ea.toList) && (decide (dx.toList = ex.toList) && decide (dn = en)))))) W)
  clear hd he hA hB
  have HB := Lib.hid hb0
  replace KE := Lib.hid (KE _ hb0)
  clear hb0
  by_cases h1 : dk = ek
  · subst h1
    have h1 : decide (dk = dk) = true := decide_eq_true rfl
    by_cases h2 : dv.toList = ev.toList
    · by_cases h3 : da.toList = ea.toList
      · by_cases h4 : dx.toList = ex.toList
        · rw [h1, decide_eq_true h2, decide_eq_true h3, decide_eq_true h4, Bool.true_and, Bool.true_and, Bool.true_and, Bool.true_and]
          generalize decide (dn = en) = r at *
          cases r
          all_goals
            go_enter Tryz.func46, Tryz.ntmps46
            go_wp2_with fail
            refine KE.out.mono ?_
            rintro e w1 ⟨rfl, hb⟩
            clear a0 a1 a2 a3 a4 b0 b1 b2 b3 b4
            go_wp2_with fail
            go_ret
            exact ⟨rfl, HB.out.trans (hb.mono HB.out.size)⟩
        · rw [h1, decide_eq_true h2, decide_eq_true h3, decide_eq_false h4]
          go_enter Tryz.func46, Tryz.ntmps46
          go_wp2_with fail
          go_ret
          exact ⟨rfl, HB.out⟩
      · rw [h1, decide_eq_true h2, decide_eq_false h3]
        go_enter Tryz.func46, Tryz.ntmps46
        go_wp2_with fail
        go_ret
        exact ⟨rfl, HB.out⟩
    · rw [h1, decide_eq_false h2]
      go_enter Tryz.func46, Tryz.ntmps46
      go_wp2_with fail
      go_ret
      exact ⟨rfl, HB.out⟩
  · rw [decide_eq_false h1]
    go_enter Tryz.func46, Tryz.ntmps46
    go_wp2_with fail
    go_ret
    exact ⟨rfl, HB.out⟩
end Go.Proofs.YtljkmdmbndjngaaGreat
/-
  Whether texts are a Lit's numbers; whether a node may be: plainly, and of the program, kind by kind.
-/
namespace Go.Proofs.YtljkmdmbndjngaaGreat
set_option linter.unusedVariables false
set_option linter.unusedSimpArgs false
open Go.RowKit

def alN (l : List ByteArray) : Bool := l.all fun s => mayL s.data.toList
def numsB (l : List ByteArray) : Bool := decide (1 ≤ l.length) && (decide (l.length ≤ 100) && alN l)
theorem drop_getD {l : List ByteArray} {j : Nat} (h : j < l.length) : l.drop j = l.getD j ByteArray.empty :: l.drop (j + 1) := by
  rw [List.drop_eq_getElem_cons h]
  simp [List.getD_eq_getElem?_getD, List.getElem?_eq_getElem h]
theorem getD_mem {l : List ByteArray} {j : Nat} (h : j < l.length) : l.getD j ByteArray.empty ∈ l := by
  simp [List.getD_eq_getElem?_getD, List.getElem?_eq_getElem h]
theorem notMay_is (s : ByteArray) (hs : s.size ≤ maxLen) (w : World) : Calls Tryz.prog 66 #[.string s] w (BoolEnd (!mayL s.data.toList) w) := by
  have K := may_any s w hs
  generalize mayL s.data.toList = v at *
  replace K := Lib.hid K
  cases v
  all_goals
    go_enter Tryz.func66, Tryz.ntmps66
    go_wp2_with fail
    refine K.out.mono ?_
    rintro e w1 ⟨rfl, rfl⟩
    go_wp2_with fail
    go_ret
    exact ⟨rfl, rfl⟩
def IxEnd (v : Bool) (w : World) (e : Ending) (w' : World) : Prop := ∃ r : Int, e = .returned (.int .i64 r) ∧ decide (0 ≤ r) = v ∧ w = w'
set_option maxHeartbeats 1600000 in
theorem Index_is (a : Option Addr) (n c : Nat) (l : List ByteArray) (w : World) (h : St w a n l) (hn : n ≤ 1000000) (hz : ∀ s ∈ l, s.size ≤ maxLen) :
    Calls Tryz.prog 87 #[.slice a n c, .func (.func 66) #[] #[]] w (IxEnd (!alN l) w) := by
  obtain ⟨v, hv⟩ : ∃ v, v = !alN l := ⟨_, rfl⟩
  rw [← hv]
  have HV := Lib.hid hv
  have H := Lib.hid h
  have HZ := Lib.hid hz
  have hl := h.1
  clear hv h hz
  go_enter Tryz.func87, Tryz.ntmps87
  go_wp2_with fail
  go_loop [8] (fun i => ∃ j : Nat, i = .int .i64 j ∧ j ≤ n ∧ alN l = alN (l.drop j)) (fun i => n - (intOf i).toNat)
  case atStart => exact ⟨0, rfl, Nat.zero_le _, rfl⟩
  case round =>
    obtain ⟨j, rfl, hj, hI⟩ := hrel
    have HI := Lib.hid hI
    clear hI
    by_cases h1 : j < n
    · have e2 : (j : Int) < (n : Int) := by omega
      obtain ⟨b, off, rfl, hc⟩ := H.out.2 (by omega)
      have cj := hc j h1
      have hd := drop_getD (l := l) (j := j) (by omega)
      have K := notMay_is (l.getD j ByteArray.empty) (HZ.out _ (getD_mem (by omega))) w
      obtain ⟨s, hs⟩ : ∃ s, s = l.getD j ByteArray.empty := ⟨_, rfl⟩
      rw [← hs] at cj hd K
      cases hm : mayL s.data.toList with
      | true =>
        rw [hm] at K
        replace K := Lib.hid K
        have HN := Lib.hid (show alN l = alN (l.drop (j + 1)) by rw [HI.out, hd]; unfold alN; rw [List.all_cons, hm, Bool.true_and])
        clear hd hm hc hs
        go_wp2_with fail
        refine K.out.mono ?_
        rintro e w1 ⟨rfl, rfl⟩
        go_wp2_with fail
        go_round
        case rel => exact ⟨j + 1, by go_num, by omega, HN.out⟩
        case measure => simp [intOf]; omega
      | false =>
        rw [hm] at K
        replace K := Lib.hid K
        have HN := Lib.hid (show v = true by rw [HV.out, HI.out, hd]; unfold alN; rw [List.all_cons, hm]; rfl)
        clear hd hm hc hs
        go_wp2_with fail
        refine K.out.mono ?_
        rintro e w1 ⟨rfl, rfl⟩
        go_wp2_with fail
        go_ret
        exact ⟨j, rfl, by rw [HN.out]; exact decide_eq_true (by omega), rfl⟩
    · have e2 : ¬ (j : Int) < (n : Int) := by omega
      have HN := Lib.hid (show v = false by rw [HV.out, HI.out, List.drop_eq_nil_of_le (by omega)]; rfl)
      go_wp2_with fail
      go_ret
      exact ⟨-1, rfl, by rw [HN.out]; rfl, rfl⟩
theorem Contains_is (a : Option Addr) (n c : Nat) (l : List ByteArray) (w : World) (h : St w a n l) (hn : n ≤ 1000000) (hz : ∀ s ∈ l, s.size ≤ maxLen) :
    Calls Tryz.prog 65 #[.slice a n c, .func (.func 66) #[] #[]] w (BoolEnd (!alN l) w) := by
  have K := Lib.hid (Index_is a n c l w h hn hz)
  generalize (!alN l) = v at *
  cases v
  all_goals
    go_enter Tryz.func65, Tryz.ntmps65
    go_wp2_with fail
    refine K.out.mono ?_
    rintro e w1 ⟨r, rfl, hr, rfl⟩
    have HR := Lib.hid hr
    clear hr
    go_wp2_with fail
    go_ret
    exact ⟨by rw [← HR.out]; rfl, rfl⟩
set_option maxHeartbeats 1600000 in
theorem areNumbers_is (a : Option Addr) (n c : Nat) (l : List ByteArray) (w : World) (h : St w a n l) (hn : n ≤ maxLen) (hz : ∀ s ∈ l, s.size ≤ maxLen) :
    Calls Tryz.prog 42 #[.slice a n c] w (ValEnd (.bool (numsB l)) w) := by
  have hn2 := maxLen_le hn
  unfold numsB
  rw [h.1]
  by_cases h1 : n < 1
  · have e1 : (n : Int) < 1 := by omega
    rw [decide_eq_false (by omega)]
    go_enter Tryz.func42, Tryz.ntmps42
    go_wp2_with fail
    go_ret
    exact ⟨rfl, Below.refl _ _⟩
  rw [decide_eq_true (show 1 ≤ n by omega)]
  by_cases h2 : 100 < n
  · have e1 : ¬ (n : Int) < 1 := by omega
    have e2 : (100 : Int) < (n : Int) := by omega
    rw [decide_eq_false (by omega)]
    go_enter Tryz.func42, Tryz.ntmps42
    go_wp2_with fail
    go_ret
    exact ⟨rfl, Below.refl _ _⟩
  rw [decide_eq_true (show n ≤ 100 by omega), Bool.true_and, Bool.true_and]
  have e1 : ¬ (n : Int) < 1 := by omega
  have e2 : ¬ (100 : Int) < (n : Int) := by omega
  have K := Contains_is a n c l w h (by omega) hz
  generalize alN l = v at *
  replace K := Lib.hid K
  cases v
  all_goals
    go_enter Tryz.func42, Tryz.ntmps42
    go_wp2_with fail
    refine K.out.mono ?_
    rintro e w1 ⟨rfl, rfl⟩
    go_wp2_with fail
    go_ret
    exact ⟨rfl, Below.refl _ _⟩
end Go.Proofs.YtljkmdmbndjngaaGreat

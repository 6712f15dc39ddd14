import Derived.Test.YtafdogcanjcbmaaMaf
import Derived.Test.YtafdogcanjcbmaaMae
import Derived.Deep.RegionHeld3
import Derived.BigRegion
/-
  A text as one part of a kind, as a verb, as an adverb; texts as numbers: of the program, and of the reference.
-/
namespace Go.Proofs.Ytafdogcanjcbmaa
set_option linter.unusedVariables false
set_option linter.unusedSimpArgs false
open Go.RowKit

noncomputable def lxT (s : ByteArray) : List Tk := Classical.choose (Run.any numB s.data.toList 0)
theorem lxT_ex (s : ByteArray) : ∃ e, Run numB s.data.toList 0 (lxT s) e := Classical.choose_spec (Run.any numB s.data.toList 0)
noncomputable def lxE (s : ByteArray) : Option Nat := Classical.choose (lxT_ex s)
theorem lx_run (s : ByteArray) : Run numB s.data.toList 0 (lxT s) (lxE s) := Classical.choose_spec (lxT_ex s)
/-- Is a text one part, of some kind? -/
noncomputable def prt (s : ByteArray) (k : Int) : Bool :=
  if s.size ≤ 256 then
    match lxE s with
    | some _ => false
    | none => match lxT s with
      | [t] => decide ((t.kind : Int) = k) && ((tx t.text).toList == s.toList)
      | _ => false
  else false
/-- The two sides of part, by what Lex tells. -/
theorem part_by {f : FuncId} {s : ByteArray} {k : Int} {W : World}
    (h0 : 256 < s.size → Calls Try.prog f #[.string s, .int .i64 k] W (ValEnd (.bool false) W))
    (h1 : ∀ q, s.size ≤ 256 → lxE s = some q → Calls Try.prog f #[.string s, .int .i64 k] W (ValEnd (.bool false) W))
    (h2 : s.size ≤ 256 → lxE s = none → (lxT s).length ≠ 1 → Calls Try.prog f #[.string s, .int .i64 k] W (ValEnd (.bool false) W))
    (h3 : ∀ t, s.size ≤ 256 → lxE s = none → lxT s = [t] → Calls Try.prog f #[.string s, .int .i64 k] W (ValEnd (.bool (decide ((t.kind : Int) = k) && ((tx t.text).toList == s.toList))) W)) :
    Calls Try.prog f #[.string s, .int .i64 k] W (ValEnd (.bool (prt s k)) W) := by
  unfold prt
  by_cases hs : s.size ≤ 256
  · rw [if_pos hs]
    cases he : lxE s with
    | some q => exact h1 q hs he
    | none =>
      show Calls _ _ _ _ (ValEnd (.bool (match lxT s with | [t] => _ | _ => false)) W)
      split
      · rename_i t ht
        exact h3 t hs he ht
      · rename_i ht
        refine h2 hs he fun hl => ?_
        obtain ⟨t, ht2⟩ := List.length_eq_one_iff.1 hl
        exact ht t ht2
  · rw [if_neg hs]
    exact h0 (by omega)
set_option maxHeartbeats 1600000 in
theorem isPart_is (s : ByteArray) (k : Int) (hs : s.size ≤ 9223372036854775807) (W : World) : Calls Try.prog 38 #[.string s, .int .i64 k] W (ValEnd (.bool (prt s k)) W) := by
  refine part_by (fun h => ?_) (fun q h he => ?_) (fun h he hl => ?_) (fun t h he ht => ?_)
  · have K := Lib.hid (big_is s h hs W)
    go_enter Try.func38, Try.ntmps38
    go_wp2_with fail
    refine K.out.mono ?_
    rintro e w1 ⟨rfl, hb⟩
    go_wp2_with fail
    go_ret
    exact ⟨rfl, hb⟩
  · have K := lex_is s h _ _ (lx_run s) W
    rw [he] at K
    replace K := Lib.hid K
    clear he
    go_enter Try.func38, Try.ntmps38
    go_wp2_with fail
    refine K.out.mono ?_
    rintro e w1 ⟨rfl, hb⟩
    go_wp2_with fail
    go_ret
    exact ⟨rfl, hb⟩
  · have K := lex_is s h _ _ (lx_run s) W
    rw [he] at K
    have hl2 : ((lxT s).length : Int) ≠ 1 := by omega
    have hl3 := (lx_run s).span.2
    simp at hl3
    generalize lxT s = ts at *
    replace K := Lib.hid K
    clear he hl
    go_enter Try.func38, Try.ntmps38
    go_wp2_with fail
    refine K.out.mono ?_
    rintro e w1 ⟨a, c, rfl, _, _, hb⟩
    go_wp2_with fail
    go_ret
    exact ⟨rfl, hb⟩
  · have K := lex_is s h _ _ (lx_run s) W
    rw [he, ht] at K
    replace K := Lib.hid K
    obtain ⟨u, hu⟩ : ∃ u, u = tx t.text := ⟨_, rfl⟩
    rw [← hu]
    have HU := Lib.hid hu
    clear he ht hu
    go_enter Try.func38, Try.ntmps38
    go_wp2_with fail
    refine K.out.mono ?_
    rintro e w1 ⟨a, c, rfl, _, hq, hb⟩
    obtain ⟨b, off, rfl, hc⟩ := hq (by simp)
    obtain ⟨c0, c1, c2⟩ := hc 0 (by simp)
    rw [show rtk [t] 0 = ⟨t.kind, tx t.text, t.at_⟩ from rfl, ← HU.out] at c0 c1
    simp only [Nat.zero_mul, Nat.add_zero] at c0 c1
    have el : [t].length = 1 := rfl
    rw [el]
    clear hq hc c2 el K
    go_wp2_with fail
    all_goals
      go_ret
      exact ⟨by simp_all, hb⟩
end Go.Proofs.Ytafdogcanjcbmaa
/-
  Adverbs, verbs, numbers of a node, and whether two nodes are the same: of the program, and of the reference.
-/
namespace Go.Proofs.Ytafdogcanjcbmaa
set_option linter.unusedVariables false
set_option linter.unusedSimpArgs false
open Go.RowKit

/-- A text that is empty, or one of some bytes. -/
def advB (s : ByteArray) (l : List UInt8) : Bool := s.data.toList.isEmpty || l.any fun c => s.data.toList == [c]
theorem adv_one (c : UInt8) (l : List UInt8) : advB ⟨#[c]⟩ l = l.contains c := by
  show (false || l.any fun d => [c] == [d]) = _
  rw [Bool.false_or]
  induction l with
  | nil => rfl
  | cons d l ih =>
    rw [List.any_cons, ih, List.contains_cons, show ([c] == [d]) = (c == d) by simp]
theorem adv_long {s : ByteArray} {c d : UInt8} {r : List UInt8} (h : s.data.toList = c :: d :: r) (l : List UInt8) : advB s l = false := by
  unfold advB
  rw [h]
  show (false || l.any fun x => c :: d :: r == [x]) = false
  rw [Bool.false_or]
  induction l with
  | nil => rfl
  | cons x l ih =>
    rw [List.any_cons, ih, show (c :: d :: r == [x]) = false by simp]; rfl
set_option maxHeartbeats 1600000 in
theorem isAdv_is (s m : ByteArray) (hz : s.size ≤ 9223372036854775807) (w : World) : Calls Try.prog 40 #[.string s, .string m] w (ValEnd (.bool (advB s m.data.toList)) w) := by
  rcases hl : s.data.toList with _ | ⟨c, _ | ⟨d, r⟩⟩
  · have e1 : s.toList.isEmpty = true := by rw [str_tl, hl]; rfl
    rw [show advB s m.data.toList = true by unfold advB; rw [hl]; rfl]
    clear hl
    go_enter Try.func40, Try.ntmps40
    go_wp2_with fail
    go_ret
    exact ⟨rfl, Below.refl _ _⟩
  · obtain rfl : s = ⟨#[c]⟩ := bytes_ext hl
    have K := Try.strings_Contains_one m c w
    rw [show decide (0 ≤ Lib.indexByte m.data.toList c) = advB ⟨#[c]⟩ m.data.toList by
      refine Bool.eq_iff_iff.2 ?_
      rw [decide_eq_true_iff, indexByte_nn, adv_one]] at K
    generalize advB ⟨#[c]⟩ m.data.toList = v at *
    replace K := Lib.hid K
    clear hl
    cases v
    all_goals
      go_enter Try.func40, Try.ntmps40
      go_wp2_with fail
      refine K.out.mono ?_
      rintro e w1 ⟨rfl, rfl⟩
      go_wp2_with fail
      go_ret
      exact ⟨rfl, Below.refl _ _⟩
  · have hs : s.data.toList.length = s.size := by simp
    have e1 : s.toList.isEmpty = false := by rw [str_tl, hl]; rfl
    have e2 : ¬ (s.size : Int) = 1 := by rw [← hs, hl]; simp; omega
    rw [adv_long hl]
    clear hl hs
    go_enter Try.func40, Try.ntmps40
    go_wp2_with fail
    go_ret
    exact ⟨rfl, Below.refl _ _⟩
noncomputable def verbB (v : ByteArray) : Bool := v.toList == [123] || (prt v 4 || prt v 3)
set_option maxHeartbeats 1600000 in
theorem isVerb_is (s : ByteArray) (hs : s.size ≤ 9223372036854775807) (W : World) : Calls Try.prog 39 #[.string s] W (ValEnd (.bool (verbB s)) W) := by
  unfold verbB
  by_cases h1 : (s.toList == [123]) = true
  · rw [h1]
    go_enter Try.func39, Try.ntmps39
    go_wp2_with fail
    go_ret
    exact ⟨rfl, Below.refl _ _⟩
  · have h2 : (s.toList == [123]) = false := by simpa using h1
    have K4 := fun w => isPart_is s 4 hs w
    have K3 := fun w => isPart_is s 3 hs w
    rw [h2]
    generalize prt s 4 = p4 at *
    generalize prt s 3 = p3 at *
    replace K4 := Lib.hid K4
    replace K3 := Lib.hid K3
    clear h1
    cases p4
    · cases p3
      all_goals
        go_enter Try.func39, Try.ntmps39
        go_wp2_with fail
        refine (K4.out _).mono ?_
        rintro e w1 ⟨rfl, hb⟩
        go_wp2_with fail
        refine (K3.out _).mono ?_
        rintro e w2 ⟨rfl, hb1⟩
        replace hb := hb.trans (hb1.mono hb.size)
        go_wp2_with fail
        go_ret
        exact ⟨rfl, hb⟩
    · go_enter Try.func39, Try.ntmps39
      go_wp2_with fail
      refine (K4.out _).mono ?_
      rintro e w1 ⟨rfl, hb⟩
      go_wp2_with fail
      go_ret
      exact ⟨rfl, hb⟩
/-- Two slices of strings: whether they are the same. -/
theorem EqualS_is (a1 a2 : Option Addr) (n c m d : Nat) (l k : List ByteArray) (W : World) (h1 : St W a1 n l) (h2 : St W a2 m k) (hn : n ≤ 9223372036854775807) (hm : m ≤ 9223372036854775807) :
    Calls Try.prog 41 #[.slice a1 n c, .slice a2 m d] W (ValEnd (.bool (decide (l = k))) W) := by
  by_cases hnm : n = m
  · subst hnm
    by_cases h0 : n = 0
    · subst h0
      have e1 := List.length_eq_zero_iff.1 h1.1
      have e2 := List.length_eq_zero_iff.1 h2.1
      subst e1 e2
      refine (Try.slices_Equal_string_empty a1 a2 c 0 d W (by decide)).mono ?_
      rintro x w ⟨rfl, rfl⟩
      exact ⟨rfl, Below.refl _ _⟩
    · obtain ⟨b1, o1, rfl, hc1⟩ := h1.2 (by omega)
      obtain ⟨b2, o2, rfl, hc2⟩ := h2.2 (by omega)
      refine (Try.slices_Equal_string b1 o1 n c b2 o2 n d l k W (by rw [h1.1]; exact Nat.le_refl _) (by rw [h2.1]; exact Nat.le_refl _) hn hm (fun j hj => hc1 j (by rw [← h1.1]; exact hj)) (fun j hj => hc2 j (by rw [← h2.1]; exact hj))).mono ?_
      rintro x w ⟨rfl, q, rfl⟩
      refine ⟨?_, ⟨rfl, rfl, rfl, Nat.le_refl _, fun _ _ => rfl⟩⟩
      rw [List.take_of_length_le (by rw [h1.1]; exact Nat.le_refl _), List.take_of_length_le (by rw [h2.1]; exact Nat.le_refl _)]
  · refine (Try.slices_Equal_string_lens a1 a2 n c m d W hnm).mono ?_
    rintro x w ⟨rfl, rfl⟩
    refine ⟨?_, Below.refl _ _⟩
    have : decide (l = k) = false := decide_eq_false (by rintro rfl; exact hnm (h1.1.symm.trans h2.1))
    rw [this]
/-- Two nodes: whether they are the same. -/
def smN (d e : Nd) : Bool := decide (d.k = e.k) && (decide (d.v.toList = e.v.toList) && (decide (d.a.toList = e.a.toList) && (decide (d.x.toList = e.x.toList) && decide (d.ns = e.ns))))
theorem maxLen_le {n : Nat} (h : n ≤ maxLen) : n ≤ 9223372036854775807 := h
set_option maxHeartbeats 3200000 in
theorem same_is (d e : Nd) (W : World) (hd : d.on W) (he : e.on W) : Calls Try.prog 26 #[d.val, e.val] W (ValEnd (.bool (smN d e)) W) := by
  obtain ⟨dk, dv, da, dx, dg, dm, dc, dn⟩ := d
  obtain ⟨ek, ev, ea, ex, eg, em', ec, en⟩ := e
  have hb0 := (box_below W (.cells #[.int .i64 dk, .string dv, .string da, .string dx, .slice dg dm dc] 34)).alloc (by simp) (.cells #[.int .i64 ek, .string ev, .string ea, .string ex, .slice eg em' ec] 34)
  have KE := fun w (hw : Below W.heap.size W w) => EqualS_is dg eg dm dc em' ec dn en w (hd.st.below hw) (he.st.below hw) (maxLen_le (Nat.le_trans hd.mc hd.cm)) (maxLen_le (Nat.le_trans he.mc he.cm))
  have hA := (Bd.new W dk dv da dx dg dm dc).alloc (.cells #[.int .i64 ek, .string ev, .string ea, .string ex, .slice eg em' ec] 34)
  have hB := Bd.new (W.alloc (.cells #[.int .i64 dk, .string dv, .string da, .string dx, .slice dg dm dc] 34)) ek ev ea ex eg em' ec
  rw [show (W.alloc (.cells #[.int .i64 dk, .string dv, .string da, .string dx, .slice dg dm dc] 34)).heap.size = W.heap.size + 1 by simp] at hB
  have a0 := hA.c0
  have a1 := hA.c1
  have a2 := hA.c2
  have a3 := hA.c3
  have a4 := hA.c4
  have b0 := hB.c0
  have b1 := hB.c1
  have b2 := hB.c2
  have b3 := hB.c3
  have b4 := hB.c4
  show Calls _ _ #[.agg #[.int .i64 dk, .string dv, .string da, .string dx, .slice dg dm dc], .agg #[.int .i64 ek, .string ev, .string ea, .string ex, .slice eg em' ec]] W (ValEnd (.bool (decide (dk = ek) && (decide (dv.toList = ev.toList) && (decide (da.toList = ea.toList) && (decide (dx.toList = ex.toList) && decide (dn = en)))))) W)
  clear hd he hA hB
  have HB := Lib.hid hb0
  replace KE := Lib.hid (KE _ hb0)
  clear hb0
  by_cases h1 : dk = ek
  · subst h1
    have h1 : decide (dk = dk) = true := decide_eq_true rfl
    by_cases h2 : dv.toList = ev.toList
    · by_cases h3 : da.toList = ea.toList
      · by_cases h4 : dx.toList = ex.toList
        · rw [h1, decide_eq_true h2, decide_eq_true h3, decide_eq_true h4, Bool.true_and, Bool.true_and, Bool.true_and, Bool.true_and]
          generalize decide (dn = en) = r at *
          cases r
          all_goals
            go_enter Try.func26, Try.ntmps26
            go_wp2_with fail
            refine KE.out.mono ?_
            rintro e w1 ⟨rfl, hb⟩
            clear a0 a1 a2 a3 a4 b0 b1 b2 b3 b4
            go_wp2_with fail
            go_ret
            exact ⟨rfl, HB.out.trans (hb.mono HB.out.size)⟩
        · rw [h1, decide_eq_true h2, decide_eq_true h3, decide_eq_false h4]
          go_enter Try.func26, Try.ntmps26
          go_wp2_with fail
          go_ret
          exact ⟨rfl, HB.out⟩
      · rw [h1, decide_eq_true h2, decide_eq_false h3]
        go_enter Try.func26, Try.ntmps26
        go_wp2_with fail
        go_ret
        exact ⟨rfl, HB.out⟩
    · rw [h1, decide_eq_false h2]
      go_enter Try.func26, Try.ntmps26
      go_wp2_with fail
      go_ret
      exact ⟨rfl, HB.out⟩
  · rw [decide_eq_false h1]
    go_enter Try.func26, Try.ntmps26
    go_wp2_with fail
    go_ret
    exact ⟨rfl, HB.out⟩
end Go.Proofs.Ytafdogcanjcbmaa
/-
  Whether texts are a Lit's numbers; whether a node may be: plainly, and of the program, kind by kind.
-/
namespace Go.Proofs.Ytafdogcanjcbmaa
set_option linter.unusedVariables false
set_option linter.unusedSimpArgs false
open Go.RowKit

def alN (l : List ByteArray) : Bool := l.all fun s => mayL s.data.toList
def numsB (l : List ByteArray) : Bool := decide (1 ≤ l.length) && (decide (l.length ≤ 100) && alN l)
theorem drop_getD {l : List ByteArray} {j : Nat} (h : j < l.length) : l.drop j = l.getD j ByteArray.empty :: l.drop (j + 1) := by
  rw [List.drop_eq_getElem_cons h]
  simp [List.getD_eq_getElem?_getD, List.getElem?_eq_getElem h]
theorem getD_mem {l : List ByteArray} {j : Nat} (h : j < l.length) : l.getD j ByteArray.empty ∈ l := by
  simp [List.getD_eq_getElem?_getD, List.getElem?_eq_getElem h]
theorem notMay_is (s : ByteArray) (hs : s.size ≤ maxLen) (w : World) : Calls Try.prog 61 #[.string s] w (BoolEnd (!mayL s.data.toList) w) := by
  have K := may_any s w hs
  generalize mayL s.data.toList = v at *
  replace K := Lib.hid K
  cases v
  all_goals
    go_enter Try.func61, Try.ntmps61
    go_wp2_with fail
    refine K.out.mono ?_
    rintro e w1 ⟨rfl, rfl⟩
    go_wp2_with fail
    go_ret
    exact ⟨rfl, rfl⟩
def IxEnd (v : Bool) (w : World) (e : Ending) (w' : World) : Prop := ∃ r : Int, e = .returned (.int .i64 r) ∧ decide (0 ≤ r) = v ∧ w = w'
set_option maxHeartbeats 1600000 in
theorem Index_is (a : Option Addr) (n c : Nat) (l : List ByteArray) (w : World) (h : St w a n l) (hn : n ≤ 1000000) (hz : ∀ s ∈ l, s.size ≤ maxLen) :
    Calls Try.prog 81 #[.slice a n c, .func (.func 61) #[] #[]] w (IxEnd (!alN l) w) := by
  obtain ⟨v, hv⟩ : ∃ v, v = !alN l := ⟨_, rfl⟩
  rw [← hv]
  have HV := Lib.hid hv
  have H := Lib.hid h
  have HZ := Lib.hid hz
  have hl := h.1
  clear hv h hz
  go_enter Try.func81, Try.ntmps81
  go_wp2_with fail
  go_loop [8] (fun i => ∃ j : Nat, i = .int .i64 j ∧ j ≤ n ∧ alN l = alN (l.drop j)) (fun i => n - (intOf i).toNat)
  case atStart => exact ⟨0, rfl, Nat.zero_le _, rfl⟩
  case round =>
    obtain ⟨j, rfl, hj, hI⟩ := hrel
    have HI := Lib.hid hI
    clear hI
    by_cases h1 : j < n
    · have e2 : (j : Int) < (n : Int) := by omega
      obtain ⟨b, off, rfl, hc⟩ := H.out.2 (by omega)
      have cj := hc j h1
      have hd := drop_getD (l := l) (j := j) (by omega)
      have K := notMay_is (l.getD j ByteArray.empty) (HZ.out _ (getD_mem (by omega))) w
      obtain ⟨s, hs⟩ : ∃ s, s = l.getD j ByteArray.empty := ⟨_, rfl⟩
      rw [← hs] at cj hd K
      cases hm : mayL s.data.toList with
      | true =>
        rw [hm] at K
        replace K := Lib.hid K
        have HN := Lib.hid (show alN l = alN (l.drop (j + 1)) by rw [HI.out, hd]; unfold alN; rw [List.all_cons, hm, Bool.true_and])
        clear hd hm hc hs
        go_wp2_with fail
        refine K.out.mono ?_
        rintro e w1 ⟨rfl, rfl⟩
        go_wp2_with fail
        go_round
        case rel => exact ⟨j + 1, by go_num, by omega, HN.out⟩
        case measure => simp [intOf]; omega
      | false =>
        rw [hm] at K
        replace K := Lib.hid K
        have HN := Lib.hid (show v = true by rw [HV.out, HI.out, hd]; unfold alN; rw [List.all_cons, hm]; rfl)
        clear hd hm hc hs
        go_wp2_with fail
        refine K.out.mono ?_
        rintro e w1 ⟨rfl, rfl⟩
        go_wp2_with fail
        go_ret
        exact ⟨j, rfl, by rw [HN.out]; exact decide_eq_true (by omega), rfl⟩
    · have e2 : ¬ (j : Int) < (n : Int) := by omega
      have HN := Lib.hid (show v = false by rw [HV.out, HI.out, List.drop_eq_nil_of_le (by omega)]; rfl)
      go_wp2_with fail
      go_ret
      exact ⟨-1, rfl, by rw [HN.out]; rfl, rfl⟩
theorem Contains_is (a : Option Addr) (n c : Nat) (l : List ByteArray) (w : World) (h : St w a n l) (hn : n ≤ 1000000) (hz : ∀ s ∈ l, s.size ≤ maxLen) :
    Calls Try.prog 60 #[.slice a n c, .func (.func 61) #[] #[]] w (BoolEnd (!alN l) w) := by
  have K := Lib.hid (Index_is a n c l w h hn hz)
  generalize (!alN l) = v at *
  cases v
  all_goals
    go_enter Try.func60, Try.ntmps60
    go_wp2_with fail
    refine K.out.mono ?_
    rintro e w1 ⟨r, rfl, hr, rfl⟩
    have HR := Lib.hid hr
    clear hr
    go_wp2_with fail
    go_ret
    exact ⟨by rw [← HR.out]; rfl, rfl⟩
set_option maxHeartbeats 1600000 in
theorem areNumbers_is (a : Option Addr) (n c : Nat) (l : List ByteArray) (w : World) (h : St w a n l) (hn : n ≤ maxLen) (hz : ∀ s ∈ l, s.size ≤ maxLen) :
    Calls Try.prog 37 #[.slice a n c] w (ValEnd (.bool (numsB l)) w) := by
  have hn2 := maxLen_le hn
  unfold numsB
  rw [h.1]
  by_cases h1 : n < 1
  · have e1 : (n : Int) < 1 := by omega
    rw [decide_eq_false (by omega)]
    go_enter Try.func37, Try.ntmps37
    go_wp2_with fail
    go_ret
    exact ⟨rfl, Below.refl _ _⟩
  rw [decide_eq_true (show 1 ≤ n by omega)]
  by_cases h2 : 100 < n
  · have e1 : ¬ (n : Int) < 1 := by omega
    have e2 : (100 : Int) < (n : Int) := by omega
    rw [decide_eq_false (by omega)]
    go_enter Try.func37, Try.ntmps37
    go_wp2_with fail
    go_ret
    exact ⟨rfl, Below.refl _ _⟩
  rw [decide_eq_true (show n ≤ 100 by omega), Bool.true_and, Bool.true_and]
  have e1 : ¬ (n : Int) < 1 := by omega
  have e2 : ¬ (100 : Int) < (n : Int) := by omega
  have K := Contains_is a n c l w h (by omega) hz
  generalize alN l = v at *
  replace K := Lib.hid K
  cases v
  all_goals
    go_enter Try.func37, Try.ntmps37
    go_wp2_with fail
    refine K.out.mono ?_
    rintro e w1 ⟨rfl, rfl⟩
    go_wp2_with fail
    go_ret
    exact ⟨rfl, Below.refl _ _⟩
end Go.Proofs.Ytafdogcanjcbmaa

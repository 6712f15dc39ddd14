/-
  Arrays that may be, as numbers, and their widths, plainly; the laws' same, few and made.
-/
import Derived.Test.YtdehcdnbalbdbaaDoorTi
namespace Go.Proofs.YtdehcdnbalbdbaaDoor
open Go.RowKit

theorem leastW_all (x : Int) : (leastW x = 8 ∧ Fit x 8) ∨ (leastW x = 16 ∧ ¬ Fit x 8 ∧ Fit x 16) ∨ (leastW x = 32 ∧ ¬ Fit x 16 ∧ Fit x 32) ∨ (leastW x = 64 ∧ ¬ Fit x 32 ∧ Fit x 64) ∨ (leastW x = 128 ∧ ¬ Fit x 64) := by
  unfold leastW
  by_cases h1 : Fit x 8
  · exact .inl ⟨if_pos h1, h1⟩
  by_cases h2 : Fit x 16
  · exact .inr (.inl ⟨by rw [if_neg h1, if_pos h2], h1, h2⟩)
  by_cases h3 : Fit x 32
  · exact .inr (.inr (.inl ⟨by rw [if_neg h1, if_neg h2, if_pos h3], h2, h3⟩))
  by_cases h4 : Fit x 64
  · exact .inr (.inr (.inr (.inl ⟨by rw [if_neg h1, if_neg h2, if_neg h3, if_pos h4], h3, h4⟩)))
  · exact .inr (.inr (.inr (.inr ⟨by rw [if_neg h1, if_neg h2, if_neg h3, if_neg h4], h4⟩)))
theorem fit_up {x w : Int} {b : Nat} (hx : I64 x) (hb : Bw w b) (h : leastW x ≤ w) : Fit x w := by
  have hl := leastW_all x
  generalize leastW x = y at h hl
  unfold I64 at hx
  unfold Bw at hb
  unfold Fit at hl ⊢
  omega
theorem leastW_fit {x w : Int} (h : Fit x w) (hw : 8 ≤ w) : leastW x ≤ w := by
  have hl := leastW_all x
  generalize leastW x = y at hl ⊢
  unfold Fit at h hl
  omega
theorem leastW_64 {x : Int} (hx : I64 x) : leastW x = 8 ∨ leastW x = 16 ∨ leastW x = 32 ∨ leastW x = 64 := by
  have hl := leastW_all x
  generalize leastW x = y at hl ⊢
  unfold I64 at hx
  unfold Fit at hl
  omega
theorem fit_mono {x v w : Int} {b c : Nat} (hx : Fit x v) (hv : Bw v b) (hw : Bw w c) (h : v ≤ w) : Fit x w := by
  unfold Bw at hv hw
  unfold Fit at hx ⊢
  omega
/-- The elements of an array that may be are numbers. -/
theorem may_numbers {l : List Int} {es : List ByteArray} (h : mayV l es = true) : ∃ x : Nat → Int, ∀ j, j < es.length → Is (es.getD j ByteArray.empty) (some (x j)) := by
  have ha := (mayV_yes.1 h).all
  have : ∀ j, ∃ x : Int, j < es.length → Is (es.getD j ByteArray.empty) (some x) := by
    intro j
    by_cases hj : j < es.length
    · obtain ⟨x, hx, hl⟩ := mayL_is (ha j hj)
      refine ⟨x, fun _ => ⟨?_, hl⟩⟩
      apply ByteArray.ext
      have := congrArg List.toArray hx
      simpa [S] using this
    · exact ⟨0, fun hh => absurd hh hj⟩
  exact Classical.axiomOfChoice this
def wid (x : Nat → Int) (m : Nat) : Int := wmax (fun j => leastO (some (x j))) m
theorem wid_is {es : List ByteArray} {m : Nat} {x : Nat → Int} (h : ∀ j, j < m → Is (es.getD j ByteArray.empty) (some (x j))) : WidIs es m (fun j => leastO (some (x j))) := fun j hj w hw => Of_opt (h j hj) w hw
theorem leastO_in {x : Int} (h : I64 x) : leastO (some x) = leastW x := by
  have e : intO (some x) = (x, true) := if_pos h
  unfold leastO
  rw [e]; rfl
theorem leastO_out {x : Int} (h : ¬ I64 x) : leastO (some x) = 128 := by
  have e : intO (some x) = (0, false) := if_neg h
  unfold leastO
  rw [e]; rfl
theorem leastO_le (x : Int) : leastO (some x) ≤ 128 := by
  by_cases h : I64 x
  · rw [leastO_in h]; have := leastW_64 h; omega
  · rw [leastO_out h]; omega
theorem wid_cases (x : Nat → Int) (m : Nat) : wid x m = 128 ∨ ∃ b, Bw (wid x m) b ∧ ∀ j, j < m → I64 (x j) ∧ Fit (x j) (wid x m) := by
  by_cases h : ∀ j, j < m → I64 (x j)
  · right
    have hw : wid x m = 8 ∨ wid x m = 16 ∨ wid x m = 32 ∨ wid x m = 64 := by
      rcases wmax_is (fun j => leastO (some (x j))) m with e | ⟨k, hk, e⟩
      · exact .inl e
      · unfold wid; rw [e]
        show leastO (some (x k)) = 8 ∨ leastO (some (x k)) = 16 ∨ leastO (some (x k)) = 32 ∨ leastO (some (x k)) = 64
        rw [leastO_in (h k hk)]; exact leastW_64 (h k hk)
    obtain ⟨b, hb⟩ := isW_yes.1 (show isW (wid x m) = true from decide_eq_true hw)
    refine ⟨b, hb, fun j hj => ⟨h j hj, fit_up (h j hj) hb ?_⟩⟩
    have := wmax_ge (fun j => leastO (some (x j))) m j hj
    rw [← leastO_in (h j hj)]; exact this
  · left
    have ⟨j, hj, hn⟩ : ∃ j, j < m ∧ ¬ I64 (x j) := Classical.byContradiction fun hh => h fun j hj => Classical.byContradiction fun h3 => hh ⟨j, hj, h3⟩
    have h1 := wmax_ge (fun j => leastO (some (x j))) m j hj
    have h1 : leastO (some (x j)) ≤ wid x m := h1
    rw [leastO_out hn] at h1
    rcases wmax_is (fun j => leastO (some (x j))) m with e | ⟨k, hk, e⟩
    · have e : wid x m = 8 := e
      omega
    · have e : wid x m = leastO (some (x k)) := e
      have := leastO_le (x k)
      omega
/-- What is wider than a width doesn't all fit it. -/
theorem wid_over {x : Nat → Int} {m : Nat} {w : Int} (hw : 8 ≤ w) (h : w < wid x m) (hi : ∀ j, j < m → I64 (x j)) : ∃ j, j < m ∧ ¬ Fit (x j) w := by
  rcases wmax_is (fun j => leastO (some (x j))) m with e | ⟨k, hk, e⟩
  · have e : wid x m = 8 := e
    omega
  · have e : wid x m = leastO (some (x k)) := e
    refine ⟨k, hk, fun hf => ?_⟩
    rw [leastO_in (hi k hk)] at e
    have := leastW_fit hf hw
    omega
/-- If some don't, there is a first one. -/
theorem first_no {p : Nat → Prop} {m : Nat} (h : ∃ j, j < m ∧ ¬ p j) : ∃ j, j < m ∧ (∀ i, i < j → p i) ∧ ¬ p j := by
  obtain ⟨j, hj, hn⟩ := h
  induction j using Nat.strongRecOn with
  | ind j ih =>
    by_cases hh : ∃ i, i < j ∧ ¬ p i
    · obtain ⟨i, hi, hp⟩ := hh
      exact ih i hi (by omega) hp
    · exact ⟨j, hj, fun i hi => Classical.byContradiction fun h3 => hh ⟨i, hi, h3⟩, hn⟩
/-- What was packed, as a typed array that may be. -/
theorem packed_may {l : List Int} {es : List ByteArray} {m b : Nat} {w : Int} (hm : mayV l es = true) (hl : es.length = m) (hb : Bw w b) (x : Nat → Int) : MayT w l (Eb b x m) b m := by
  have h := mayV_yes.1 hm
  have hp := may_pr h.e
  have hle := h.len
  rw [hl] at hle
  exact ⟨hb, h.e, Eb_size b x m, hle, by omega⟩
theorem txs_es {es : List ByteArray} {m b : Nat} {w : Int} {x : Nat → Int} (hl : es.length = m) (hb : Bw w b) (h : ∀ j, j < m → es.getD j ByteArray.empty = S (x j) ∧ Fit (x j) w) : txs (el (Eb b x m) b) m = es := by
  refine List.ext_getElem (by rw [txs_len, hl]) fun j h1 h2 => ?_
  have hj : j < m := by rw [txs_len] at h1; exact h1
  have e := txs_get (f := el (Eb b x m) b) hj
  rw [el_encs hb hj (h j hj).2, ← (h j hj).1] at e
  rwa [List.getD_eq_getElem?_getD, List.getD_eq_getElem?_getD, List.getElem?_eq_getElem h1, List.getElem?_eq_getElem h2] at e
theorem Eb_small {b m : Nat} {x : Nat → Int} (hb : b ≤ 8) (hm : m ≤ 4096) : (Eb b x m).size ≤ maxLen := by
  rw [Eb_size]
  have : m * b ≤ 4096 * 8 := Nat.mul_le_mul hm hb
  unfold maxLen; omega
def wds : List Int := [8, 16, 32, 64]
theorem wds_is {r : Nat} (h : r < 4) : ∃ b, Bw (wds.getD r 0) b ∧ 8 ≤ wds.getD r 0 := by
  rcases r with _ | _ | _ | _ | r
  · exact ⟨1, .inl ⟨rfl, rfl⟩, by decide⟩
  · exact ⟨2, .inr (.inl ⟨rfl, rfl⟩), by decide⟩
  · exact ⟨4, .inr (.inr (.inl ⟨rfl, rfl⟩)), by decide⟩
  · exact ⟨8, .inr (.inr (.inr ⟨rfl, rfl⟩)), by decide⟩
  · omega

/-! ### same, few, made -/
set_option maxRecDepth 10000 in
set_option maxHeartbeats 800000 in
theorem same_yes {w : Int} {a1 a2 : Option Addr} {n m c1 c2 : Nat} {l : List Int} {s : ByteArray} (W : World) (h1 : Sl W a1 n l) (h2 : Sl W a2 m l) (hn : n ≤ 1000000) :
    Calls Tryd.prog 13 #[.agg #[.int .i64 w, .slice a1 n c1, .string s], .agg #[.int .i64 w, .slice a2 m c2, .string s]] W (BoolEnd true W) := by
  have hnm : n = m := h1.1.symm.trans h2.1
  subst hnm
  have K := Lib.hid (fun w' (hb : Below W.heap.size W w') => rSame_is a1 a2 n c1 n c2 l l w' (h1.below hb) (h2.below hb) hn hn true (beq_self_eq_true l).symm)
  have hA := (Tx.new 29 W w a1 n c1 s).alloc (.cells #[.int .i64 w, .slice a2 n c2, .string s] 33)
  have s1 : (W.alloc (.cells #[.int .i64 w, .slice a1 n c1, .string s] 29)).heap.size = W.heap.size + 1 := by simp
  have hB := Tx.new' 33 (W.alloc (.cells #[.int .i64 w, .slice a1 n c1, .string s] 29)) s1.symm w a2 n c2 s
  have hb0 := (box_below W (.cells #[.int .i64 w, .slice a1 n c1, .string s] 29)).alloc (by omega) (.cells #[.int .i64 w, .slice a2 n c2, .string s] 33)
  clear h1 h2 hn s1
  go_enter Tryd.func13, Tryd.ntmps13
  go_wp2_with fail
  refine (K.out _ hb0).mono ?_
  rintro x w1 ⟨rfl, hd⟩
  have hA1 := hA.on hd.below
  have hB1 := hB.on hd.below
  have hb1 := hb0.trans (hd.below.mono hb0.size)
  have x2 := hA1.c2
  have y2 := hB1.c2
  clear hA hB hb0 hd
  go_wp2_with fail
  go_ret
  exact ⟨by simp, hb1⟩
set_option maxRecDepth 10000 in
theorem few_is {w : Int} {a : Option Addr} {n c : Nat} {s : ByteArray} (W : World) (hs : s.size ≤ maxLen) (hn : n ≤ 9223372036854775807) :
    Calls Tryd.prog 14 #[.agg #[.int .i64 w, .slice a n c, .string s]] W (BoolEnd (decide (s.size ≤ 2400) && decide (n ≤ 20)) W) := by
  have hb0 := box_below W (.cells #[.int .i64 w, .slice a n c, .string s] 33)
  unfold maxLen at hs
  by_cases h1 : s.size ≤ 2400
  · by_cases h2 : n ≤ 20
    · rw [decide_eq_true h1, decide_eq_true h2]
      have e1 : (s.size : Int) ≤ 2400 := by omega
      have e2 : (n : Int) ≤ 20 := by omega
      go_enter Tryd.func14, Tryd.ntmps14
      go_wp2_with fail
      go_ret
      exact ⟨rfl, hb0⟩
    · rw [decide_eq_true h1, decide_eq_false h2]
      have e1 : (s.size : Int) ≤ 2400 := by omega
      have e2 : ¬ (n : Int) ≤ 20 := by omega
      go_enter Tryd.func14, Tryd.ntmps14
      go_wp2_with fail
      go_ret
      exact ⟨rfl, hb0⟩
  · rw [decide_eq_false h1]
    have e1 : ¬ (s.size : Int) ≤ 2400 := by omega
    go_enter Tryd.func14, Tryd.ntmps14
    go_wp2_with fail
    go_ret
    exact ⟨rfl, hb0⟩
def MadeEnd (v : Value) (W : World) (e : Ending) (W' : World) : Prop := e = .returned v ∧ Below W.heap.size W W'
set_option maxRecDepth 10000 in
theorem made_is {w : Int} {a : Option Addr} {n c : Nat} {s : ByteArray} (W : World) :
    Calls Tryd.prog 15 #[.agg #[.int .i64 w, .slice a n c, .string s]] W (MadeEnd (.agg #[.int .i64 w, .slice a n c, .string s]) W) := by
  have s1 : (W.alloc (.cells #[.int .i64 w, .slice a n c, .string s] 33)).heap.size = W.heap.size + 1 := by simp
  have hB := Tx.new' 29 (W.alloc (.cells #[.int .i64 w, .slice a n c, .string s] 33)) s1.symm w a n c s
  have hb0 := (box_below W (.cells #[.int .i64 w, .slice a n c, .string s] 33)).alloc (by omega) (.cells #[.int .i64 w, .slice a n c, .string s] 29)
  have r0 := hB.c0
  have r1 := hB.c1
  have r2 := hB.c2
  clear s1
  go_enter Tryd.func15, Tryd.ntmps15
  go_wp2_with fail
  exact bodyPost_ret (v := .agg #[.int .i64 w, .slice a n c, .string s]) (by simp [results, Tryd.results15, go_sem, r0, r1, r2]) rfl ⟨rfl, hb0⟩
end Go.Proofs.YtdehcdnbalbdbaaDoor

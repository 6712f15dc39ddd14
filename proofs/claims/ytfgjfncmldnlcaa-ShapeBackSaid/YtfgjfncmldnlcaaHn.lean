import Derived.Test.YtfgjfncmldnlcaaHm
namespace Go.Proofs.Ytfgjfncmldnlcaa
open Go.RowKit

def SlPost (l : List Int) (W : World) (x : Ending) (W' : World) : Prop := ∃ a' n' c', x = .returned (.slice a' n' c') ∧ Sl W' a' n' l ∧ n' ≤ 20 ∧ Below W.heap.size W W'
theorem Clone_is (a : Option Addr) (n c : Nat) (l : List Int) (W : World) (h : Sl W a n l) (hn : n ≤ 20) : Calls Try.prog 25 #[.slice a n c] W (SlPost l W) := by
  rcases a with _ | a
  · have h0 : n = 0 := by
      rcases Nat.eq_zero_or_pos n with h0 | h0
      · exact h0
      · obtain ⟨b, off, e, _⟩ := h.2 h0; cases e
    subst h0
    obtain rfl := List.length_eq_zero_iff.1 h.1
    refine (Try.slices_Clone_int_nil 0 c W).mono ?_
    rintro x w ⟨rfl, rfl⟩
    exact ⟨none, 0, 0, rfl, Sl.nil _ _, by omega, Below.refl _ _⟩
  · by_cases h0 : n = 0
    · subst h0
      obtain rfl := List.length_eq_zero_iff.1 h.1
      refine (Try.slices_Clone_int_zero a c W).mono ?_
      rintro x w ⟨v', rfl, hown, _, hb⟩
      obtain ⟨a', c', rfl, hs⟩ := owns_sl (l := []) hown
      exact ⟨a', 0, c', rfl, hs, by omega, hb⟩
    · obtain ⟨b, off, e, hc⟩ := h.2 (by omega)
      injection e with e
      subst e
      refine (Try.slices_Clone_int b off n c l W (by rw [h.1]; exact Nat.le_refl _) (by omega) (fun j hj => hc j (by rw [← h.1]; exact hj))).mono ?_
      rintro x w ⟨v', rfl, hown, _, hb⟩
      rw [List.take_of_length_le (by rw [h.1]; exact Nat.le_refl _)] at hown
      obtain ⟨a', c', rfl, hs⟩ := owns_sl hown
      exact ⟨a', n, c', rfl, hs, hn, hb⟩

/-! ### Meet -/
def mtE (l k : List Int) : Int := if (l == k) = true ∨ k.length = 0 then 0 else if l.length = 0 then 0 else 4
def mtV (l k : List Int) : List Int := if (l == k) = true ∨ k.length = 0 then l else if l.length = 0 then k else []
def MtPost (l : List Int) (e : Int) (W : World) (x : Ending) (W' : World) : Prop := ∃ a' n' c', x = .returned (.tuple #[.slice a' n' c', .int .i64 e]) ∧ Sl W' a' n' l ∧ n' ≤ 20 ∧ Below W.heap.size W W'
theorem MtPost.of {l k : List Int} {d e : Int} {W W0 W' : World} {x : Ending} (h : ∃ a' n' c', x = .returned (.tuple #[.slice a' n' c', .int .i64 e]) ∧ Sl W' a' n' l ∧ n' ≤ 20 ∧ Below W0.heap.size W0 W') (hb : Below W.heap.size W W0) (hl : l = k) (hd : e = d) : MtPost k d W x W' := by
  subst hl hd
  obtain ⟨a', n', c', h1, h2, h3, h4⟩ := h
  exact ⟨a', n', c', h1, h2, h3, hb.trans (h4.mono hb.size)⟩
set_option maxRecDepth 10000 in
theorem Meet_is (a1 a2 : Option Addr) (n c m d : Nat) (l k : List Int) (W : World) (h1 : Sl W a1 n l) (h2 : Sl W a2 m k) (hn : n ≤ 20) (hm : m ≤ 20) :
    Calls Try.prog 19 #[.slice a1 n c, .slice a2 m d] W (MtPost (mtV l k) (mtE l k) W) := by
  have K := Lib.hid (Same_is a1 a2 n c m d l k W h1 h2 hn hm)
  have hl := h1.1
  have hk := h2.1
  have HL := Lib.hid (And.intro hl hk)
  have H1 := Lib.hid h1
  have H2 := Lib.hid h2
  have C1 := Lib.hid (fun w (hw : Below W.heap.size W w) => Clone_is a1 n c l w (h1.below hw) hn)
  have C2 := Lib.hid (fun w (hw : Below W.heap.size W w) => Clone_is a2 m d k w (h2.below hw) hm)
  obtain ⟨b, hb⟩ : ∃ b, b = (l == k) := ⟨_, rfl⟩
  rw [← hb] at K
  have HB := Lib.hid hb
  clear hb h1 h2 hl hk
  by_cases c1 : b = true
  · subst c1
    have e1 : mtE l k = 0 := if_pos (.inl HB.out.symm)
    have e2 : mtV l k = l := if_pos (.inl HB.out.symm)
    rw [e1, e2]
    clear e1 e2
    go_enter Try.func19, Try.ntmps19
    go_wp2_with fail
    refine K.out.mono ?_
    rintro x w1 ⟨rfl, hb1⟩
    go_wp2_with fail
    refine (C1.out _ hb1).mono ?_
    rintro x w2 ⟨a', n', c', rfl, hs, hn', hb2⟩
    go_wp2_with fail
    go_ret2
    exact ⟨a', n', c', rfl, hs, hn', hb1.trans (hb2.mono hb1.size)⟩
  obtain rfl : b = false := by simpa using c1
  by_cases c2 : m = 0
  · subst c2
    have e1 : mtE l k = 0 := if_pos (.inr HL.out.2)
    have e2 : mtV l k = l := if_pos (.inr HL.out.2)
    rw [e1, e2]
    clear e1 e2
    go_enter Try.func19, Try.ntmps19
    go_wp2_with fail
    refine K.out.mono ?_
    rintro x w1 ⟨rfl, hb1⟩
    go_wp2_with fail
    refine (C1.out _ hb1).mono ?_
    rintro x w2 ⟨a', n', c', rfl, hs, hn', hb2⟩
    go_wp2_with fail
    go_ret2
    exact ⟨a', n', c', rfl, hs, hn', hb1.trans (hb2.mono hb1.size)⟩
  have c2' : (m : Int) ≠ 0 := by omega
  have hno : ¬ ((l == k) = true ∨ k.length = 0) := by
    rintro (h | h)
    · rw [← HB.out] at h; cases h
    · have := HL.out.2; omega
  by_cases c3 : n = 0
  · subst c3
    have e1 : mtE l k = 0 := by unfold mtE; rw [if_neg hno, if_pos HL.out.1]
    have e2 : mtV l k = k := by unfold mtV; rw [if_neg hno, if_pos HL.out.1]
    rw [e1, e2]
    clear e1 e2 hno
    go_enter Try.func19, Try.ntmps19
    go_wp2_with fail
    refine K.out.mono ?_
    rintro x w1 ⟨rfl, hb1⟩
    go_wp2_with fail
    refine (C2.out _ hb1).mono ?_
    rintro x w2 ⟨a', n', c', rfl, hs, hn', hb2⟩
    go_wp2_with fail
    go_ret2
    exact ⟨a', n', c', rfl, hs, hn', hb1.trans (hb2.mono hb1.size)⟩
  have c3' : (n : Int) ≠ 0 := by omega
  have e1 : mtE l k = 4 := by unfold mtE; rw [if_neg hno, if_neg (by rw [HL.out.1]; exact c3)]
  have e2 : mtV l k = [] := by unfold mtV; rw [if_neg hno, if_neg (by rw [HL.out.1]; exact c3)]
  rw [e1, e2]
  clear e1 e2 hno
  go_enter Try.func19, Try.ntmps19
  go_wp2_with fail
  refine K.out.mono ?_
  rintro x w1 ⟨rfl, hb1⟩
  go_wp2_with fail
  go_ret2
  exact ⟨none, 0, 0, rfl, Sl.nil _ _, by omega, hb1⟩
set_option maxRecDepth 10000 in
theorem rMeet_is (a1 a2 : Option Addr) (n c m d : Nat) (l k : List Int) (W : World) (h1 : Sl W a1 n l) (h2 : Sl W a2 m k) (hn : n ≤ 20) (hm : m ≤ 20) :
    Calls Try.prog 20 #[.slice a1 n c, .slice a2 m d] W (MtPost (mtV l k) (mtE l k) W) := by
  obtain ⟨b, hb⟩ : ∃ b, b = (l == k) := ⟨_, rfl⟩
  have K := Lib.hid (rSame_is a1 a2 n c m d l k W h1 h2 hn hm b hb)
  have hl := h1.1
  have hk := h2.1
  have HL := Lib.hid (And.intro hl hk)
  have H1 := Lib.hid h1
  have H2 := Lib.hid h2
  have HB := Lib.hid hb
  clear hb h1 h2 hl hk
  by_cases c2 : m = 0
  · subst c2
    have e1 : mtE l k = 0 := if_pos (.inr HL.out.2)
    have e2 : mtV l k = l := if_pos (.inr HL.out.2)
    rw [e1, e2]
    clear e1 e2
    go_enter Try.func20, Try.ntmps20
    go_wp2_with fail
    go_ret2
    exact ⟨a1, n, c, rfl, H1.out, hn, Below.refl _ _⟩
  have c2' : ((m : Int) == 0) = false := beq_eq_false_iff_ne.2 (by omega)
  by_cases c1 : b = true
  · subst c1
    have e1 : mtE l k = 0 := if_pos (.inl HB.out.symm)
    have e2 : mtV l k = l := if_pos (.inl HB.out.symm)
    rw [e1, e2]
    clear e1 e2
    go_enter Try.func20, Try.ntmps20
    go_wp2_with fail
    refine K.out.mono ?_
    rintro x w1 ⟨rfl, hb1⟩
    go_wp2_with fail
    go_ret2
    exact ⟨a1, n, c, rfl, hb1.sl H1.out, hn, hb1.below⟩
  obtain rfl : b = false := by simpa using c1
  have hno : ¬ ((l == k) = true ∨ k.length = 0) := by
    rintro (h | h)
    · rw [← HB.out] at h; cases h
    · have := HL.out.2; omega
  by_cases c3 : n = 0
  · subst c3
    have e1 : mtE l k = 0 := by unfold mtE; rw [if_neg hno, if_pos HL.out.1]
    have e2 : mtV l k = k := by unfold mtV; rw [if_neg hno, if_pos HL.out.1]
    rw [e1, e2]
    clear e1 e2 hno
    go_enter Try.func20, Try.ntmps20
    go_wp2_with fail
    refine K.out.mono ?_
    rintro x w1 ⟨rfl, hb1⟩
    go_wp2_with fail
    go_ret2
    exact ⟨a2, m, d, rfl, hb1.sl H2.out, hm, hb1.below⟩
  have c3' : (n : Int) ≠ 0 := by omega
  have e1 : mtE l k = 4 := by unfold mtE; rw [if_neg hno, if_neg (by rw [HL.out.1]; exact c3)]
  have e2 : mtV l k = [] := by unfold mtV; rw [if_neg hno, if_neg (by rw [HL.out.1]; exact c3)]
  rw [e1, e2]
  clear e1 e2 hno
  go_enter Try.func20, Try.ntmps20
  go_wp2_with fail
  refine K.out.mono ?_
  rintro x w1 ⟨rfl, hb1⟩
  go_wp2_with fail
  go_ret2
  exact ⟨none, 0, 0, rfl, Sl.nil _ _, by omega, hb1.below⟩

/-! ### Items -/
def itV (l : List Int) : Int := if l.length = 0 then 1 else l.getD 0 0
def ItPost (v : Int) (l : List Int) (W : World) (x : Ending) (W' : World) : Prop := ∃ a' n' c', x = .returned (.tuple #[.int .i64 v, .slice a' n' c']) ∧ Sl W' a' n' l ∧ n' ≤ 20 ∧ Below W.heap.size W W'
theorem Sl.tail {W : World} {b off n : Nat} {l : List Int} (h : Sl W (some ⟨b, off, none⟩) n l) (hn : 0 < n) : Sl W (some ⟨b, off + 1, none⟩) (n - 1) l.tail := by
  obtain ⟨b', off', e, hc⟩ := h.2 hn
  injection e with e
  injection e with e1 e2 _
  subst e1 e2
  refine ⟨by rw [List.length_tail, h.1], fun _ => ⟨b, off + 1, rfl, fun j hj => ?_⟩⟩
  rw [Nat.add_assoc, hc (1 + j) (by omega), ← List.drop_one, getD_drop]
set_option maxRecDepth 10000 in
theorem rItems_is (a : Option Addr) (n c : Nat) (l : List Int) (W : World) (h : Sl W a n l) (hn : n ≤ 20) (hc : n ≤ c) (hc2 : c ≤ maxLen) :
    Calls Try.prog 22 #[.slice a n c] W (ItPost (itV l) l.tail W) := by
  unfold maxLen at hc2
  by_cases h0 : n = 0
  · subst h0
    obtain rfl := List.length_eq_zero_iff.1 h.1
    have HS := Lib.hid h
    clear h
    rw [show itV [] = 1 from rfl, List.tail_nil]
    go_enter Try.func22, Try.ntmps22
    go_wp2_with fail
    go_ret2
    exact ⟨none, 0, 0, rfl, Sl.nil _ _, by omega, Below.refl _ _⟩
  · obtain ⟨b, off, rfl, hcell⟩ := h.2 (by omega)
    have HT := Lib.hid (h.tail (by omega))
    have hv : itV l = l.getD 0 0 := if_neg (by rw [h.1]; exact h0)
    rw [hv]
    have hc0 := hcell 0 (by omega)
    rw [Nat.add_zero] at hc0
    generalize l.getD 0 0 = v at hc0 ⊢
    clear hv hcell h
    have e1 : (n : Int) ≠ 0 := by omega
    have e2 : (0 : Int) < n := by omega
    by_cases h1 : c = 1
    · subst h1
      obtain rfl : n = 1 := by omega
      have HT0 : Hid (∀ w a, Sl w a (1 - 1) l.tail) := Lib.hid fun w a => ⟨HT.out.1, fun h => by omega⟩
      go_enter Try.func22, Try.ntmps22
      go_wp2_with fail
      go_quiet (fail)
      go_wp2_with fail
      go_ret2
      exact ⟨_, 1 - 1, _, rfl, HT0.out _ _, by omega, Drawn.below ⟨_, rfl⟩⟩
    · go_enter Try.func22, Try.ntmps22
      go_wp2_with fail
      go_quiet (fail)
      go_wp2_with fail
      go_ret2
      exact ⟨_, n - 1, _, rfl, HT.out, by omega, Drawn.below ⟨_, rfl⟩⟩
set_option maxRecDepth 10000 in
set_option maxHeartbeats 800000 in
theorem Items_is (a : Option Addr) (n c : Nat) (l : List Int) (W : World) (h : Sl W a n l) (hn : n ≤ 20) (hc : n ≤ c) (hc2 : c ≤ maxLen) :
    Calls Try.prog 21 #[.slice a n c] W (ItPost (itV l) l.tail W) := by
  unfold maxLen at hc2
  by_cases h0 : n = 0
  · subst h0
    obtain rfl := List.length_eq_zero_iff.1 h.1
    have HS := Lib.hid h
    clear h
    rw [show itV [] = 1 from rfl, List.tail_nil]
    go_enter Try.func21, Try.ntmps21
    go_wp2_with fail
    go_ret2
    exact ⟨none, 0, 0, rfl, Sl.nil _ _, by omega, Below.refl _ _⟩
  · obtain ⟨b, off, rfl, hcell⟩ := h.2 (by omega)
    have HT := Lib.hid (h.tail (by omega))
    have hv : itV l = l.getD 0 0 := if_neg (by rw [h.1]; exact h0)
    rw [hv]
    have hc0 := hcell 0 (by omega)
    rw [Nat.add_zero] at hc0
    have hlt : b < W.heap.size := World.block_lt_of_cell? W _ hc0
    generalize l.getD 0 0 = v at hc0 ⊢
    clear hv hcell h
    have e1 : (n : Int) ≠ 0 := by omega
    have e2 : (0 : Int) < n := by omega
    by_cases h1 : c = 1
    · subst h1
      obtain rfl : n = 1 := by omega
      have KC := Lib.hid (fun w a c => Clone_is a (1 - 1) c l.tail w ⟨HT.out.1, fun h => by omega⟩ (by omega))
      go_enter Try.func21, Try.ntmps21
      go_wp2_with fail
      go_region_with (go_at_call 25; refine (KC.out _ _ _).mono ?_; rintro e w2 ⟨a', n', c', rfl, hs, hn', hb2⟩; have hc2 : w2.cell? ⟨b, off, none⟩ = some (.int .i64 v) := (hb2.cell (p := ⟨b, off, none⟩) (by exact hlt)).trans hc0)
      all_goals
        go_wp2_with fail
        go_ret2
        exact ⟨_, _, _, rfl, hs, hn', ⟨hb2.os, hb2.tape, hb2.output, hb2.size, hb2.block⟩⟩
    · have KC := Lib.hid (fun w c (hw : Below W.heap.size W w) => Clone_is _ (n - 1) c l.tail w (HT.out.below hw) (by omega))
      go_enter Try.func21, Try.ntmps21
      go_wp2_with fail
      go_region_with (go_at_call 25; refine (KC.out _ _ (by exact (Below.refl _ _).drew)).mono ?_; rintro e w2 ⟨a', n', c', rfl, hs, hn', hb2⟩; have hc2 : w2.cell? ⟨b, off, none⟩ = some (.int .i64 v) := (hb2.cell (p := ⟨b, off, none⟩) (by exact hlt)).trans hc0)
      all_goals
        go_wp2_with fail
        go_ret2
        exact ⟨_, _, _, rfl, hs, hn', ⟨hb2.os, hb2.tape, hb2.output, hb2.size, hb2.block⟩⟩
end Go.Proofs.Ytfgjfncmldnlcaa

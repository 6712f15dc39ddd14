import Derived.Test.YtfgjfncmldnlcaaHp
import Derived.Test.YtfgjfncmldnlcaaShelf
import Derived.WalkSpells
import Derived.WalkLawsBesides
import Derived.Lib.Hide
namespace Go.Proofs.Ytfgjfncmldnlcaa
open Go.RowKit

/-- A slice of ints, read. -/
def Sl (W : World) (a : Option Addr) (n : Nat) (l : List Int) : Prop :=
  l.length = n ∧ (0 < n → ∃ b off, a = some ⟨b, off, none⟩ ∧ ∀ j, j < n → W.cell? ⟨b, off + j, none⟩ = some (.int .i64 (l.getD j 0)))
theorem Sl.below {W W' : World} {a : Option Addr} {n : Nat} {l : List Int} (h : Sl W a n l) (hb : Below W.heap.size W W') : Sl W' a n l := by
  refine ⟨h.1, fun hn => ?_⟩
  obtain ⟨b, off, e, hc⟩ := h.2 hn
  exact ⟨b, off, e, fun j hj => (hb.cell (show (⟨b, off + j, none⟩ : Addr).block < W.heap.size from World.block_lt_of_cell? W _ (hc j hj))).trans (hc j hj)⟩
theorem Sl.nil (W : World) (a : Option Addr) : Sl W a 0 [] := ⟨rfl, fun h => by omega⟩

theorem w64 {x : Int} (h0 : -9223372036854775808 ≤ x) (h1 : x ≤ 9223372036854775807) : wrap64 x = x := by unfold wrap64; omega

/-! ### Size, May -/
def SizeIs (f : Nat) (a : Option Addr) (n c : Nat) (v e : Int) (W : World) : Prop :=
  Calls Try.prog f #[.slice a n c] W fun x W' => x = .returned (.tuple #[.int .i64 v, .int .i64 e]) ∧ W = W'
set_option maxRecDepth 10000 in
theorem Size_rank (a : Option Addr) (n c : Nat) (W : World) (hn : 3 < n) : SizeIs 10 a n c 0 3 W := by
  have e1 : (3 : Int) < (n : Int) := by omega
  unfold SizeIs
  go_enter Try.func10, Try.ntmps10
  go_wp2_with fail
  go_step3
  go_wp2_with fail
  try rw [Exit.noGoto_ret]
  go_ret2
  exact ⟨rfl, rfl⟩
set_option maxRecDepth 10000 in
theorem Size_few (a : Option Addr) (n c : Nat) (l : List Int) (W : World) (h : Sl W a n l) (hn : n ≤ 3) : SizeIs 10 a n c (szV l) (szE l) W := by
  have e1 : ¬ (3 : Int) < (n : Int) := by omega
  obtain ⟨v, hv⟩ : ∃ v, v = szV l := ⟨_, rfl⟩
  obtain ⟨e, he⟩ : ∃ e, e = szE l := ⟨_, rfl⟩
  rw [← hv, ← he]
  have HV := Lib.hid hv
  have HE := Lib.hid he
  have HS := Lib.hid h
  clear hv he h
  unfold SizeIs
  go_enter Try.func10, Try.ntmps10
  go_wp2_with fail
  go_step3
  go_wp2_with fail
  go_step3
  go_wp2_with fail
  go_loop [4, 5, 13] (fun s r i => ∃ (k : Nat) (sz er : Int), i = .int .i64 k ∧ s = .int .i64 sz ∧ r = .int .i64 er ∧ k ≤ n ∧ SzInv l k sz er) (fun _ _ i => n - (intOf i).toNat)
  case atStart => exact ⟨0, 1, 0, rfl, rfl, rfl, by omega, SzInv.start l⟩
  case round =>
    obtain ⟨k, sz, er, rfl, rfl, rfl, hk, hI⟩ := hrel
    have HI := Lib.hid hI
    clear hI
    by_cases hlt : k < n
    · have e2 : (k : Int) < (n : Int) := by omega
      obtain ⟨b, off, rfl, hc⟩ := HS.out.2 (by omega)
      have hck := hc k hlt
      have HC := Lib.hid hc
      clear hc
      obtain ⟨x, hx⟩ : ∃ x, x = l.getD k 0 := ⟨_, rfl⟩
      rw [← hx] at hck
      have HX := Lib.hid hx
      clear hx
      by_cases c1 : x < 0
      · have hE := szE_neg (by rw [HS.out.1]; exact hn) (negL_yes (j := k) (by rw [HS.out.1]; exact hlt) (by rw [← HX.out]; exact c1))
        have hV := szV_zero (l := l) (by rw [hE]; decide)
        obtain rfl : e = 5 := HE.out.trans hE
        obtain rfl : v = 0 := HV.out.trans hV
        clear hE hV
        go_wp2_with fail
        try rw [Exit.noGoto_ret]
        go_ret2
        exact ⟨rfl, rfl⟩
      by_cases c2 : 1099511627776 < x
      · go_wp2_with fail
        go_round
        case rel => exact ⟨k + 1, sz, 8, by go_num, rfl, rfl, by omega, HI.out.big (by rw [← HX.out]; exact c2)⟩
        case measure => simp [intOf]; omega
      · have hst := HI.out.step (by rw [HS.out.1]; exact hlt) (by rw [← HX.out]; omega) (by rw [← HX.out]; omega)
        have hm : 0 ≤ sz * x := Int.mul_nonneg HI.out.lo (by omega)
        have hm2 : sz * x ≤ 4097 * x := Int.mul_le_mul_of_nonneg_right HI.out.hi (by omega)
        rw [← HX.out, ← w64 (x := sz * x) (by omega) (by omega)] at hst
        have HT := Lib.hid hst
        clear hst hm hm2
        go_wp2_with fail
        go_round
        case rel => exact ⟨k + 1, _, er, by go_num, rfl, rfl, by omega, HT.out⟩
        case measure => simp [intOf]; omega
    · have e2 : ¬ (k : Int) < (n : Int) := by omega
      obtain rfl : k = n := by omega
      have hen := (show SzInv l l.length sz er by rw [HS.out.1]; exact HI.out).ends (by rw [HS.out.1]; exact hn)
      rcases hen with ⟨rfl, hE, hV⟩ | ⟨rfl, c3, hE, hV⟩ | ⟨rfl, c3, hE, hV⟩
      · obtain rfl : e = 8 := HE.out.trans hE
        obtain rfl : v = 0 := HV.out.trans hV
        clear hE hV
        go_wp2_with fail
        try rw [Exit.noGoto_ret]
        go_ret2
        exact ⟨rfl, rfl⟩
      · obtain rfl : e = 8 := HE.out.trans hE
        obtain rfl : v = 0 := HV.out.trans hV
        clear hE hV
        go_wp2_with fail
        try rw [Exit.noGoto_ret]
        go_ret2
        exact ⟨rfl, rfl⟩
      · obtain rfl : e = 0 := HE.out.trans hE
        obtain rfl : v = sz := HV.out.trans hV
        clear hE hV
        have c4 : ¬ 4096 < v := by omega
        go_wp2_with fail
        try rw [Exit.noGoto_ret]
        go_ret2
        exact ⟨rfl, rfl⟩
theorem Size_is (a : Option Addr) (n c : Nat) (l : List Int) (W : World) (h : Sl W a n l) : SizeIs 10 a n c (szV l) (szE l) W := by
  rcases Nat.lt_or_ge 3 n with h3 | h3
  · have e := szE_rank (l := l) (by rw [h.1]; exact h3)
    rw [e, szV_zero (by rw [e]; decide)]
    exact Size_rank a n c W h3
  · exact Size_few a n c l W h h3
set_option maxRecDepth 10000 in
theorem May_is (a : Option Addr) (n c : Nat) (l : List Int) (W : World) (h : Sl W a n l) (b : Bool) (hb : b = (szE l == 0)) :
    Calls Try.prog 16 #[.slice a n c] W fun x W' => x = .returned (.bool b) ∧ W = W' := by
  have hs := Size_is a n c l W h
  unfold SizeIs at hs
  have K := Lib.hid hs
  clear hs h
  subst hb
  go_enter Try.func16, Try.ntmps16
  go_wp2_with fail
  refine K.out.mono ?_
  rintro x w1 ⟨rfl, rfl⟩
  go_wp2_with fail
  go_ret
  exact ⟨rfl, rfl⟩
/-- Two slices of ints: whether they are the same. -/
theorem Equal_is (a1 a2 : Option Addr) (n c m d : Nat) (l k : List Int) (W : World) (h1 : Sl W a1 n l) (h2 : Sl W a2 m k) (hn : n ≤ 9223372036854775807) (hm : m ≤ 9223372036854775807) :
    Calls Try.prog 26 #[.slice a1 n c, .slice a2 m d] W fun x W' => x = .returned (.bool (l == k)) ∧ Below W.heap.size W W' := by
  by_cases hnm : n = m
  · subst hnm
    by_cases h0 : n = 0
    · subst h0
      have e1 := List.length_eq_zero_iff.1 h1.1
      have e2 := List.length_eq_zero_iff.1 h2.1
      subst e1 e2
      refine (Try.slices_Equal_int_empty a1 a2 c 0 d W (by decide)).mono ?_
      rintro x w ⟨rfl, rfl⟩
      exact ⟨rfl, Below.refl _ _⟩
    · obtain ⟨b1, o1, rfl, hc1⟩ := h1.2 (by omega)
      obtain ⟨b2, o2, rfl, hc2⟩ := h2.2 (by omega)
      refine (Try.slices_Equal_int b1 o1 n c b2 o2 n d l k W (by rw [h1.1]; exact Nat.le_refl _) (by rw [h2.1]; exact Nat.le_refl _) hn hm (fun j hj => hc1 j (by rw [← h1.1]; exact hj)) (fun j hj => hc2 j (by rw [← h2.1]; exact hj))).mono ?_
      rintro x w ⟨rfl, q, rfl⟩
      refine ⟨?_, ⟨rfl, rfl, rfl, Nat.le_refl _, fun _ _ => rfl⟩⟩
      rw [List.take_of_length_le (by rw [h1.1]; exact Nat.le_refl _), List.take_of_length_le (by rw [h2.1]; exact Nat.le_refl _)]
  · refine (Try.slices_Equal_int_lens a1 a2 n c m d W hnm).mono ?_
    rintro x w ⟨rfl, rfl⟩
    refine ⟨?_, Below.refl _ _⟩
    have : (l == k) = false := beq_eq_false_iff_ne.2 (by rintro rfl; exact hnm (h1.1.symm.trans h2.1))
    rw [this]
set_option maxRecDepth 10000 in
theorem Same_is (a1 a2 : Option Addr) (n c m d : Nat) (l k : List Int) (W : World) (h1 : Sl W a1 n l) (h2 : Sl W a2 m k) (hn : n ≤ 20) (hm : m ≤ 20) :
    Calls Try.prog 23 #[.slice a1 n c, .slice a2 m d] W fun x W' => x = .returned (.bool (l == k)) ∧ Below W.heap.size W W' := by
  have K := Lib.hid (Equal_is a1 a2 n c m d l k W h1 h2 (by omega) (by omega))
  obtain ⟨b, hb⟩ : ∃ b, b = (l == k) := ⟨_, rfl⟩
  rw [← hb] at K ⊢
  clear hb h1 h2
  go_enter Try.func23, Try.ntmps23
  go_wp2_with fail
  refine K.out.mono ?_
  rintro x w1 ⟨rfl, hb⟩
  go_wp2_with fail
  go_ret
  exact ⟨rfl, hb⟩
end Go.Proofs.Ytfgjfncmldnlcaa

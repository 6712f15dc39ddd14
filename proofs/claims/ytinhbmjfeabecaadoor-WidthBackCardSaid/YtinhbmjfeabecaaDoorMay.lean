import Derived.Test.YtinhbmjfeabecaaDoorNum2
namespace Go.Proofs.YtinhbmjfeabecaaDoor
open Go.RowKit

def figs (l : List UInt8) : List UInt8 := Lib.trimPrefix l [45]
def AllDigB (l : List UInt8) : Bool := l.all fun c => decide (48 ≤ c.toNat) && decide (c.toNat ≤ 57)
theorem allDigB {l : List UInt8} : AllDigB l = true ↔ AllDig l := by simp [AllDigB, AllDig]
def mayL (l : List UInt8) : Bool := decide (1 ≤ (figs l).length) && decide ((figs l).length ≤ 100) && AllDigB (figs l) && (decide ((figs l).head? ≠ some 48) || decide (l = [48]))

theorem figs_neg (l : List UInt8) : figs (45 :: l) = l := by simp [figs, Lib.trimPrefix, Lib.hasPrefix, List.isPrefixOf]
theorem figs_pos {l : List UInt8} (h : l.head? ≠ some 45) : figs l = l := by
  cases l with
  | nil => rfl
  | cons c r =>
    have hc : c ≠ 45 := by intro e; exact h (by rw [e]; rfl)
    have : Lib.hasPrefix (c :: r) [45] = false := by
      simp only [Lib.hasPrefix, List.isPrefixOf]
      simp; exact fun e => hc e.symm
    unfold figs Lib.trimPrefix
    rw [this]; rfl
theorem dec_head (n : Nat) : (Lib.decDigits n).head? ≠ some 45 := by
  intro h
  obtain ⟨c, r, e⟩ : ∃ c r, Lib.decDigits n = c :: r := by
    cases h2 : Lib.decDigits n with
    | nil => exact absurd h2 (decDigits_ne n)
    | cons c r => exact ⟨c, r, rfl⟩
  have hd := decDigits_dig n
  rw [e] at h hd
  injection h with h
  have := (allDig_cons.1 hd).1
  rw [h] at this
  exact absurd this.1 (by decide)
theorem itoa_pos {x : Int} (h : 0 ≤ x) : Lib.itoa x = Lib.decDigits x.natAbs := by
  unfold Lib.itoa; rw [if_neg (by omega), show x.toNat = x.natAbs by omega]
theorem itoa_neg {x : Int} (h : x < 0) : Lib.itoa x = 45 :: Lib.decDigits x.natAbs := by
  unfold Lib.itoa; rw [if_pos h]
theorem figs_itoa (x : Int) : figs (Lib.itoa x) = Lib.decDigits x.natAbs := by
  by_cases h : x < 0
  · rw [itoa_neg h, figs_neg]
  · rw [itoa_pos (by omega), figs_pos (dec_head _)]
theorem mayL_itoa (x : Int) : mayL (Lib.itoa x) = true ↔ x.natAbs < lim := by
  unfold mayL
  rw [figs_itoa]
  have h1 := decDigits_len_pos x.natAbs
  have h2 : AllDigB (Lib.decDigits x.natAbs) = true := allDigB.2 (decDigits_dig _)
  have h3 : (decide ((Lib.decDigits x.natAbs).head? ≠ some 48) || decide (Lib.itoa x = [48])) = true := by
    by_cases h0 : x = 0
    · subst h0
      rw [itoa_pos (Int.le_refl _), show (0 : Int).natAbs = 0 from rfl, decDigits_small (by omega)]; rfl
    · obtain ⟨c, r, e, hc⟩ := decDigits_head x.natAbs (by omega)
      rw [e]
      have : (c :: r).head? ≠ some 48 := by
        intro h; injection h with h; rw [h] at hc; exact hc rfl
      rw [Bool.or_eq_true]; exact .inl (decide_eq_true this)
  rw [h2, h3]
  simp only [Bool.and_true, Bool.and_eq_true, decide_eq_true_eq]
  rw [digs_lim]
  exact ⟨fun h => h.2, fun h => ⟨h1, h⟩⟩
theorem mayL_is {l : List UInt8} (h : mayL l = true) : ∃ x : Int, l = Lib.itoa x ∧ x.natAbs < lim := by
  have h0 := h
  unfold mayL at h
  simp only [Bool.and_eq_true, decide_eq_true_eq, Bool.or_eq_true] at h
  obtain ⟨⟨⟨h1, h2⟩, h3⟩, h4⟩ := h
  have h3 := allDigB.1 h3
  suffices hs : ∃ x : Int, l = Lib.itoa x by
    obtain ⟨x, rfl⟩ := hs
    exact ⟨x, rfl, (mayL_itoa x).1 h0⟩
  by_cases hz : l = [48]
  · exact ⟨0, by rw [hz, itoa_pos (Int.le_refl _), show (0 : Int).natAbs = 0 from rfl, decDigits_small (by omega)]; rfl⟩
  · have h4 : (figs l).head? ≠ some 48 := by rcases h4 with h | h; exact h; exact absurd h hz
    obtain ⟨c, r, e⟩ : ∃ c r, figs l = c :: r := by
      cases hf : figs l with
      | nil => rw [hf] at h1; simp at h1
      | cons c r => exact ⟨c, r, rfl⟩
    have hc : c.toNat ≠ 48 := by
      intro hc; apply h4; rw [e]; exact congrArg some (u8_ext hc)
    have hd := decDigits_of (figs l) h3 (by rw [e]; simp) (.inr ⟨c, r, e, hc⟩)
    have hpos : 0 < dval (figs l) := by
      rw [e] at h3 ⊢
      rw [dval_cons]
      have := (allDig_cons.1 h3).1
      have : 0 < (c.toNat - 48) * 10 ^ r.length := Nat.mul_pos (by omega) (Nat.pow_pos (by decide))
      omega
    by_cases hn : l.head? = some 45
    · obtain ⟨r', rfl⟩ : ∃ r', l = 45 :: r' := by
        cases l with
        | nil => cases hn
        | cons a r' => injection hn with hn; subst hn; exact ⟨r', rfl⟩
      rw [figs_neg] at hd hpos
      exact ⟨-(dval r' : Int), by rw [itoa_neg (by omega), show (-(dval r' : Int)).natAbs = dval r' by omega, ← hd]⟩
    · rw [figs_pos hn] at hd hpos
      exact ⟨(dval l : Int), by rw [itoa_pos (by omega), show ((dval l : Int)).natAbs = dval l by omega, ← hd]⟩
theorem itoa_inj {x y : Int} (h : Lib.itoa x = Lib.itoa y) : x = y := by
  have h1 := congrArg figs h
  rw [figs_itoa, figs_itoa] at h1
  have h2 := decDigits_inj h1
  by_cases hx : x < 0 <;> by_cases hy : y < 0
  · omega
  · rw [itoa_neg hx, itoa_pos (by omega)] at h
    exact absurd (congrArg List.head? h.symm) (dec_head _)
  · rw [itoa_neg hy, itoa_pos (by omega)] at h
    exact absurd (congrArg List.head? h) (dec_head _)
  · omega
end Go.Proofs.YtinhbmjfeabecaaDoor

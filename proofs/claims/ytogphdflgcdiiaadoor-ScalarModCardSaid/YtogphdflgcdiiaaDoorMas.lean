import Derived.Test.YtogphdflgcdiiaaDoorMar
namespace Go.Proofs.YtogphdflgcdiiaaDoor
set_option linter.unusedVariables false
set_option linter.unusedSimpArgs false
open Go.RowKit

def figs (l : List UInt8) : List UInt8 := Lib.trimPrefix l [45]
def AllDigB (l : List UInt8) : Bool := l.all fun c => decide (48 ≤ c.toNat) && decide (c.toNat ≤ 57)
theorem allDigB {l : List UInt8} : AllDigB l = true ↔ AllDig l := by simp [AllDigB, AllDig]
def mayL (l : List UInt8) : Bool := decide (1 ≤ (figs l).length) && decide ((figs l).length ≤ 100) && AllDigB (figs l) && (decide ((figs l).head? ≠ some 48) || decide (l = [48]))

theorem figs_neg (l : List UInt8) : figs (45 :: l) = l := by simp [figs, Lib.trimPrefix, Lib.hasPrefix, List.isPrefixOf]
theorem figs_pos {l : List UInt8} (h : l.head? ≠ some 45) : figs l = l := by
  cases l with
  | nil => rfl
  | cons c r =>
    have hc : c ≠ 45 := by intro e; exact h (by rw [e]; rfl)
    have : Lib.hasPrefix (c :: r) [45] = false := by
      simp only [Lib.hasPrefix, List.isPrefixOf]
      simp; exact fun e => hc e.symm
    unfold figs Lib.trimPrefix
    rw [this]; rfl
theorem dec_head (n : Nat) : (Lib.decDigits n).head? ≠ some 45 := by
  intro h
  obtain ⟨c, r, e⟩ : ∃ c r, Lib.decDigits n = c :: r := by
    cases h2 : Lib.decDigits n with
    | nil => exact absurd h2 (decDigits_ne n)
    | cons c r => exact ⟨c, r, rfl⟩
  have hd := decDigits_dig n
  rw [e] at h hd
  injection h with h
  have := (allDig_cons.1 hd).1
  rw [h] at this
  exact absurd this.1 (by decide)
theorem itoa_pos {x : Int} (h : 0 ≤ x) : Lib.itoa x = Lib.decDigits x.natAbs := by
  unfold Lib.itoa; rw [if_neg (by omega), show x.toNat = x.natAbs by omega]
theorem itoa_neg {x : Int} (h : x < 0) : Lib.itoa x = 45 :: Lib.decDigits x.natAbs := by
  unfold Lib.itoa; rw [if_pos h]
theorem figs_itoa (x : Int) : figs (Lib.itoa x) = Lib.decDigits x.natAbs := by
  by_cases h : x < 0
  · rw [itoa_neg h, figs_neg]
  · rw [itoa_pos (by omega), figs_pos (dec_head _)]
theorem mayL_itoa (x : Int) : mayL (Lib.itoa x) = true ↔ x.natAbs < lim := by
  unfold mayL
  rw [figs_itoa]
  have h1 := decDigits_len_pos x.natAbs
  have h2 : AllDigB (Lib.decDigits x.natAbs) = true := allDigB.2 (decDigits_dig _)
  have h3 : (decide ((Lib.decDigits x.natAbs).head? ≠ some 48) || decide (Lib.itoa x = [48])) = true := by
    by_cases h0 : x = 0
    · subst h0
      rw [itoa_pos (Int.le_refl _), show (0 : Int).natAbs = 0 from rfl, decDigits_small (by omega)]; rfl
    · obtain ⟨c, r, e, hc⟩ := decDigits_head x.natAbs (by omega)
      rw [e]
      have : (c :: r).head? ≠ some 48 := by
        intro h; injection h with h; rw [h] at hc; exact hc rfl
      rw [Bool.or_eq_true]; exact .inl (decide_eq_true this)
  rw [h2, h3]
  simp only [Bool.and_true, Bool.and_eq_true, decide_eq_true_eq]
  rw [digs_lim]
  exact ⟨fun h => h.2, fun h => ⟨h1, h⟩⟩
theorem mayL_is {l : List UInt8} (h : mayL l = true) : ∃ x : Int, l = Lib.itoa x ∧ x.natAbs < lim := by
  have h0 := h
  unfold mayL at h
  simp only [Bool.and_eq_true, decide_eq_true_eq, Bool.or_eq_true] at h
  obtain ⟨⟨⟨h1, h2⟩, h3⟩, h4⟩ := h
  have h3 := allDigB.1 h3
  suffices hs : ∃ x : Int, l = Lib.itoa x by
    obtain ⟨x, rfl⟩ := hs
    exact ⟨x, rfl, (mayL_itoa x).1 h0⟩
  by_cases hz : l = [48]
  · exact ⟨0, by rw [hz, itoa_pos (Int.le_refl _), show (0 : Int).natAbs = 0 from rfl, decDigits_small (by omega)]; rfl⟩
  · have h4 : (figs l).head? ≠ some 48 := by rcases h4 with h | h; exact h; exact absurd h hz
    obtain ⟨c, r, e⟩ : ∃ c r, figs l = c :: r := by
      cases hf : figs l with
      | nil => rw [hf] at h1; simp at h1
      | cons c r => exact ⟨c, r, rfl⟩
    have hc : c.toNat ≠ 48 := by
      intro hc; apply h4; rw [e]; exact congrArg some (u8_ext hc)
    have hd := decDigits_of (figs l) h3 (by rw [e]; simp) (.inr ⟨c, r, e, hc⟩)
    have hpos : 0 < dval (figs l) := by
      rw [e] at h3 ⊢
      rw [dval_cons]
      have := (allDig_cons.1 h3).1
      have : 0 < (c.toNat - 48) * 10 ^ r.length := Nat.mul_pos (by omega) (Nat.pow_pos (by decide))
      omega
    by_cases hn : l.head? = some 45
    · obtain ⟨r', rfl⟩ : ∃ r', l = 45 :: r' := by
        cases l with
        | nil => cases hn
        | cons a r' => injection hn with hn; subst hn; exact ⟨r', rfl⟩
      rw [figs_neg] at hd hpos
      exact ⟨-(dval r' : Int), by rw [itoa_neg (by omega), show (-(dval r' : Int)).natAbs = dval r' by omega, ← hd]⟩
    · rw [figs_pos hn] at hd hpos
      exact ⟨(dval l : Int), by rw [itoa_pos (by omega), show ((dval l : Int)).natAbs = dval l by omega, ← hd]⟩
theorem itoa_inj {x y : Int} (h : Lib.itoa x = Lib.itoa y) : x = y := by
  have h1 := congrArg figs h
  rw [figs_itoa, figs_itoa] at h1
  have h2 := decDigits_inj h1
  by_cases hx : x < 0 <;> by_cases hy : y < 0
  · omega
  · rw [itoa_neg hx, itoa_pos (by omega)] at h
    exact absurd (congrArg List.head? h.symm) (dec_head _)
  · rw [itoa_neg hy, itoa_pos (by omega)] at h
    exact absurd (congrArg List.head? h) (dec_head _)
  · omega
end Go.Proofs.YtogphdflgcdiiaaDoor
namespace Go.Proofs.YtogphdflgcdiiaaDoor
set_option linter.unusedVariables false
set_option linter.unusedSimpArgs false
open Go.RowKit

theorem get_take_dig {f : ByteArray} {k : Nat} (hk : k < f.size) (h : AllDig (f.data.toList.take k)) (hc : 48 ≤ (f[k]).toNat ∧ (f[k]).toNat ≤ 57) : AllDig (f.data.toList.take (k + 1)) := by
  rw [take_snoc f k hk]
  exact allDig_append.2 ⟨h, allDig_cons.2 ⟨hc, allDig_nil⟩⟩
theorem not_dig_of {f : ByteArray} {k : Nat} (hk : k < f.size) (hc : ¬ (48 ≤ (f[k]).toNat ∧ (f[k]).toNat ≤ 57)) : AllDigB f.data.toList = false := by
  cases h : AllDigB f.data.toList
  · rfl
  · exact absurd (dig_get f k (allDigB.1 h) hk) hc
def MayPost (b : Bool) (w : World) (e : Ending) (w' : World) : Prop := e = .returned (.bool b) ∧ w = w'
theorem ret_bool {a b : Bool} (h : a = b) : Ending.returned (.bool a) = .returned (.bool b) := by rw [h]
theorem head_get {f : ByteArray} (h : 0 < f.size) : f.data.toList.head? = some f[0] := by
  have hl : 0 < f.data.toList.length := by simpa using h
  cases hd : f.data.toList with
  | nil => rw [hd] at hl; simp at hl
  | cons a r =>
    have : f.data.toList[0]'hl = f[0] := rfl
    simp only [hd, List.getElem_cons_zero] at this
    rw [← this]; rfl
theorem str_tl (s : ByteArray) : s.toList = s.data.toList := ByteArray.toList_eq s

set_option maxRecDepth 10000 in
set_option maxHeartbeats 1600000 in
theorem may_any (s : ByteArray) (w : World) (hs : s.size ≤ maxLen) :
    Calls Tryd.prog 9 #[.string s] w (MayPost (mayL s.data.toList) w) := by
  obtain ⟨f, hf⟩ : ∃ f : ByteArray, f = ⟨(Lib.trimPrefix s.data.toList [45]).toArray⟩ := ⟨_, rfl⟩
  have hF : figs s.data.toList = f.data.toList := by rw [hf]; rfl
  have hfl : (f.data.toList).length = f.size := by simp
  have hT := Tryd.strings_TrimPrefix s ⟨#[45]⟩ w
  rw [show Lib.trimPrefix s.data.toList (⟨#[45]⟩ : ByteArray).data.toList = Lib.trimPrefix s.data.toList [45] from rfl, ← hf] at hT
  have hM : mayL s.data.toList = (decide (1 ≤ f.size) && decide (f.size ≤ 100) && AllDigB f.data.toList && (decide (f.data.toList.head? ≠ some 48) || decide (s.data.toList = [48]))) := by
    unfold mayL; rw [hF, hfl]
  rw [hM]
  have HT := Lib.hid hT
  clear hM hT hF hf hfl
  by_cases h0 : f.size = 0
  · have e0 : ((f.size : Int) == 0) = true := by rw [h0]; rfl
    go_enter Tryd.func9, Tryd.ntmps9
    go_wp2_with fail
    refine HT.out.mono ?_
    rintro e w1 ⟨rfl, rfl⟩
    go_wp2_with fail
    go_ret
    exact ⟨ret_bool (by simp [h0]), rfl⟩
  · by_cases h1 : 100 < f.size
    · have e0 : ((f.size : Int) == 0) = false := beq_eq_false_iff_ne.2 (by omega)
      go_enter Tryd.func9, Tryd.ntmps9
      go_wp2_with fail
      refine HT.out.mono ?_
      rintro e w1 ⟨rfl, rfl⟩
      go_wp2_with fail
      go_ret
      exact ⟨ret_bool (by simp [show ¬ f.size ≤ 100 by omega]), rfl⟩
    · have e0 : ((f.size : Int) == 0) = false := beq_eq_false_iff_ne.2 (by omega)
      have e1 : ¬ (100 : Int) < f.size := by omega
      go_enter Tryd.func9, Tryd.ntmps9
      go_wp2_with fail
      refine HT.out.mono ?_
      rintro e w1 ⟨rfl, rfl⟩
      go_wp2_with fail
      go_loop [17] (fun i => ∃ k : Nat, k ≤ f.size ∧ i = .int .i64 k ∧ AllDig (f.data.toList.take k)) (fun i => f.size - (intOf i).toNat)
      case atStart => exact ⟨0, Nat.zero_le _, rfl, allDig_nil⟩
      case round =>
        obtain ⟨k, hk, rfl, hI⟩ := hrel
        by_cases hlt : k < f.size
        · by_cases hc : 48 ≤ (f[k]).toNat ∧ (f[k]).toNat ≤ 57
          · have hst := get_take_dig hlt hI hc
            go_wp2_with fail
            go_round
            case rel => exact ⟨k + 1, by omega, by go_num, hst⟩
            case measure => simp [intOf]; omega
          · have hnd := not_dig_of hlt hc
            by_cases hc2 : (f[k]).toNat < 48
            · go_wp2_with fail
              go_ret
              exact ⟨ret_bool (by simp [hnd]), rfl⟩
            · have hc3 : 57 < (f[k]).toNat := by omega
              go_wp2_with fail
              go_ret
              exact ⟨ret_bool (by simp [hnd]), rfl⟩
        · rw [List.take_of_length_le (by simp; omega)] at hI
          have hh := head_get (f := f) (by omega)
          have hA := allDigB.2 hI
          by_cases hc : f[0] = 48
          · have hc' : (((f[0]).toNat : Int) != 48) = false := by rw [hc]; rfl
            have HC := Lib.hid hc
            have HH := Lib.hid hh
            clear hc hh
            go_wp2_with fail
            go_ret
            refine ⟨ret_bool ?_, rfl⟩
            rw [hA, HH.out, HC.out]
            show (s.toList == [48]) = _
            rw [str_tl]
            simp [show 1 ≤ f.size by omega, show f.size ≤ 100 by omega]
            rw [Bool.eq_iff_iff, beq_iff_eq, decide_eq_true_eq]
          · have hc' : (((f[0]).toNat : Int) != 48) = true := by
              rw [bne_iff_ne]; intro h; apply hc; exact u8_ext (by simpa using (by omega : (f[0]).toNat = 48))
            go_wp2_with fail
            go_ret
            exact ⟨ret_bool (by rw [hA, hh]; simp [hc]; omega), rfl⟩
end Go.Proofs.YtogphdflgcdiiaaDoor

/-
  Of num, what lex leans on: May, both sides; joined by shake.py out of the texts of stages 1 and 2.
-/
import Derived.Test.YtiopemimancliaaProg
import Derived.Test.YtiopemimancliaaShelf
import Derived.Lib.ItoaNum
import Derived.WalkKit
import Derived.WalkSpells
import Derived.WalkLawsBesides
import Derived.Lib.Hide
import Derived.Lib.Slices
import Derived.BigCall
import Derived.BigGuard
namespace Go.Proofs.Ytiopemimancliaa
section
open Go.Lib
theorem snocInd {α : Type} {P : List α → Prop} (nil : P []) (snoc : ∀ m c, P m → P (m ++ [c])) (l : List α) : P l := by
  have : ∀ r : List α, P r.reverse := by
    intro r
    induction r with
    | nil => exact nil
    | cons a r ih => rw [List.reverse_cons]; exact snoc _ _ ih
  have h := this l.reverse
  rwa [List.reverse_reverse] at h
def dval (l : List UInt8) : Nat := l.foldl (fun a c => a * 10 + (c.toNat - 48)) 0
def AllDig (l : List UInt8) : Prop := ∀ c ∈ l, 48 ≤ c.toNat ∧ c.toNat ≤ 57
theorem dval_snoc (l : List UInt8) (c : UInt8) : dval (l ++ [c]) = dval l * 10 + (c.toNat - 48) := by simp [dval]
theorem dval_append (l m : List UInt8) : dval (l ++ m) = dval l * 10 ^ m.length + dval m := by
  induction m using snocInd with
  | nil => simp [dval]
  | snoc m c ih =>
    rw [← List.append_assoc, dval_snoc, ih, dval_snoc, List.length_append]
    simp only [List.length_cons, List.length_nil, Nat.zero_add, Nat.pow_succ]
    rw [Nat.add_mul, Nat.mul_assoc]; omega
theorem dval_cons (c : UInt8) (l : List UInt8) : dval (c :: l) = (c.toNat - 48) * 10 ^ l.length + dval l := by
  rw [show c :: l = [c] ++ l from rfl, dval_append]; simp [dval]
theorem allDig_nil : AllDig [] := by simp [AllDig]
theorem allDig_append {l m : List UInt8} : AllDig (l ++ m) ↔ AllDig l ∧ AllDig m := by
  simp only [AllDig, List.mem_append]
  exact ⟨fun h => ⟨fun p hp => h p (.inl hp), fun p hp => h p (.inr hp)⟩, fun h p hp => hp.elim (h.1 p) (h.2 p)⟩
theorem allDig_cons {c : UInt8} {l : List UInt8} : AllDig (c :: l) ↔ (48 ≤ c.toNat ∧ c.toNat ≤ 57) ∧ AllDig l := by simp [AllDig]
theorem dig_toNat {d : Nat} (h : d < 10) : (UInt8.ofNat (48 + d)).toNat = 48 + d := by
  rw [UInt8.toNat_ofNat']; omega
theorem decDigits_small {n : Nat} (h : n < 10) : decDigits n = [UInt8.ofNat (48 + n)] := by rw [decDigits, dif_pos h]
theorem decDigits_big {n : Nat} (h : ¬ n < 10) : decDigits n = decDigits (n / 10) ++ [UInt8.ofNat (48 + n % 10)] := by rw [decDigits, dif_neg h]
theorem decDigits_all (n : Nat) : AllDig (decDigits n) ∧ dval (decDigits n) = n := by
  induction n using Nat.strongRecOn with
  | ind n ih =>
    by_cases h : n < 10
    · rw [decDigits_small h]
      have := dig_toNat h
      exact ⟨allDig_cons.2 ⟨by omega, allDig_nil⟩, by rw [dval_cons, this]; simp [dval]⟩
    · rw [decDigits_big h]
      obtain ⟨h1, h2⟩ := ih (n / 10) (by omega)
      have := dig_toNat (show n % 10 < 10 by omega)
      exact ⟨allDig_append.2 ⟨h1, allDig_cons.2 ⟨by omega, allDig_nil⟩⟩, by rw [dval_snoc, h2, this]; omega⟩
theorem decDigits_dig (n : Nat) : AllDig (decDigits n) := (decDigits_all n).1
theorem decDigits_ne (n : Nat) : decDigits n ≠ [] := by
  by_cases h : n < 10
  · rw [decDigits_small h]; simp
  · rw [decDigits_big h]; simp
theorem u8_ext {a b : UInt8} (h : a.toNat = b.toNat) : a = b := UInt8.toNat_inj.1 h
theorem decDigits_head (n : Nat) (h : 0 < n) : ∃ c r, decDigits n = c :: r ∧ c.toNat ≠ 48 := by
  induction n using Nat.strongRecOn with
  | ind n ih =>
    by_cases h10 : n < 10
    · rw [decDigits_small h10]
      exact ⟨_, [], rfl, by rw [dig_toNat h10]; omega⟩
    · rw [decDigits_big h10]
      obtain ⟨c, r, e, hc⟩ := ih (n / 10) (by omega) (by omega)
      exact ⟨c, r ++ [_], by rw [e]; rfl, hc⟩
theorem decDigits_of : ∀ (l : List UInt8), AllDig l → l ≠ [] → (l.length = 1 ∨ ∃ c r, l = c :: r ∧ c.toNat ≠ 48) → l = decDigits (dval l) := by
  intro l
  induction l using snocInd with
  | nil => intro _ h; exact absurd rfl h
  | snoc m c ih =>
    intro h _ h2
    obtain ⟨h3, h4⟩ := allDig_append.1 h
    have h5 := (allDig_cons.1 h4).1
    by_cases hm : m = []
    · subst hm
      have e : dval ([] ++ [c]) = c.toNat - 48 := by rw [dval_snoc]; simp [dval]
      rw [e, decDigits_small (by omega)]
      simp only [List.nil_append]
      congr 1
      exact u8_ext (by rw [dig_toNat (by omega)]; omega)
    · have hlen : 0 < m.length := List.length_pos_iff.2 hm
      obtain ⟨d, r, e, hd⟩ : ∃ d r, m = d :: r ∧ d.toNat ≠ 48 := by
        rcases h2 with h2 | ⟨d, r, e, hd⟩
        · rw [List.length_append] at h2; simp only [List.length_cons, List.length_nil] at h2; omega
        · cases m with
          | nil => exact absurd rfl hm
          | cons d' r' =>
            simp only [List.cons_append, List.cons.injEq] at e
            exact ⟨d', r', rfl, by rw [e.1]; exact hd⟩
      have hi := ih h3 hm (.inr ⟨d, r, e, hd⟩)
      have hpos : 0 < dval m := by
        rw [e, dval_cons]
        rw [e] at h3
        have := (allDig_cons.1 h3).1
        have hp : 0 < 10 ^ r.length := Nat.pow_pos (by decide)
        have : 0 < (d.toNat - 48) * 10 ^ r.length := Nat.mul_pos (by omega) hp
        omega
      rw [dval_snoc, decDigits_big (n := dval m * 10 + (c.toNat - 48)) (by omega), show (dval m * 10 + (c.toNat - 48)) / 10 = dval m by omega, ← hi, show (dval m * 10 + (c.toNat - 48)) % 10 = c.toNat - 48 by omega]
      congr 2
      exact u8_ext (by rw [dig_toNat (by omega)]; omega)
theorem decDigits_len_le {n k : Nat} (hk : 0 < k) : (decDigits n).length ≤ k ↔ n < 10 ^ k := by
  rw [decDigits_length]
  constructor
  · intro h
    exact Nat.lt_of_lt_of_le (lt_pow_nDigits n) (Nat.pow_le_pow_right (by decide) h)
  · intro h
    by_cases hz : n < 10
    · rw [nDigits_small hz]; exact hk
    · have : ∀ n, 10 ≤ n → 10 ^ (nDigits n - 1) ≤ n := by
        intro n
        induction n using Nat.strongRecOn with
        | ind n ih =>
          intro hn
          rw [nDigits_big (by omega), Nat.add_sub_cancel]
          by_cases h2 : n / 10 < 10
          · rw [nDigits_small h2]; omega
          · have h3 := ih (n / 10) (by omega) (by omega)
            have h4 := nDigits_pos (n / 10)
            have : 10 ^ nDigits (n / 10) = 10 ^ (nDigits (n / 10) - 1) * 10 := by rw [← Nat.pow_succ]; congr 1; omega
            omega
      have h1 := this n (by omega)
      have h2 : nDigits n - 1 < k := (Nat.pow_lt_pow_iff_right (a := 10) (by decide)).1 (by omega)
      omega
theorem decDigits_len_pos (n : Nat) : 0 < (decDigits n).length := List.length_pos_iff.2 (decDigits_ne n)
end
section
open Go.RowKit
theorem take_snoc (s : ByteArray) (k : Nat) (h : k < s.size) : s.data.toList.take (k + 1) = s.data.toList.take k ++ [s[k]] := by
  rw [List.take_succ_eq_append_getElem (by simpa using h)]; rfl
theorem dig_get (s : ByteArray) (k : Nat) (hd : AllDig s.data.toList) (hk : k < s.size) : 48 ≤ (s[k]).toNat ∧ (s[k]).toNat ≤ 57 := hd _ (by
  have : s.data.toList[k]'(by simpa using hk) = s[k] := rfl
  rw [← this]; exact List.getElem_mem _)
end
section
open Go.RowKit
def S (x : Int) : ByteArray := ⟨(Lib.itoa x).toArray⟩
theorem S_pos {n : Nat} {x : Int} (h : x.natAbs = n) (h0 : 0 ≤ x) : S x = ⟨(Lib.decDigits n).toArray⟩ := by
  unfold S Lib.itoa; rw [if_neg (by omega), show x.toNat = n by omega]
open Go.RowKit
def lim : Nat := 10 ^ 100
theorem digs_lim (n : Nat) : (Lib.decDigits n).length ≤ 100 ↔ n < lim := by unfold lim; exact decDigits_len_le (by decide)
end
section
open Go.RowKit
def figs (l : List UInt8) : List UInt8 := Lib.trimPrefix l [45]
def AllDigB (l : List UInt8) : Bool := l.all fun c => decide (48 ≤ c.toNat) && decide (c.toNat ≤ 57)
theorem allDigB {l : List UInt8} : AllDigB l = true ↔ AllDig l := by simp [AllDigB, AllDig]
def mayL (l : List UInt8) : Bool := decide (1 ≤ (figs l).length) && decide ((figs l).length ≤ 100) && AllDigB (figs l) && (decide ((figs l).head? ≠ some 48) || decide (l = [48]))
theorem figs_neg (l : List UInt8) : figs (45 :: l) = l := by simp [figs, Lib.trimPrefix, Lib.hasPrefix, List.isPrefixOf]
theorem figs_pos {l : List UInt8} (h : l.head? ≠ some 45) : figs l = l := by
  cases l with
  | nil => rfl
  | cons c r =>
    have hc : c ≠ 45 := by intro e; exact h (by rw [e]; rfl)
    have : Lib.hasPrefix (c :: r) [45] = false := by
      simp only [Lib.hasPrefix, List.isPrefixOf]
      simp; exact fun e => hc e.symm
    unfold figs Lib.trimPrefix
    rw [this]; rfl
theorem dec_head (n : Nat) : (Lib.decDigits n).head? ≠ some 45 := by
  intro h
  obtain ⟨c, r, e⟩ : ∃ c r, Lib.decDigits n = c :: r := by
    cases h2 : Lib.decDigits n with
    | nil => exact absurd h2 (decDigits_ne n)
    | cons c r => exact ⟨c, r, rfl⟩
  have hd := decDigits_dig n
  rw [e] at h hd
  injection h with h
  have := (allDig_cons.1 hd).1
  rw [h] at this
  exact absurd this.1 (by decide)
theorem itoa_pos {x : Int} (h : 0 ≤ x) : Lib.itoa x = Lib.decDigits x.natAbs := by
  unfold Lib.itoa; rw [if_neg (by omega), show x.toNat = x.natAbs by omega]
theorem itoa_neg {x : Int} (h : x < 0) : Lib.itoa x = 45 :: Lib.decDigits x.natAbs := by
  unfold Lib.itoa; rw [if_pos h]
theorem figs_itoa (x : Int) : figs (Lib.itoa x) = Lib.decDigits x.natAbs := by
  by_cases h : x < 0
  · rw [itoa_neg h, figs_neg]
  · rw [itoa_pos (by omega), figs_pos (dec_head _)]
theorem mayL_itoa (x : Int) : mayL (Lib.itoa x) = true ↔ x.natAbs < lim := by
  unfold mayL
  rw [figs_itoa]
  have h1 := decDigits_len_pos x.natAbs
  have h2 : AllDigB (Lib.decDigits x.natAbs) = true := allDigB.2 (decDigits_dig _)
  have h3 : (decide ((Lib.decDigits x.natAbs).head? ≠ some 48) || decide (Lib.itoa x = [48])) = true := by
    by_cases h0 : x = 0
    · subst h0
      rw [itoa_pos (Int.le_refl _), show (0 : Int).natAbs = 0 from rfl, decDigits_small (by omega)]; rfl
    · obtain ⟨c, r, e, hc⟩ := decDigits_head x.natAbs (by omega)
      rw [e]
      have : (c :: r).head? ≠ some 48 := by
        intro h; injection h with h; rw [h] at hc; exact hc rfl
      rw [Bool.or_eq_true]; exact .inl (decide_eq_true this)
  rw [h2, h3]
  simp only [Bool.and_true, Bool.and_eq_true, decide_eq_true_eq]
  rw [digs_lim]
  exact ⟨fun h => h.2, fun h => ⟨h1, h⟩⟩
theorem mayL_is {l : List UInt8} (h : mayL l = true) : ∃ x : Int, l = Lib.itoa x ∧ x.natAbs < lim := by
  have h0 := h
  unfold mayL at h
  simp only [Bool.and_eq_true, decide_eq_true_eq, Bool.or_eq_true] at h
  obtain ⟨⟨⟨h1, h2⟩, h3⟩, h4⟩ := h
  have h3 := allDigB.1 h3
  suffices hs : ∃ x : Int, l = Lib.itoa x by
    obtain ⟨x, rfl⟩ := hs
    exact ⟨x, rfl, (mayL_itoa x).1 h0⟩
  by_cases hz : l = [48]
  · exact ⟨0, by rw [hz, itoa_pos (Int.le_refl _), show (0 : Int).natAbs = 0 from rfl, decDigits_small (by omega)]; rfl⟩
  · have h4 : (figs l).head? ≠ some 48 := by rcases h4 with h | h; exact h; exact absurd h hz
    obtain ⟨c, r, e⟩ : ∃ c r, figs l = c :: r := by
      cases hf : figs l with
      | nil => rw [hf] at h1; simp at h1
      | cons c r => exact ⟨c, r, rfl⟩
    have hc : c.toNat ≠ 48 := by
      intro hc; apply h4; rw [e]; exact congrArg some (u8_ext hc)
    have hd := decDigits_of (figs l) h3 (by rw [e]; simp) (.inr ⟨c, r, e, hc⟩)
    have hpos : 0 < dval (figs l) := by
      rw [e] at h3 ⊢
      rw [dval_cons]
      have := (allDig_cons.1 h3).1
      have : 0 < (c.toNat - 48) * 10 ^ r.length := Nat.mul_pos (by omega) (Nat.pow_pos (by decide))
      omega
    by_cases hn : l.head? = some 45
    · obtain ⟨r', rfl⟩ : ∃ r', l = 45 :: r' := by
        cases l with
        | nil => cases hn
        | cons a r' => injection hn with hn; subst hn; exact ⟨r', rfl⟩
      rw [figs_neg] at hd hpos
      exact ⟨-(dval r' : Int), by rw [itoa_neg (by omega), show (-(dval r' : Int)).natAbs = dval r' by omega, ← hd]⟩
    · rw [figs_pos hn] at hd hpos
      exact ⟨(dval l : Int), by rw [itoa_pos (by omega), show ((dval l : Int)).natAbs = dval l by omega, ← hd]⟩
open Go.RowKit
theorem get_take_dig {f : ByteArray} {k : Nat} (hk : k < f.size) (h : AllDig (f.data.toList.take k)) (hc : 48 ≤ (f[k]).toNat ∧ (f[k]).toNat ≤ 57) : AllDig (f.data.toList.take (k + 1)) := by
  rw [take_snoc f k hk]
  exact allDig_append.2 ⟨h, allDig_cons.2 ⟨hc, allDig_nil⟩⟩
theorem not_dig_of {f : ByteArray} {k : Nat} (hk : k < f.size) (hc : ¬ (48 ≤ (f[k]).toNat ∧ (f[k]).toNat ≤ 57)) : AllDigB f.data.toList = false := by
  cases h : AllDigB f.data.toList
  · rfl
  · exact absurd (dig_get f k (allDigB.1 h) hk) hc
def MayPost (b : Bool) (w : World) (e : Ending) (w' : World) : Prop := e = .returned (.bool b) ∧ w = w'
theorem ret_bool {a b : Bool} (h : a = b) : Ending.returned (.bool a) = .returned (.bool b) := by rw [h]
theorem head_get {f : ByteArray} (h : 0 < f.size) : f.data.toList.head? = some f[0] := by
  have hl : 0 < f.data.toList.length := by simpa using h
  cases hd : f.data.toList with
  | nil => rw [hd] at hl; simp at hl
  | cons a r =>
    have : f.data.toList[0]'hl = f[0] := rfl
    simp only [hd, List.getElem_cons_zero] at this
    rw [← this]; rfl
theorem str_tl (s : ByteArray) : s.toList = s.data.toList := ByteArray.toList_eq s
set_option maxRecDepth 10000 in
set_option maxHeartbeats 1600000 in
theorem may_any (s : ByteArray) (w : World) (hs : s.size ≤ maxLen) :
    Calls Try.prog 40 #[.string s] w (MayPost (mayL s.data.toList) w) := by
  obtain ⟨f, hf⟩ : ∃ f : ByteArray, f = ⟨(Lib.trimPrefix s.data.toList [45]).toArray⟩ := ⟨_, rfl⟩
  have hF : figs s.data.toList = f.data.toList := by rw [hf]; rfl
  have hfl : (f.data.toList).length = f.size := by simp
  have hT := Try.strings_TrimPrefix s ⟨#[45]⟩ w
  rw [show Lib.trimPrefix s.data.toList (⟨#[45]⟩ : ByteArray).data.toList = Lib.trimPrefix s.data.toList [45] from rfl, ← hf] at hT
  have hM : mayL s.data.toList = (decide (1 ≤ f.size) && decide (f.size ≤ 100) && AllDigB f.data.toList && (decide (f.data.toList.head? ≠ some 48) || decide (s.data.toList = [48]))) := by
    unfold mayL; rw [hF, hfl]
  rw [hM]
  have HT := Lib.hid hT
  clear hM hT hF hf hfl
  by_cases h0 : f.size = 0
  · have e0 : ((f.size : Int) == 0) = true := by rw [h0]; rfl
    go_enter Try.func40, Try.ntmps40
    go_wp2_with fail
    refine HT.out.mono ?_
    rintro e w1 ⟨rfl, rfl⟩
    go_wp2_with fail
    go_ret
    exact ⟨ret_bool (by simp [h0]), rfl⟩
  · by_cases h1 : 100 < f.size
    · have e0 : ((f.size : Int) == 0) = false := beq_eq_false_iff_ne.2 (by omega)
      go_enter Try.func40, Try.ntmps40
      go_wp2_with fail
      refine HT.out.mono ?_
      rintro e w1 ⟨rfl, rfl⟩
      go_wp2_with fail
      go_ret
      exact ⟨ret_bool (by simp [show ¬ f.size ≤ 100 by omega]), rfl⟩
    · have e0 : ((f.size : Int) == 0) = false := beq_eq_false_iff_ne.2 (by omega)
      have e1 : ¬ (100 : Int) < f.size := by omega
      go_enter Try.func40, Try.ntmps40
      go_wp2_with fail
      refine HT.out.mono ?_
      rintro e w1 ⟨rfl, rfl⟩
      go_wp2_with fail
      go_loop [17] (fun i => ∃ k : Nat, k ≤ f.size ∧ i = .int .i64 k ∧ AllDig (f.data.toList.take k)) (fun i => f.size - (intOf i).toNat)
      case atStart => exact ⟨0, Nat.zero_le _, rfl, allDig_nil⟩
      case round =>
        obtain ⟨k, hk, rfl, hI⟩ := hrel
        by_cases hlt : k < f.size
        · by_cases hc : 48 ≤ (f[k]).toNat ∧ (f[k]).toNat ≤ 57
          · have hst := get_take_dig hlt hI hc
            go_wp2_with fail
            go_round
            case rel => exact ⟨k + 1, by omega, by go_num, hst⟩
            case measure => simp [intOf]; omega
          · have hnd := not_dig_of hlt hc
            by_cases hc2 : (f[k]).toNat < 48
            · go_wp2_with fail
              go_ret
              exact ⟨ret_bool (by simp [hnd]), rfl⟩
            · have hc3 : 57 < (f[k]).toNat := by omega
              go_wp2_with fail
              go_ret
              exact ⟨ret_bool (by simp [hnd]), rfl⟩
        · rw [List.take_of_length_le (by simp; omega)] at hI
          have hh := head_get (f := f) (by omega)
          have hA := allDigB.2 hI
          by_cases hc : f[0] = 48
          · have hc' : (((f[0]).toNat : Int) != 48) = false := by rw [hc]; rfl
            have HC := Lib.hid hc
            have HH := Lib.hid hh
            clear hc hh
            go_wp2_with fail
            go_ret
            refine ⟨ret_bool ?_, rfl⟩
            rw [hA, HH.out, HC.out]
            show (s.toList == [48]) = _
            rw [str_tl]
            simp [show 1 ≤ f.size by omega, show f.size ≤ 100 by omega]
            rw [Bool.eq_iff_iff, beq_iff_eq, decide_eq_true_eq]
          · have hc' : (((f[0]).toNat : Int) != 48) = true := by
              rw [bne_iff_ne]; intro h; apply hc; exact u8_ext (by simpa using (by omega : (f[0]).toNat = 48))
            go_wp2_with fail
            go_ret
            exact ⟨ret_bool (by rw [hA, hh]; simp [hc]; omega), rfl⟩
end
section
open Go.RowKit
theorem lim_digs {n : Nat} (h : n < lim) : (Lib.decDigits n).length ≤ 100 := (digs_lim n).2 h
theorem S_size {x : Int} (h : x.natAbs < lim) : (S x).size ≤ 101 := by
  have h1 := lim_digs h
  show (Lib.itoa x).toArray.size ≤ 101
  rw [List.size_toArray]
  by_cases hx : x < 0
  · rw [itoa_neg hx, List.length_cons]; omega
  · rw [itoa_pos (by omega)]; omega
end
section
open Go.RowKit
def Is (s : ByteArray) : Option Int → Prop
  | some x => s = S x ∧ x.natAbs < lim
  | none => mayL s.data.toList = false ∧ s.size ≤ maxLen
theorem is_ex (s : ByteArray) (hs : s.size ≤ maxLen) : ∃ o, Is s o := by
  cases h : mayL s.data.toList
  · exact ⟨none, h, hs⟩
  · obtain ⟨x, hx, hl⟩ := mayL_is h
    refine ⟨some x, ?_, hl⟩
    obtain ⟨⟨d⟩⟩ := s
    show _ = (⟨(Lib.itoa x).toArray⟩ : ByteArray)
    have : d = Lib.itoa x := hx
    rw [this]
theorem Is.size {s : ByteArray} {o : Option Int} (h : Is s o) : s.size ≤ maxLen := by
  cases o with
  | none => exact h.2
  | some x => rw [h.1]; exact Nat.le_trans (S_size h.2) (by decide)
theorem Is.may {s : ByteArray} {o : Option Int} (h : Is s o) : mayL s.data.toList = o.isSome := by
  cases o with
  | none => exact h.1
  | some x => rw [h.1]; exact (mayL_itoa x).2 h.2
theorem May_opt {s : ByteArray} {o : Option Int} (w : World) (hs : Is s o) : Calls Try.prog 40 #[.string s] w (MayPost o.isSome w) := by
  rw [← hs.may]; exact may_any s w hs.size
end
section
open Go.RowKit
theorem dig_lit {l : List UInt8} (ha : AllDig l) (hc : ∃ c r, l = c :: r ∧ c.toNat ≠ 48) : Lib.decDigits (dval l) = l := by
  have hne : l ≠ [] := by obtain ⟨c, r, rfl, _⟩ := hc; simp
  exact (decDigits_of l ha hne (.inr hc)).symm
theorem S_lit {l : List UInt8} {n : Nat} (hn : dval l = n) (ha : AllDig l) (hc : ∃ c r, l = c :: r ∧ c.toNat ≠ 48) : S (n : Int) = ⟨l.toArray⟩ := by
  rw [S_pos (n := n) (by omega) (by omega), ← hn, dig_lit ha hc]
end
open Go.RowKit
def RMayIs (a : ByteArray) (v : Bool) : Prop := ∀ w, Calls Try.prog 34 #[.string a] w (MayPost v w)
theorem mayL_short {l : List UInt8} (h : (figs l).length < 1 ∨ 100 < (figs l).length) : mayL l = false := by
  unfold mayL
  rcases h with h | h
  · rw [decide_eq_false (by omega)]; rfl
  · rw [decide_eq_false (p := (figs l).length ≤ 100) (by omega)]; simp
theorem mayL_zero {l : List UInt8} (h : (figs l).head? = some 48) (hl : l ≠ [48]) : mayL l = false := by
  unfold mayL
  rw [h, decide_eq_false hl]; simp
theorem mayL_bad {l : List UInt8} (h : AllDigB (figs l) = false) : mayL l = false := by
  unfold mayL
  rw [h]; simp
theorem mayL_good {l : List UInt8} (h1 : 1 ≤ (figs l).length) (h2 : (figs l).length ≤ 100) (h3 : AllDigB (figs l) = true) (h4 : (figs l).head? ≠ some 48) : mayL l = true := by
  unfold mayL
  rw [decide_eq_true h1, decide_eq_true h2, h3, decide_eq_true h4]; rfl
theorem drop_head {l : List UInt8} {a : Nat} (h : a < l.length) : (l.drop a).head? = some l[a] := by simp [List.head?_drop, h]
theorem allB_true {l : List UInt8} (h : ∀ (k : Nat) (hk : k < l.length), 48 ≤ (l[k]).toNat ∧ (l[k]).toNat ≤ 57) : AllDigB l = true := allDigB.2 fun c hc => by
  obtain ⟨k, hk, rfl⟩ := List.getElem_of_mem hc
  exact h k hk
theorem allB_false {l : List UInt8} {k : Nat} (hk : k < l.length) (h : ¬ (48 ≤ (l[k]).toNat ∧ (l[k]).toNat ≤ 57)) : AllDigB l = false := by
  rw [Bool.eq_false_iff]
  intro h2
  exact h (allDigB.1 h2 _ (List.getElem_mem hk))
def UpTo (s : ByteArray) (a i : Nat) : Prop := ∀ (k : Nat) (hk : k < s.size), a ≤ k → k < i → 48 ≤ (s[k]).toNat ∧ (s[k]).toNat ≤ 57
theorem may_upto {s : ByteArray} {a : Nat} (hf : figs s.data.toList = s.data.toList.drop a) (h1 : a < s.size) (h2 : s.size - a ≤ 100) (h3 : (s[a]).toNat ≠ 48) (hu : UpTo s a s.size) : mayL s.data.toList = true := by
  have hl : s.data.toList.length = s.size := by simp
  refine mayL_good (by rw [hf]; simp; omega) (by rw [hf]; simp; omega) ?_ ?_
  · rw [hf]
    refine allB_true fun k hk => ?_
    rw [List.length_drop, hl] at hk
    have := hu (a + k) (by omega) (by omega) (by omega)
    simp only [List.getElem_drop]
    exact this
  · rw [hf, drop_head (by omega)]
    intro h
    have : s[a] = 48 := Option.some.inj h
    exact h3 (by rw [this]; rfl)
theorem may_at48 {s : ByteArray} {a : Nat} (hf : figs s.data.toList = s.data.toList.drop a) (h1 : a < s.size) (h3 : (s[a]).toNat = 48) (hz : s.data.toList ≠ [48]) : mayL s.data.toList = false := by
  have hl : s.data.toList.length = s.size := by simp
  refine mayL_zero ?_ hz
  rw [hf, drop_head (by omega)]
  have : s[a] = 48 := UInt8.toNat_inj.1 h3
  exact congrArg some this
theorem may_bad {s : ByteArray} {a k : Nat} (hf : figs s.data.toList = s.data.toList.drop a) (h1 : a ≤ k) (hk : k < s.size) (h3 : ¬ (48 ≤ (s[k]).toNat ∧ (s[k]).toNat ≤ 57)) : mayL s.data.toList = false := by
  have hl : s.data.toList.length = s.size := by simp
  refine mayL_bad ?_
  rw [hf]
  refine allB_false (k := k - a) (by rw [List.length_drop, hl]; omega) ?_
  have e : a + (k - a) = k := by omega
  simp only [List.getElem_drop, e]
  exact h3
theorem may_len {s : ByteArray} {a : Nat} (hf : figs s.data.toList = s.data.toList.drop a) (h : s.size - a < 1 ∨ 100 < s.size - a) : mayL s.data.toList = false := by
  refine mayL_short ?_
  rw [hf, List.length_drop, show s.data.toList.length = s.size by simp]
  exact h
set_option maxRecDepth 10000 in
set_option maxHeartbeats 3200000 in
theorem rMay_any (s : ByteArray) (hs : s.size ≤ maxLen) : RMayIs s (mayL s.data.toList) := by
  intro w
  unfold maxLen at hs
  by_cases hz : s.data.toList = [48]
  · have e0 : (s.toList == [48]) = true := by rw [str_tl, hz]; rfl
    have hm := Lib.hid (show mayL s.data.toList = true by rw [hz]; decide)
    clear hz
    go_enter Try.func34, Try.ntmps34
    go_wp2_with fail
    go_ret
    exact ⟨ret_bool hm.out.symm, rfl⟩
  have e0 : (s.toList == [48]) = false := by rw [str_tl]; exact beq_eq_false_iff_ne.2 hz
  by_cases he : s.size = 0
  · have hn : s.data.toList = [] := List.eq_nil_of_length_eq_zero (by simpa using he)
    have e1 : s.toList.isEmpty = true := by rw [str_tl, hn]; rfl
    have hm := Lib.hid (show mayL s.data.toList = false by rw [hn]; decide)
    clear hz hn
    go_enter Try.func34, Try.ntmps34
    go_wp2_with fail
    go_ret
    exact ⟨ret_bool hm.out.symm, rfl⟩
  have hp0 : 0 < s.size := by omega
  have hh := head_get hp0
  have e1 : s.toList.isEmpty = false := by
    rw [str_tl]
    cases hl : s.data.toList with
    | nil => rw [hl] at hh; cases hh
    | cons a r => rfl
  by_cases h5 : (s[0]).toNat = 45
  · have e2 : (((s[0]).toNat : Int) == 45) = true := by rw [h5]; rfl
    have hf : figs s.data.toList = s.data.toList.drop 1 := by
      cases hl : s.data.toList with
      | nil => rw [hl] at hh; cases hh
      | cons c r =>
        rw [hl] at hh
        have : c = 45 := by
          have h6 : c = s[0] := by simpa using hh
          rw [h6]; exact UInt8.toNat_inj.1 h5
        rw [this, figs_neg]; rfl
    clear hh h5
    by_cases t1 : s.size < 1 + 1
    · have hm := Lib.hid (may_len hf (.inl (by omega)))
      have t1' : (s.size : Int) - 1 < 1 := by omega
      clear hf hz
      go_enter Try.func34, Try.ntmps34
      go_wp2_with fail
      go_ret
      exact ⟨ret_bool hm.out.symm, rfl⟩
    by_cases t2 : 100 < s.size - 1
    · have hm := Lib.hid (may_len hf (.inr t2))
      have t1' : ¬ (s.size : Int) - 1 < 1 := by omega
      have t2' : (100 : Int) < (s.size : Int) - 1 := by omega
      clear hf hz
      go_enter Try.func34, Try.ntmps34
      go_wp2_with fail
      go_ret
      exact ⟨ret_bool hm.out.symm, rfl⟩
    have hp : 1 < s.size := by omega
    have t1' : ¬ (s.size : Int) - 1 < 1 := by omega
    have t2' : ¬ (100 : Int) < (s.size : Int) - 1 := by omega
    have t5 : s.size ≤ 101 := by omega
    by_cases t3 : (s[1]).toNat = 48
    · have hm := Lib.hid (may_at48 hf hp t3 hz)
      have t3' : (((s[1]).toNat : Int) == 48) = true := by rw [t3]; rfl
      clear hf hz t3
      go_enter Try.func34, Try.ntmps34
      go_wp2_with fail
      go_ret
      exact ⟨ret_bool hm.out.symm, rfl⟩
    have t3' : (((s[1]).toNat : Int) == 48) = false := beq_eq_false_iff_ne.2 (by omega)
    have HF := Lib.hid (And.intro hf t3)
    clear hf t3 hz
    go_enter Try.func34, Try.ntmps34
    go_wp2_with fail
    go_loop [4] (fun i => ∃ k : Nat, 1 ≤ k ∧ k ≤ s.size ∧ i = .int .i64 k ∧ UpTo s 1 k) (fun i => s.size - (intOf i).toNat)
    case atStart => exact ⟨1, Nat.le_refl _, by omega, rfl, fun k _ h1 h2 => by omega⟩
    case round =>
      obtain ⟨k, hk0, hk, rfl, hu⟩ := hrel
      have HU := Lib.hid hu
      clear hu
      by_cases hlt : k < s.size
      · by_cases c1 : (s[k]).toNat < 48
        · have hm := Lib.hid (may_bad HF.out.1 hk0 hlt (by omega))
          go_wp2_with fail
          go_ret
          exact ⟨ret_bool hm.out.symm, rfl⟩
        · by_cases c2 : 57 < (s[k]).toNat
          · have hm := Lib.hid (may_bad HF.out.1 hk0 hlt (by omega))
            go_wp2_with fail
            go_ret
            exact ⟨ret_bool hm.out.symm, rfl⟩
          · go_wp2_with fail
            go_round
            case rel =>
              refine ⟨k + 1, by omega, by omega, by go_num, fun j hj h1 h2 => ?_⟩
              by_cases hjk : j = k
              · subst hjk; omega
              · exact HU.out j hj h1 (by omega)
            case measure => simp [intOf]; omega
      · have hke : k = s.size := by omega
        have hm := Lib.hid (may_upto HF.out.1 hp (by omega) HF.out.2 (by rw [← hke]; exact HU.out))
        go_wp2_with fail
        go_ret
        exact ⟨ret_bool hm.out.symm, rfl⟩
  · have e2 : (((s[0]).toNat : Int) == 45) = false := beq_eq_false_iff_ne.2 (by omega)
    have hf : figs s.data.toList = s.data.toList.drop 0 := by
      rw [List.drop_zero]
      refine figs_pos ?_
      rw [hh]
      intro h
      have : s[0] = 45 := by simpa using h
      exact h5 (by rw [this]; rfl)
    clear hh h5
    have t1 : ¬ s.size < 0 + 1 := by omega
    by_cases t2 : 100 < s.size - 0
    · have hm := Lib.hid (may_len hf (.inr t2))
      have t1' : ¬ (s.size : Int) - 0 < 1 := by omega
      have t2' : (100 : Int) < (s.size : Int) - 0 := by omega
      clear hf hz
      go_enter Try.func34, Try.ntmps34
      go_wp2_with fail
      go_ret
      exact ⟨ret_bool hm.out.symm, rfl⟩
    have hp : 0 < s.size := by omega
    have t1' : ¬ (s.size : Int) - 0 < 1 := by omega
    have t2' : ¬ (100 : Int) < (s.size : Int) - 0 := by omega
    have t5 : s.size ≤ 101 := by omega
    by_cases t3 : (s[0]).toNat = 48
    · have hm := Lib.hid (may_at48 hf hp t3 hz)
      have t3' : (((s[0]).toNat : Int) == 48) = true := by rw [t3]; rfl
      clear hf hz t3
      go_enter Try.func34, Try.ntmps34
      go_wp2_with fail
      go_ret
      exact ⟨ret_bool hm.out.symm, rfl⟩
    have t3' : (((s[0]).toNat : Int) == 48) = false := beq_eq_false_iff_ne.2 (by omega)
    have HF := Lib.hid (And.intro hf t3)
    clear hf t3 hz
    go_enter Try.func34, Try.ntmps34
    go_wp2_with fail
    go_loop [4] (fun i => ∃ k : Nat, 0 ≤ k ∧ k ≤ s.size ∧ i = .int .i64 k ∧ UpTo s 0 k) (fun i => s.size - (intOf i).toNat)
    case atStart => exact ⟨0, Nat.le_refl _, by omega, rfl, fun k _ h1 h2 => by omega⟩
    case round =>
      obtain ⟨k, hk0, hk, rfl, hu⟩ := hrel
      have HU := Lib.hid hu
      clear hu
      by_cases hlt : k < s.size
      · by_cases c1 : (s[k]).toNat < 48
        · have hm := Lib.hid (may_bad HF.out.1 hk0 hlt (by omega))
          go_wp2_with fail
          go_ret
          exact ⟨ret_bool hm.out.symm, rfl⟩
        · by_cases c2 : 57 < (s[k]).toNat
          · have hm := Lib.hid (may_bad HF.out.1 hk0 hlt (by omega))
            go_wp2_with fail
            go_ret
            exact ⟨ret_bool hm.out.symm, rfl⟩
          · go_wp2_with fail
            go_round
            case rel =>
              refine ⟨k + 1, by omega, by omega, by go_num, fun j hj h1 h2 => ?_⟩
              by_cases hjk : j = k
              · subst hjk; omega
              · exact HU.out j hj h1 (by omega)
            case measure => simp [intOf]; omega
      · have hke : k = s.size := by omega
        have hm := Lib.hid (may_upto HF.out.1 hp (by omega) HF.out.2 (by rw [← hke]; exact HU.out))
        go_wp2_with fail
        go_ret
        exact ⟨ret_bool hm.out.symm, rfl⟩
theorem rMay_is {s : ByteArray} {o : Option Int} (h : Is s o) : RMayIs s o.isSome := by
  rw [← h.may]; exact rMay_any s h.size
end Go.Proofs.Ytiopemimancliaa

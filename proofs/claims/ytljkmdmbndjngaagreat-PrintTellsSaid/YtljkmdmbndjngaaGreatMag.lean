import Derived.Shelf.Small.Strs
import Derived.Shelf.Small.Wraps
import Derived.Shelf.Strings.Search1
import Derived.Shelf.Strings.Search3
import Derived.Shelf.Strings.Prefix
import Derived.Shelf.Slices.Equal
import Derived.Shelf.Slices.Empties2
import Derived.Test.YtljkmdmbndjngaaGreatProg
import Derived.Lib.ItoaNum
import Derived.WalkKit
import Derived.WalkSpells
import Derived.WalkLawsBesides
import Derived.Lib.Hide
import Derived.Lib.Slices
import Derived.BigCall
import Derived.BigGuard
import Derived.Test.YtljkmdmbndjngaaGreatMaa
import Derived.Lib.Bytealg
/-
  Contracts of the library's functions at this program, laid by program.
-/
namespace Go.Proofs
set_option linter.unusedVariables false
set_option linter.unusedSimpArgs false
open Go.Shelf
def Tryz.lays137_ren : Go.Shelf.Ren := ⟨fun | 137 => 74 | 217 => 93 | 266 => 111 | n => n, fun | 9 => 9 | 5 => 5 | 3 => 3 | n => n, fun | n => n⟩
theorem Tryz.lays137 : Go.Proofs.Lays.n137 Tryz.prog Tryz.lays137_ren := {
  mixed := by kernel_rfl
  f137 := Tryz.func74.trans (congrArg some (by kernel_rfl))
  f217 := Tryz.func93.trans (congrArg some (by kernel_rfl))
  f266 := Tryz.func111.trans (congrArg some (by kernel_rfl))
  t3 := Tryz.underlying3
  a3 := Tryz.isAgg3
  z3 := Tryz.sizeOf3
  v3 := Tryz.zeroValue3
  t5 := Tryz.underlying5
  a5 := Tryz.isAgg5
  z5 := Tryz.sizeOf5
  v5 := Tryz.zeroValue5
  t9 := Tryz.underlying9
  a9 := Tryz.isAgg9
  z9 := Tryz.sizeOf9
  v9 := Tryz.zeroValue9 }
open Go.RowKit in
theorem Tryz.strings_IndexByte (s : ByteArray) (c : Int) (w : World) :
    Calls Tryz.prog 74 #[.string s, .int .u8 c] w fun e w' => e = .returned (.int .i64 (Lib.indexByte s.data.toList c.toNat.toUInt8)) ∧ w' = w := Any.strings_IndexByte Tryz.lays137 s c w
def Tryz.lays103_ren : Go.Shelf.Ren := ⟨fun | 103 => 70 | 210 => 90 | 206 => 94 | n => n, fun | 9 => 9 | 4 => 4 | 24 => 57 | 3 => 3 | n => n, fun | n => n⟩
theorem Tryz.lays103 : Go.Proofs.Lays.n103 Tryz.prog Tryz.lays103_ren := {
  mixed := by kernel_rfl
  f103 := Tryz.func70.trans (congrArg some (by kernel_rfl))
  f206 := Tryz.func94.trans (congrArg some (by kernel_rfl))
  f210 := Tryz.func90.trans (congrArg some (by kernel_rfl))
  t3 := Tryz.underlying3
  a3 := Tryz.isAgg3
  z3 := Tryz.sizeOf3
  v3 := Tryz.zeroValue3
  t4 := Tryz.underlying4
  a4 := Tryz.isAgg4
  z4 := Tryz.sizeOf4
  v4 := Tryz.zeroValue4
  t9 := Tryz.underlying9
  a9 := Tryz.isAgg9
  z9 := Tryz.sizeOf9
  v9 := Tryz.zeroValue9
  t24 := Tryz.underlying57
  a24 := Tryz.isAgg57
  z24 := Tryz.sizeOf57
  v24 := Tryz.zeroValue57 }
open Go.RowKit in
theorem Tryz.strings_CutPrefix (s p : ByteArray) (w : World) :
    Calls Tryz.prog 70 #[.string s, .string p] w fun e w' => e = .returned (.tuple #[.string ⟨(Lib.trimPrefix s.data.toList p.data.toList).toArray⟩, .bool (Lib.hasPrefix s.data.toList p.data.toList)]) ∧ w' = w := Any.strings_CutPrefix Tryz.lays103 s p w
def Tryz.lays144_ren : Go.Shelf.Ren := ⟨fun | 144 => 68 | 143 => 89 | 219 => 108 | 217 => 93 | 225 => 116 | 224 => 117 | 267 => 118 | 266 => 111 | 314 => 119 | n => n, fun | 9 => 9 | 4 => 4 | 3 => 3 | 5 => 5 | 46 => 133 | 146 => 135 | 51 => 134 | n => n, fun | 1 => 0 | n => n⟩
theorem Tryz.lays144 : Go.Proofs.Lays.n144 Tryz.prog Tryz.lays144_ren := {
  mixed := by kernel_rfl
  f143 := Tryz.func89.trans (congrArg some (by kernel_rfl))
  f144 := Tryz.func68.trans (congrArg some (by kernel_rfl))
  f217 := Tryz.func93.trans (congrArg some (by kernel_rfl))
  f219 := Tryz.func108.trans (congrArg some (by kernel_rfl))
  f224 := Tryz.func117.trans (congrArg some (by kernel_rfl))
  f225 := Tryz.func116.trans (congrArg some (by kernel_rfl))
  f266 := Tryz.func111.trans (congrArg some (by kernel_rfl))
  f267 := Tryz.func118.trans (congrArg some (by kernel_rfl))
  f314 := Tryz.func119.trans (congrArg some (by kernel_rfl))
  t3 := Tryz.underlying3
  a3 := Tryz.isAgg3
  z3 := Tryz.sizeOf3
  v3 := Tryz.zeroValue3
  t4 := Tryz.underlying4
  a4 := Tryz.isAgg4
  z4 := Tryz.sizeOf4
  v4 := Tryz.zeroValue4
  t5 := Tryz.underlying5
  a5 := Tryz.isAgg5
  z5 := Tryz.sizeOf5
  v5 := Tryz.zeroValue5
  t9 := Tryz.underlying9
  a9 := Tryz.isAgg9
  z9 := Tryz.sizeOf9
  v9 := Tryz.zeroValue9
  t46 := Tryz.underlying133
  a46 := Tryz.isAgg133
  z46 := Tryz.sizeOf133
  v46 := Tryz.zeroValue133
  t51 := Tryz.underlying134
  a51 := Tryz.isAgg134
  z51 := Tryz.sizeOf134
  v51 := Tryz.zeroValue134
  t146 := Tryz.underlying135
  a146 := Tryz.isAgg135
  z146 := Tryz.sizeOf135
  v146 := Tryz.zeroValue135
  g1 := by kernel_rfl }
open Go.RowKit Go.Lib in
theorem Tryz.strings_Contains_one (s : ByteArray) (c : UInt8) (w : World) :
    Calls Tryz.prog 68 #[.string s, .string ⟨#[c]⟩] w fun e w' => e = .returned (.bool (decide (0 ≤ Lib.indexByte s.data.toList c))) ∧ w' = w := Any.strings_Contains_one Tryz.lays144 s c w
def Tryz.lays99_ren : Go.Shelf.Ren := ⟨fun | 99 => 75 | 206 => 94 | n => n, fun | 9 => 9 | 4 => 4 | 3 => 3 | n => n, fun | n => n⟩
theorem Tryz.lays99 : Go.Proofs.Lays.n99 Tryz.prog Tryz.lays99_ren := {
  mixed := by kernel_rfl
  f99 := Tryz.func75.trans (congrArg some (by kernel_rfl))
  f206 := Tryz.func94.trans (congrArg some (by kernel_rfl))
  t3 := Tryz.underlying3
  a3 := Tryz.isAgg3
  z3 := Tryz.sizeOf3
  v3 := Tryz.zeroValue3
  t4 := Tryz.underlying4
  a4 := Tryz.isAgg4
  z4 := Tryz.sizeOf4
  v4 := Tryz.zeroValue4
  t9 := Tryz.underlying9
  a9 := Tryz.isAgg9
  z9 := Tryz.sizeOf9
  v9 := Tryz.zeroValue9 }
open Go.RowKit Go.Lib in
theorem Tryz.strings_HasPrefix (s p : ByteArray) (w : World) :
    Calls Tryz.prog 75 #[.string s, .string p] w fun e w' => e = .returned (.bool (Lib.hasPrefix s.data.toList p.data.toList)) ∧ w' = w := Any.strings_HasPrefix Tryz.lays99 s p w
def Tryz.lays101_ren : Go.Shelf.Ren := ⟨fun | 101 => 88 | 208 => 107 | 206 => 94 | n => n, fun | 9 => 9 | 4 => 4 | 3 => 3 | n => n, fun | n => n⟩
theorem Tryz.lays101 : Go.Proofs.Lays.n101 Tryz.prog Tryz.lays101_ren := {
  mixed := by kernel_rfl
  f101 := Tryz.func88.trans (congrArg some (by kernel_rfl))
  f206 := Tryz.func94.trans (congrArg some (by kernel_rfl))
  f208 := Tryz.func107.trans (congrArg some (by kernel_rfl))
  t3 := Tryz.underlying3
  a3 := Tryz.isAgg3
  z3 := Tryz.sizeOf3
  v3 := Tryz.zeroValue3
  t4 := Tryz.underlying4
  a4 := Tryz.isAgg4
  z4 := Tryz.sizeOf4
  v4 := Tryz.zeroValue4
  t9 := Tryz.underlying9
  a9 := Tryz.isAgg9
  z9 := Tryz.sizeOf9
  v9 := Tryz.zeroValue9 }
open Go.RowKit Go.Lib in
theorem Tryz.strings_TrimPrefix (s p : ByteArray) (w : World) :
    Calls Tryz.prog 88 #[.string s, .string p] w fun e w' => e = .returned (.string ⟨(Lib.trimPrefix s.data.toList p.data.toList).toArray⟩) ∧ w' = w := Any.strings_TrimPrefix Tryz.lays101 s p w
def Tryz.lays193_ren : Go.Shelf.Ren := ⟨fun | 193 => 69 | n => n, fun | 31 => 35 | 9 => 9 | 4 => 4 | 3 => 3 | 0 => 0 | n => n, fun | n => n⟩
theorem Tryz.lays193 : Go.Proofs.Lays.n193 Tryz.prog Tryz.lays193_ren := {
  mixed := by kernel_rfl
  f193 := Tryz.func69.trans (congrArg some (by kernel_rfl))
  t0 := Tryz.underlying0
  a0 := Tryz.isAgg0
  z0 := Tryz.sizeOf0
  v0 := Tryz.zeroValue0
  t3 := Tryz.underlying3
  a3 := Tryz.isAgg3
  z3 := Tryz.sizeOf3
  v3 := Tryz.zeroValue3
  t4 := Tryz.underlying4
  a4 := Tryz.isAgg4
  z4 := Tryz.sizeOf4
  v4 := Tryz.zeroValue4
  t9 := Tryz.underlying9
  a9 := Tryz.isAgg9
  z9 := Tryz.sizeOf9
  v9 := Tryz.zeroValue9
  t31 := Tryz.underlying35
  a31 := Tryz.isAgg35
  z31 := Tryz.sizeOf35
  v31 := Tryz.zeroValue35 }
open Go.RowKit Go.Lib in
theorem Tryz.slices_Equal_string (b1 o1 n c b2 o2 m d : Nat) (xs ys : List ByteArray) (w : World) (hx : n ≤ xs.length) (hy : m ≤ ys.length) (hbig : n ≤ 9223372036854775807) (hbig2 : m ≤ 9223372036854775807) (hc1 : ∀ j, j < xs.length → w.cell? ⟨b1, o1 + j, none⟩ = some (.string (xs.getD j ByteArray.empty))) (hc2 : ∀ j, j < ys.length → w.cell? ⟨b2, o2 + j, none⟩ = some (.string (ys.getD j ByteArray.empty))) :
    Calls Tryz.prog 69 #[.slice (some ⟨b1, o1, none⟩) n c, .slice (some ⟨b2, o2, none⟩) m d] w fun e w' => e = .returned (.bool (decide (xs.take n = ys.take m))) ∧ ∃ q, w' = w.drewN q := Any.slices_Equal_string Tryz.lays193 b1 o1 n c b2 o2 m d xs ys w hx hy hbig hbig2 hc1 hc2
open Go.RowKit Go.Lib in
theorem Tryz.slices_Equal_string_empty (a1 a2 : Option Addr) (c m d : Nat) (w : World) (hbig2 : m ≤ 9223372036854775807) :
    Calls Tryz.prog 69 #[.slice a1 0 c, .slice a2 m d] w fun e w' => e = .returned (.bool (decide (m = 0))) ∧ w' = w := Any.slices_Equal_string_empty Tryz.lays193 a1 a2 c m d w hbig2
open Go.RowKit Go.Lib in
theorem Tryz.slices_Equal_string_lens (a1 a2 : Option Addr) (n c m d : Nat) (w : World) (hnm : n ≠ m) :
    Calls Tryz.prog 69 #[.slice a1 n c, .slice a2 m d] w fun e w' => e = .returned (.bool false) ∧ w' = w := Any.slices_Equal_string_lens Tryz.lays193 a1 a2 n c m d w hnm
end Go.Proofs
/-
  Of num, what lex leans on: May, both sides; joined by shake.py out of the texts of stages 1 and 2.
-/
namespace Go.Proofs.YtljkmdmbndjngaaGreat
set_option linter.unusedVariables false
set_option linter.unusedSimpArgs false
section
open Go.Lib
theorem snocInd {α : Type} {P : List α → Prop} (nil : P []) (snoc : ∀ m c, P m → P (m ++ [c])) (l : List α) : P l := by
  have : ∀ r : List α, P r.reverse := by
    intro r
    induction r with
    | nil => exact nil
    | cons a r ih => rw [List.reverse_cons]; exact snoc _ _ ih
  have h := this l.reverse
  rwa [List.reverse_reverse] at h
def dval (l : List UInt8) : Nat := l.foldl (fun a c => a * 10 + (c.toNat - 48)) 0
def AllDig (l : List UInt8) : Prop := ∀ c ∈ l, 48 ≤ c.toNat ∧ c.toNat ≤ 57
theorem dval_snoc (l : List UInt8) (c : UInt8) : dval (l ++ [c]) = dval l * 10 + (c.toNat - 48) := by simp [dval]
theorem dval_append (l m : List UInt8) : dval (l ++ m) = dval l * 10 ^ m.length + dval m := by
  induction m using snocInd with
  | nil => simp [dval]
  | snoc m c ih =>
    rw [← List.append_assoc, dval_snoc, ih, dval_snoc, List.length_append]
    simp only [List.length_cons, List.length_nil, Nat.zero_add, Nat.pow_succ]
    rw [Nat.add_mul, Nat.mul_assoc]; omega
theorem dval_cons (c : UInt8) (l : List UInt8) : dval (c :: l) = (c.toNat - 48) * 10 ^ l.length + dval l := by
  rw [show c :: l = [c] ++ l from rfl, dval_append]; simp [dval]
theorem allDig_nil : AllDig [] := by simp [AllDig]
theorem allDig_append {l m : List UInt8} : AllDig (l ++ m) ↔ AllDig l ∧ AllDig m := by
  simp only [AllDig, List.mem_append]
  exact ⟨fun h => ⟨fun p hp => h p (.inl hp), fun p hp => h p (.inr hp)⟩, fun h p hp => hp.elim (h.1 p) (h.2 p)⟩
theorem allDig_cons {c : UInt8} {l : List UInt8} : AllDig (c :: l) ↔ (48 ≤ c.toNat ∧ c.toNat ≤ 57) ∧ AllDig l := by simp [AllDig]
theorem dig_toNat {d : Nat} (h : d < 10) : (UInt8.ofNat (48 + d)).toNat = 48 + d := by
  rw [UInt8.toNat_ofNat']; omega
theorem decDigits_small {n : Nat} (h : n < 10) : decDigits n = [UInt8.ofNat (48 + n)] := by rw [decDigits, dif_pos h]
theorem decDigits_big {n : Nat} (h : ¬ n < 10) : decDigits n = decDigits (n / 10) ++ [UInt8.ofNat (48 + n % 10)] := by rw [decDigits, dif_neg h]
theorem decDigits_all (n : Nat) : AllDig (decDigits n) ∧ dval (decDigits n) = n := by
  induction n using Nat.strongRecOn with
  | ind n ih =>
    by_cases h : n < 10
    · rw [decDigits_small h]
      have := dig_toNat h
      exact ⟨allDig_cons.2 ⟨by omega, allDig_nil⟩, by rw [dval_cons, this]; simp [dval]⟩
    · rw [decDigits_big h]
      obtain ⟨h1, h2⟩ := ih (n / 10) (by omega)
      have := dig_toNat (show n % 10 < 10 by omega)
      exact ⟨allDig_append.2 ⟨h1, allDig_cons.2 ⟨by omega, allDig_nil⟩⟩, by rw [dval_snoc, h2, this]; omega⟩
theorem decDigits_dig (n : Nat) : AllDig (decDigits n) := (decDigits_all n).1
theorem decDigits_ne (n : Nat) : decDigits n ≠ [] := by
  by_cases h : n < 10
  · rw [decDigits_small h]; simp
  · rw [decDigits_big h]; simp
theorem u8_ext {a b : UInt8} (h : a.toNat = b.toNat) : a = b := UInt8.toNat_inj.1 h
theorem decDigits_head (n : Nat) (h : 0 < n) : ∃ c r, decDigits n = c :: r ∧ c.toNat ≠ 48 := by
  induction n using Nat.strongRecOn with
  | ind n ih =>
    by_cases h10 : n < 10
    · rw [decDigits_small h10]
      exact ⟨_, [], rfl, by rw [dig_toNat h10]; omega⟩
    · rw [decDigits_big h10]
      obtain ⟨c, r, e, hc⟩ := ih (n / 10) (by omega) (by omega)
      exact ⟨c, r ++ [_], by rw [e]; rfl, hc⟩
theorem decDigits_of : ∀ (l : List UInt8), AllDig l → l ≠ [] → (l.length = 1 ∨ ∃ c r, l = c :: r ∧ c.toNat ≠ 48) → l = decDigits (dval l) := by
  intro l
  induction l using snocInd with
  | nil => intro _ h; exact absurd rfl h
  | snoc m c ih =>
    intro h _ h2
    obtain ⟨h3, h4⟩ := allDig_append.1 h
    have h5 := (allDig_cons.1 h4).1
    by_cases hm : m = []
    · subst hm
      have e : dval ([] ++ [c]) = c.toNat - 48 := by rw [dval_snoc]; simp [dval]
      rw [e, decDigits_small (by omega)]
      simp only [List.nil_append]
      congr 1
      exact u8_ext (by rw [dig_toNat (by omega)]; omega)
    · have hlen : 0 < m.length := List.length_pos_iff.2 hm
      obtain ⟨d, r, e, hd⟩ : ∃ d r, m = d :: r ∧ d.toNat ≠ 48 := by
        rcases h2 with h2 | ⟨d, r, e, hd⟩
        · rw [List.length_append] at h2; simp only [List.length_cons, List.length_nil] at h2; omega
        · cases m with
          | nil => exact absurd rfl hm
          | cons d' r' =>
            simp only [List.cons_append, List.cons.injEq] at e
            exact ⟨d', r', rfl, by rw [e.1]; exact hd⟩
      have hi := ih h3 hm (.inr ⟨d, r, e, hd⟩)
      have hpos : 0 < dval m := by
        rw [e, dval_cons]
        rw [e] at h3
        have := (allDig_cons.1 h3).1
        have hp : 0 < 10 ^ r.length := Nat.pow_pos (by decide)
        have : 0 < (d.toNat - 48) * 10 ^ r.length := Nat.mul_pos (by omega) hp
        omega
      rw [dval_snoc, decDigits_big (n := dval m * 10 + (c.toNat - 48)) (by omega), show (dval m * 10 + (c.toNat - 48)) / 10 = dval m by omega, ← hi, show (dval m * 10 + (c.toNat - 48)) % 10 = c.toNat - 48 by omega]
      congr 2
      exact u8_ext (by rw [dig_toNat (by omega)]; omega)
theorem decDigits_len_le {n k : Nat} (hk : 0 < k) : (decDigits n).length ≤ k ↔ n < 10 ^ k := by
  rw [decDigits_length]
  constructor
  · intro h
    exact Nat.lt_of_lt_of_le (lt_pow_nDigits n) (Nat.pow_le_pow_right (by decide) h)
  · intro h
    by_cases hz : n < 10
    · rw [nDigits_small hz]; exact hk
    · have : ∀ n, 10 ≤ n → 10 ^ (nDigits n - 1) ≤ n := by
        intro n
        induction n using Nat.strongRecOn with
        | ind n ih =>
          intro hn
          rw [nDigits_big (by omega), Nat.add_sub_cancel]
          by_cases h2 : n / 10 < 10
          · rw [nDigits_small h2]; omega
          · have h3 := ih (n / 10) (by omega) (by omega)
            have h4 := nDigits_pos (n / 10)
            have : 10 ^ nDigits (n / 10) = 10 ^ (nDigits (n / 10) - 1) * 10 := by rw [← Nat.pow_succ]; congr 1; omega
            omega
      have h1 := this n (by omega)
      have h2 : nDigits n - 1 < k := (Nat.pow_lt_pow_iff_right (a := 10) (by decide)).1 (by omega)
      omega
theorem decDigits_len_pos (n : Nat) : 0 < (decDigits n).length := List.length_pos_iff.2 (decDigits_ne n)
end
section
open Go.RowKit
theorem take_snoc (s : ByteArray) (k : Nat) (h : k < s.size) : s.data.toList.take (k + 1) = s.data.toList.take k ++ [s[k]] := by
  rw [List.take_succ_eq_append_getElem (by simpa using h)]; rfl
theorem dig_get (s : ByteArray) (k : Nat) (hd : AllDig s.data.toList) (hk : k < s.size) : 48 ≤ (s[k]).toNat ∧ (s[k]).toNat ≤ 57 := hd _ (by
  have : s.data.toList[k]'(by simpa using hk) = s[k] := rfl
  rw [← this]; exact List.getElem_mem _)
end
section
open Go.RowKit
def S (x : Int) : ByteArray := ⟨(Lib.itoa x).toArray⟩
theorem S_pos {n : Nat} {x : Int} (h : x.natAbs = n) (h0 : 0 ≤ x) : S x = ⟨(Lib.decDigits n).toArray⟩ := by
  unfold S Lib.itoa; rw [if_neg (by omega), show x.toNat = n by omega]
open Go.RowKit
def lim : Nat := 10 ^ 100
theorem digs_lim (n : Nat) : (Lib.decDigits n).length ≤ 100 ↔ n < lim := by unfold lim; exact decDigits_len_le (by decide)
end
section
open Go.RowKit
def figs (l : List UInt8) : List UInt8 := Lib.trimPrefix l [45]
def AllDigB (l : List UInt8) : Bool := l.all fun c => decide (48 ≤ c.toNat) && decide (c.toNat ≤ 57)
theorem allDigB {l : List UInt8} : AllDigB l = true ↔ AllDig l := by simp [AllDigB, AllDig]
def mayL (l : List UInt8) : Bool := decide (1 ≤ (figs l).length) && decide ((figs l).length ≤ 100) && AllDigB (figs l) && (decide ((figs l).head? ≠ some 48) || decide (l = [48]))
theorem figs_neg (l : List UInt8) : figs (45 :: l) = l := by simp [figs, Lib.trimPrefix, Lib.hasPrefix, List.isPrefixOf]
theorem figs_pos {l : List UInt8} (h : l.head? ≠ some 45) : figs l = l := by
  cases l with
  | nil => rfl
  | cons c r =>
    have hc : c ≠ 45 := by intro e; exact h (by rw [e]; rfl)
    have : Lib.hasPrefix (c :: r) [45] = false := by
      simp only [Lib.hasPrefix, List.isPrefixOf]
      simp; exact fun e => hc e.symm
    unfold figs Lib.trimPrefix
    rw [this]; rfl
theorem dec_head (n : Nat) : (Lib.decDigits n).head? ≠ some 45 := by
  intro h
  obtain ⟨c, r, e⟩ : ∃ c r, Lib.decDigits n = c :: r := by
    cases h2 : Lib.decDigits n with
    | nil => exact absurd h2 (decDigits_ne n)
    | cons c r => exact ⟨c, r, rfl⟩
  have hd := decDigits_dig n
  rw [e] at h hd
  injection h with h
  have := (allDig_cons.1 hd).1
  rw [h] at this
  exact absurd this.1 (by decide)
theorem itoa_pos {x : Int} (h : 0 ≤ x) : Lib.itoa x = Lib.decDigits x.natAbs := by
  unfold Lib.itoa; rw [if_neg (by omega), show x.toNat = x.natAbs by omega]
theorem itoa_neg {x : Int} (h : x < 0) : Lib.itoa x = 45 :: Lib.decDigits x.natAbs := by
  unfold Lib.itoa; rw [if_pos h]
theorem figs_itoa (x : Int) : figs (Lib.itoa x) = Lib.decDigits x.natAbs := by
  by_cases h : x < 0
  · rw [itoa_neg h, figs_neg]
  · rw [itoa_pos (by omega), figs_pos (dec_head _)]
theorem mayL_itoa (x : Int) : mayL (Lib.itoa x) = true ↔ x.natAbs < lim := by
  unfold mayL
  rw [figs_itoa]
  have h1 := decDigits_len_pos x.natAbs
  have h2 : AllDigB (Lib.decDigits x.natAbs) = true := allDigB.2 (decDigits_dig _)
  have h3 : (decide ((Lib.decDigits x.natAbs).head? ≠ some 48) || decide (Lib.itoa x = [48])) = true := by
    by_cases h0 : x = 0
    · subst h0
      rw [itoa_pos (Int.le_refl _), show (0 : Int).natAbs = 0 from rfl, decDigits_small (by omega)]; rfl
    · obtain ⟨c, r, e, hc⟩ := decDigits_head x.natAbs (by omega)
      rw [e]
      have : (c :: r).head? ≠ some 48 := by
        intro h; injection h with h; rw [h] at hc; exact hc rfl
      rw [Bool.or_eq_true]; exact .inl (decide_eq_true this)
  rw [h2, h3]
  simp only [Bool.and_true, Bool.and_eq_true, decide_eq_true_eq]
  rw [digs_lim]
  exact ⟨fun h => h.2, fun h => ⟨h1, h⟩⟩
theorem mayL_is {l : List UInt8} (h : mayL l = true) : ∃ x : Int, l = Lib.itoa x ∧ x.natAbs < lim := by
  have h0 := h
  unfold mayL at h
  simp only [Bool.and_eq_true, decide_eq_true_eq, Bool.or_eq_true] at h
  obtain ⟨⟨⟨h1, h2⟩, h3⟩, h4⟩ := h
  have h3 := allDigB.1 h3
  suffices hs : ∃ x : Int, l = Lib.itoa x by
    obtain ⟨x, rfl⟩ := hs
    exact ⟨x, rfl, (mayL_itoa x).1 h0⟩
  by_cases hz : l = [48]
  · exact ⟨0, by rw [hz, itoa_pos (Int.le_refl _), show (0 : Int).natAbs = 0 from rfl, decDigits_small (by omega)]; rfl⟩
  · have h4 : (figs l).head? ≠ some 48 := by rcases h4 with h | h; exact h; exact absurd h hz
    obtain ⟨c, r, e⟩ : ∃ c r, figs l = c :: r := by
      cases hf : figs l with
      | nil => rw [hf] at h1; simp at h1
      | cons c r => exact ⟨c, r, rfl⟩
    have hc : c.toNat ≠ 48 := by
      intro hc; apply h4; rw [e]; exact congrArg some (u8_ext hc)
    have hd := decDigits_of (figs l) h3 (by rw [e]; simp) (.inr ⟨c, r, e, hc⟩)
    have hpos : 0 < dval (figs l) := by
      rw [e] at h3 ⊢
      rw [dval_cons]
      have := (allDig_cons.1 h3).1
      have : 0 < (c.toNat - 48) * 10 ^ r.length := Nat.mul_pos (by omega) (Nat.pow_pos (by decide))
      omega
    by_cases hn : l.head? = some 45
    · obtain ⟨r', rfl⟩ : ∃ r', l = 45 :: r' := by
        cases l with
        | nil => cases hn
        | cons a r' => injection hn with hn; subst hn; exact ⟨r', rfl⟩
      rw [figs_neg] at hd hpos
      exact ⟨-(dval r' : Int), by rw [itoa_neg (by omega), show (-(dval r' : Int)).natAbs = dval r' by omega, ← hd]⟩
    · rw [figs_pos hn] at hd hpos
      exact ⟨(dval l : Int), by rw [itoa_pos (by omega), show ((dval l : Int)).natAbs = dval l by omega, ← hd]⟩
open Go.RowKit
theorem get_take_dig {f : ByteArray} {k : Nat} (hk : k < f.size) (h : AllDig (f.data.toList.take k)) (hc : 48 ≤ (f[k]).toNat ∧ (f[k]).toNat ≤ 57) : AllDig (f.data.toList.take (k + 1)) := by
  rw [take_snoc f k hk]
  exact allDig_append.2 ⟨h, allDig_cons.2 ⟨hc, allDig_nil⟩⟩
theorem not_dig_of {f : ByteArray} {k : Nat} (hk : k < f.size) (hc : ¬ (48 ≤ (f[k]).toNat ∧ (f[k]).toNat ≤ 57)) : AllDigB f.data.toList = false := by
  cases h : AllDigB f.data.toList
  · rfl
  · exact absurd (dig_get f k (allDigB.1 h) hk) hc
def MayPost (b : Bool) (w : World) (e : Ending) (w' : World) : Prop := e = .returned (.bool b) ∧ w = w'
theorem ret_bool {a b : Bool} (h : a = b) : Ending.returned (.bool a) = .returned (.bool b) := by rw [h]
theorem head_get {f : ByteArray} (h : 0 < f.size) : f.data.toList.head? = some f[0] := by
  have hl : 0 < f.data.toList.length := by simpa using h
  cases hd : f.data.toList with
  | nil => rw [hd] at hl; simp at hl
  | cons a r =>
    have : f.data.toList[0]'hl = f[0] := rfl
    simp only [hd, List.getElem_cons_zero] at this
    rw [← this]; rfl
theorem str_tl (s : ByteArray) : s.toList = s.data.toList := ByteArray.toList_eq s
set_option maxRecDepth 10000 in
set_option maxHeartbeats 1600000 in
theorem may_any (s : ByteArray) (w : World) (hs : s.size ≤ maxLen) :
    Calls Tryz.prog 67 #[.string s] w (MayPost (mayL s.data.toList) w) := by
  obtain ⟨f, hf⟩ : ∃ f : ByteArray, f = ⟨(Lib.trimPrefix s.data.toList [45]).toArray⟩ := ⟨_, rfl⟩
  have hF : figs s.data.toList = f.data.toList := by rw [hf]; rfl
  have hfl : (f.data.toList).length = f.size := by simp
  have hT := Tryz.strings_TrimPrefix s ⟨#[45]⟩ w
  rw [show Lib.trimPrefix s.data.toList (⟨#[45]⟩ : ByteArray).data.toList = Lib.trimPrefix s.data.toList [45] from rfl, ← hf] at hT
  have hM : mayL s.data.toList = (decide (1 ≤ f.size) && decide (f.size ≤ 100) && AllDigB f.data.toList && (decide (f.data.toList.head? ≠ some 48) || decide (s.data.toList = [48]))) := by
    unfold mayL; rw [hF, hfl]
  rw [hM]
  have HT := Lib.hid hT
  clear hM hT hF hf hfl
  by_cases h0 : f.size = 0
  · have e0 : ((f.size : Int) == 0) = true := by rw [h0]; rfl
    go_enter Tryz.func67, Tryz.ntmps67
    go_wp2_with fail
    refine HT.out.mono ?_
    rintro e w1 ⟨rfl, rfl⟩
    go_wp2_with fail
    go_ret
    exact ⟨ret_bool (by simp [h0]), rfl⟩
  · by_cases h1 : 100 < f.size
    · have e0 : ((f.size : Int) == 0) = false := beq_eq_false_iff_ne.2 (by omega)
      go_enter Tryz.func67, Tryz.ntmps67
      go_wp2_with fail
      refine HT.out.mono ?_
      rintro e w1 ⟨rfl, rfl⟩
      go_wp2_with fail
      go_ret
      exact ⟨ret_bool (by simp [show ¬ f.size ≤ 100 by omega]), rfl⟩
    · have e0 : ((f.size : Int) == 0) = false := beq_eq_false_iff_ne.2 (by omega)
      have e1 : ¬ (100 : Int) < f.size := by omega
      go_enter Tryz.func67, Tryz.ntmps67
      go_wp2_with fail
      refine HT.out.mono ?_
      rintro e w1 ⟨rfl, rfl⟩
      go_wp2_with fail
      go_loop [17] (fun i => ∃ k : Nat, k ≤ f.size ∧ i = .int .i64 k ∧ AllDig (f.data.toList.take k)) (fun i => f.size - (intOf i).toNat)
      case atStart => exact ⟨0, Nat.zero_le _, rfl, allDig_nil⟩
      case round =>
        obtain ⟨k, hk, rfl, hI⟩ := hrel
        by_cases hlt : k < f.size
        · by_cases hc : 48 ≤ (f[k]).toNat ∧ (f[k]).toNat ≤ 57
          · have hst := get_take_dig hlt hI hc
            go_wp2_with fail
            go_round
            case rel => exact ⟨k + 1, by omega, by go_num, hst⟩
            case measure => simp [intOf]; omega
          · have hnd := not_dig_of hlt hc
            by_cases hc2 : (f[k]).toNat < 48
            · go_wp2_with fail
              go_ret
              exact ⟨ret_bool (by simp [hnd]), rfl⟩
            · have hc3 : 57 < (f[k]).toNat := by omega
              go_wp2_with fail
              go_ret
              exact ⟨ret_bool (by simp [hnd]), rfl⟩
        · rw [List.take_of_length_le (by simp; omega)] at hI
          have hh := head_get (f := f) (by omega)
          have hA := allDigB.2 hI
          by_cases hc : f[0] = 48
          · have hc' : (((f[0]).toNat : Int) != 48) = false := by rw [hc]; rfl
            have HC := Lib.hid hc
            have HH := Lib.hid hh
            clear hc hh
            go_wp2_with fail
            go_ret
            refine ⟨ret_bool ?_, rfl⟩
            rw [hA, HH.out, HC.out]
            show (s.toList == [48]) = _
            rw [str_tl]
            simp [show 1 ≤ f.size by omega, show f.size ≤ 100 by omega]
            rw [Bool.eq_iff_iff, beq_iff_eq, decide_eq_true_eq]
          · have hc' : (((f[0]).toNat : Int) != 48) = true := by
              rw [bne_iff_ne]; intro h; apply hc; exact u8_ext (by simpa using (by omega : (f[0]).toNat = 48))
            go_wp2_with fail
            go_ret
            exact ⟨ret_bool (by rw [hA, hh]; simp [hc]; omega), rfl⟩
end
section
open Go.RowKit
theorem lim_digs {n : Nat} (h : n < lim) : (Lib.decDigits n).length ≤ 100 := (digs_lim n).2 h
theorem S_size {x : Int} (h : x.natAbs < lim) : (S x).size ≤ 101 := by
  have h1 := lim_digs h
  show (Lib.itoa x).toArray.size ≤ 101
  rw [List.size_toArray]
  by_cases hx : x < 0
  · rw [itoa_neg hx, List.length_cons]; omega
  · rw [itoa_pos (by omega)]; omega
end
section
open Go.RowKit
def Is (s : ByteArray) : Option Int → Prop
  | some x => s = S x ∧ x.natAbs < lim
  | none => mayL s.data.toList = false ∧ s.size ≤ maxLen
theorem is_ex (s : ByteArray) (hs : s.size ≤ maxLen) : ∃ o, Is s o := by
  cases h : mayL s.data.toList
  · exact ⟨none, h, hs⟩
  · obtain ⟨x, hx, hl⟩ := mayL_is h
    refine ⟨some x, ?_, hl⟩
    obtain ⟨⟨d⟩⟩ := s
    show _ = (⟨(Lib.itoa x).toArray⟩ : ByteArray)
    have : d = Lib.itoa x := hx
    rw [this]
theorem Is.size {s : ByteArray} {o : Option Int} (h : Is s o) : s.size ≤ maxLen := by
  cases o with
  | none => exact h.2
  | some x => rw [h.1]; exact Nat.le_trans (S_size h.2) (by decide)
theorem Is.may {s : ByteArray} {o : Option Int} (h : Is s o) : mayL s.data.toList = o.isSome := by
  cases o with
  | none => exact h.1
  | some x => rw [h.1]; exact (mayL_itoa x).2 h.2
theorem May_opt {s : ByteArray} {o : Option Int} (w : World) (hs : Is s o) : Calls Tryz.prog 67 #[.string s] w (MayPost o.isSome w) := by
  rw [← hs.may]; exact may_any s w hs.size
end
section
open Go.RowKit
theorem dig_lit {l : List UInt8} (ha : AllDig l) (hc : ∃ c r, l = c :: r ∧ c.toNat ≠ 48) : Lib.decDigits (dval l) = l := by
  have hne : l ≠ [] := by obtain ⟨c, r, rfl, _⟩ := hc; simp
  exact (decDigits_of l ha hne (.inr hc)).symm
theorem S_lit {l : List UInt8} {n : Nat} (hn : dval l = n) (ha : AllDig l) (hc : ∃ c r, l = c :: r ∧ c.toNat ≠ 48) : S (n : Int) = ⟨l.toArray⟩ := by
  rw [S_pos (n := n) (by omega) (by omega), ← hn, dig_lit ha hc]
end
open Go.RowKit
def RMayIs (a : ByteArray) (v : Bool) : Prop := ∀ w, Calls Tryz.prog 52 #[.string a] w (MayPost v w)
theorem mayL_short {l : List UInt8} (h : (figs l).length < 1 ∨ 100 < (figs l).length) : mayL l = false := by
  unfold mayL
  rcases h with h | h
  · rw [decide_eq_false (by omega)]; rfl
  · rw [decide_eq_false (p := (figs l).length ≤ 100) (by omega)]; simp
theorem mayL_zero {l : List UInt8} (h : (figs l).head? = some 48) (hl : l ≠ [48]) : mayL l = false := by
  unfold mayL
  rw [h, decide_eq_false hl]; simp
theorem mayL_bad {l : List UInt8} (h : AllDigB (figs l) = false) : mayL l = false := by
  unfold mayL
  rw [h]; simp
theorem mayL_good {l : List UInt8} (h1 : 1 ≤ (figs l).length) (h2 : (figs l).length ≤ 100) (h3 : AllDigB (figs l) = true) (h4 : (figs l).head? ≠ some 48) : mayL l = true := by
  unfold mayL
  rw [decide_eq_true h1, decide_eq_true h2, h3, decide_eq_true h4]; rfl
theorem drop_head {l : List UInt8} {a : Nat} (h : a < l.length) : (l.drop a).head? = some l[a] := by simp [List.head?_drop, h]
theorem allB_true {l : List UInt8} (h : ∀ (k : Nat) (hk : k < l.length), 48 ≤ (l[k]).toNat ∧ (l[k]).toNat ≤ 57) : AllDigB l = true := allDigB.2 fun c hc => by
  obtain ⟨k, hk, rfl⟩ := List.getElem_of_mem hc
  exact h k hk
theorem allB_false {l : List UInt8} {k : Nat} (hk : k < l.length) (h : ¬ (48 ≤ (l[k]).toNat ∧ (l[k]).toNat ≤ 57)) : AllDigB l = false := by
  rw [Bool.eq_false_iff]
  intro h2
  exact h (allDigB.1 h2 _ (List.getElem_mem hk))
def UpTo (s : ByteArray) (a i : Nat) : Prop := ∀ (k : Nat) (hk : k < s.size), a ≤ k → k < i → 48 ≤ (s[k]).toNat ∧ (s[k]).toNat ≤ 57
theorem may_upto {s : ByteArray} {a : Nat} (hf : figs s.data.toList = s.data.toList.drop a) (h1 : a < s.size) (h2 : s.size - a ≤ 100) (h3 : (s[a]).toNat ≠ 48) (hu : UpTo s a s.size) : mayL s.data.toList = true := by
  have hl : s.data.toList.length = s.size := by simp
  refine mayL_good (by rw [hf]; simp; omega) (by rw [hf]; simp; omega) ?_ ?_
  · rw [hf]
    refine allB_true fun k hk => ?_
    rw [List.length_drop, hl] at hk
    have := hu (a + k) (by omega) (by omega) (by omega)
    simp only [List.getElem_drop]
    exact this
  · rw [hf, drop_head (by omega)]
    intro h
    have : s[a] = 48 := Option.some.inj h
    exact h3 (by rw [this]; rfl)
theorem may_at48 {s : ByteArray} {a : Nat} (hf : figs s.data.toList = s.data.toList.drop a) (h1 : a < s.size) (h3 : (s[a]).toNat = 48) (hz : s.data.toList ≠ [48]) : mayL s.data.toList = false := by
  have hl : s.data.toList.length = s.size := by simp
  refine mayL_zero ?_ hz
  rw [hf, drop_head (by omega)]
  have : s[a] = 48 := UInt8.toNat_inj.1 h3
  exact congrArg some this
theorem may_bad {s : ByteArray} {a k : Nat} (hf : figs s.data.toList = s.data.toList.drop a) (h1 : a ≤ k) (hk : k < s.size) (h3 : ¬ (48 ≤ (s[k]).toNat ∧ (s[k]).toNat ≤ 57)) : mayL s.data.toList = false := by
  have hl : s.data.toList.length = s.size := by simp
  refine mayL_bad ?_
  rw [hf]
  refine allB_false (k := k - a) (by rw [List.length_drop, hl]; omega) ?_
  have e : a + (k - a) = k := by omega
  simp only [List.getElem_drop, e]
  exact h3
theorem may_len {s : ByteArray} {a : Nat} (hf : figs s.data.toList = s.data.toList.drop a) (h : s.size - a < 1 ∨ 100 < s.size - a) : mayL s.data.toList = false := by
  refine mayL_short ?_
  rw [hf, List.length_drop, show s.data.toList.length = s.size by simp]
  exact h
set_option maxRecDepth 10000 in
set_option maxHeartbeats 3200000 in
theorem rMay_any (s : ByteArray) (hs : s.size ≤ maxLen) : RMayIs s (mayL s.data.toList) := by
  intro w
  unfold maxLen at hs
  by_cases hz : s.data.toList = [48]
  · have e0 : (s.toList == [48]) = true := by rw [str_tl, hz]; rfl
    have hm := Lib.hid (show mayL s.data.toList = true by rw [hz]; decide)
    clear hz
    go_enter Tryz.func52, Tryz.ntmps52
    go_wp2_with fail
    go_ret
    exact ⟨ret_bool hm.out.symm, rfl⟩
  have e0 : (s.toList == [48]) = false := by rw [str_tl]; exact beq_eq_false_iff_ne.2 hz
  by_cases he : s.size = 0
  · have hn : s.data.toList = [] := List.eq_nil_of_length_eq_zero (by simpa using he)
    have e1 : s.toList.isEmpty = true := by rw [str_tl, hn]; rfl
    have hm := Lib.hid (show mayL s.data.toList = false by rw [hn]; decide)
    clear hz hn
    go_enter Tryz.func52, Tryz.ntmps52
    go_wp2_with fail
    go_ret
    exact ⟨ret_bool hm.out.symm, rfl⟩
  have hp0 : 0 < s.size := by omega
  have hh := head_get hp0
  have e1 : s.toList.isEmpty = false := by
    rw [str_tl]
    cases hl : s.data.toList with
    | nil => rw [hl] at hh; cases hh
    | cons a r => rfl
  by_cases h5 : (s[0]).toNat = 45
  · have e2 : (((s[0]).toNat : Int) == 45) = true := by rw [h5]; rfl
    have hf : figs s.data.toList = s.data.toList.drop 1 := by
      cases hl : s.data.toList with
      | nil => rw [hl] at hh; cases hh
      | cons c r =>
        rw [hl] at hh
        have : c = 45 := by
          have h6 : c = s[0] := by simpa using hh
          rw [h6]; exact UInt8.toNat_inj.1 h5
        rw [this, figs_neg]; rfl
    clear hh h5
    by_cases t1 : s.size < 1 + 1
    · have hm := Lib.hid (may_len hf (.inl (by omega)))
      have t1' : (s.size : Int) - 1 < 1 := by omega
      clear hf hz
      go_enter Tryz.func52, Tryz.ntmps52
      go_wp2_with fail
      go_ret
      exact ⟨ret_bool hm.out.symm, rfl⟩
    by_cases t2 : 100 < s.size - 1
    · have hm := Lib.hid (may_len hf (.inr t2))
      have t1' : ¬ (s.size : Int) - 1 < 1 := by omega
      have t2' : (100 : Int) < (s.size : Int) - 1 := by omega
      clear hf hz
      go_enter Tryz.func52, Tryz.ntmps52
      go_wp2_with fail
      go_ret
      exact ⟨ret_bool hm.out.symm, rfl⟩
    have hp : 1 < s.size := by omega
    have t1' : ¬ (s.size : Int) - 1 < 1 := by omega
    have t2' : ¬ (100 : Int) < (s.size : Int) - 1 := by omega
    have t5 : s.size ≤ 101 := by omega
    by_cases t3 : (s[1]).toNat = 48
    · have hm := Lib.hid (may_at48 hf hp t3 hz)
      have t3' : (((s[1]).toNat : Int) == 48) = true := by rw [t3]; rfl
      clear hf hz t3
      go_enter Tryz.func52, Tryz.ntmps52
      go_wp2_with fail
      go_ret
      exact ⟨ret_bool hm.out.symm, rfl⟩
    have t3' : (((s[1]).toNat : Int) == 48) = false := beq_eq_false_iff_ne.2 (by omega)
    have HF := Lib.hid (And.intro hf t3)
    clear hf t3 hz
    go_enter Tryz.func52, Tryz.ntmps52
    go_wp2_with fail
    go_loop [4] (fun i => ∃ k : Nat, 1 ≤ k ∧ k ≤ s.size ∧ i = .int .i64 k ∧ UpTo s 1 k) (fun i => s.size - (intOf i).toNat)
    case atStart => exact ⟨1, Nat.le_refl _, by omega, rfl, fun k _ h1 h2 => by omega⟩
    case round =>
      obtain ⟨k, hk0, hk, rfl, hu⟩ := hrel
      have HU := Lib.hid hu
      clear hu
      by_cases hlt : k < s.size
      · by_cases c1 : (s[k]).toNat < 48
        · have hm := Lib.hid (may_bad HF.out.1 hk0 hlt (by omega))
          go_wp2_with fail
          go_ret
          exact ⟨ret_bool hm.out.symm, rfl⟩
        · by_cases c2 : 57 < (s[k]).toNat
          · have hm := Lib.hid (may_bad HF.out.1 hk0 hlt (by omega))
            go_wp2_with fail
            go_ret
            exact ⟨ret_bool hm.out.symm, rfl⟩
          · go_wp2_with fail
            go_round
            case rel =>
              refine ⟨k + 1, by omega, by omega, by go_num, fun j hj h1 h2 => ?_⟩
              by_cases hjk : j = k
              · subst hjk; omega
              · exact HU.out j hj h1 (by omega)
            case measure => simp [intOf]; omega
      · have hke : k = s.size := by omega
        have hm := Lib.hid (may_upto HF.out.1 hp (by omega) HF.out.2 (by rw [← hke]; exact HU.out))
        go_wp2_with fail
        go_ret
        exact ⟨ret_bool hm.out.symm, rfl⟩
  · have e2 : (((s[0]).toNat : Int) == 45) = false := beq_eq_false_iff_ne.2 (by omega)
    have hf : figs s.data.toList = s.data.toList.drop 0 := by
      rw [List.drop_zero]
      refine figs_pos ?_
      rw [hh]
      intro h
      have : s[0] = 45 := by simpa using h
      exact h5 (by rw [this]; rfl)
    clear hh h5
    have t1 : ¬ s.size < 0 + 1 := by omega
    by_cases t2 : 100 < s.size - 0
    · have hm := Lib.hid (may_len hf (.inr t2))
      have t1' : ¬ (s.size : Int) - 0 < 1 := by omega
      have t2' : (100 : Int) < (s.size : Int) - 0 := by omega
      clear hf hz
      go_enter Tryz.func52, Tryz.ntmps52
      go_wp2_with fail
      go_ret
      exact ⟨ret_bool hm.out.symm, rfl⟩
    have hp : 0 < s.size := by omega
    have t1' : ¬ (s.size : Int) - 0 < 1 := by omega
    have t2' : ¬ (100 : Int) < (s.size : Int) - 0 := by omega
    have t5 : s.size ≤ 101 := by omega
    by_cases t3 : (s[0]).toNat = 48
    · have hm := Lib.hid (may_at48 hf hp t3 hz)
      have t3' : (((s[0]).toNat : Int) == 48) = true := by rw [t3]; rfl
      clear hf hz t3
      go_enter Tryz.func52, Tryz.ntmps52
      go_wp2_with fail
      go_ret
      exact ⟨ret_bool hm.out.symm, rfl⟩
    have t3' : (((s[0]).toNat : Int) == 48) = false := beq_eq_false_iff_ne.2 (by omega)
    have HF := Lib.hid (And.intro hf t3)
    clear hf t3 hz
    go_enter Tryz.func52, Tryz.ntmps52
    go_wp2_with fail
    go_loop [4] (fun i => ∃ k : Nat, 0 ≤ k ∧ k ≤ s.size ∧ i = .int .i64 k ∧ UpTo s 0 k) (fun i => s.size - (intOf i).toNat)
    case atStart => exact ⟨0, Nat.le_refl _, by omega, rfl, fun k _ h1 h2 => by omega⟩
    case round =>
      obtain ⟨k, hk0, hk, rfl, hu⟩ := hrel
      have HU := Lib.hid hu
      clear hu
      by_cases hlt : k < s.size
      · by_cases c1 : (s[k]).toNat < 48
        · have hm := Lib.hid (may_bad HF.out.1 hk0 hlt (by omega))
          go_wp2_with fail
          go_ret
          exact ⟨ret_bool hm.out.symm, rfl⟩
        · by_cases c2 : 57 < (s[k]).toNat
          · have hm := Lib.hid (may_bad HF.out.1 hk0 hlt (by omega))
            go_wp2_with fail
            go_ret
            exact ⟨ret_bool hm.out.symm, rfl⟩
          · go_wp2_with fail
            go_round
            case rel =>
              refine ⟨k + 1, by omega, by omega, by go_num, fun j hj h1 h2 => ?_⟩
              by_cases hjk : j = k
              · subst hjk; omega
              · exact HU.out j hj h1 (by omega)
            case measure => simp [intOf]; omega
      · have hke : k = s.size := by omega
        have hm := Lib.hid (may_upto HF.out.1 hp (by omega) HF.out.2 (by rw [← hke]; exact HU.out))
        go_wp2_with fail
        go_ret
        exact ⟨ret_bool hm.out.symm, rfl⟩
theorem rMay_is {s : ByteArray} {o : Option Int} (h : Is s o) : RMayIs s o.isSome := by
  rw [← h.may]; exact rMay_any s h.size
end Go.Proofs.YtljkmdmbndjngaaGreat
/-
  lex's small functions: which byte is one of some, how far a part goes, a part as a number, a number as a part.
-/
namespace Go.Proofs.YtljkmdmbndjngaaGreat
set_option linter.unusedVariables false
set_option linter.unusedSimpArgs false
open Go.RowKit

theorem indexByte_nn (l : List UInt8) (c : UInt8) : (0 ≤ Lib.indexByte l c) ↔ l.contains c = true := by
  induction l with
  | nil => simp [Lib.indexByte]
  | cons b l ih =>
    have hg := Lib.indexByte_ge l c
    have hc : (c == b) = (b == c) := Bool.eq_iff_iff.2 (by rw [beq_iff_eq, beq_iff_eq]; exact eq_comm)
    unfold Lib.indexByte
    rw [List.contains_cons, hc]
    cases h : (b == c) with
    | true => simp
    | false =>
      rw [Bool.false_or, ← ih]
      by_cases h1 : Lib.indexByte l c = -1
      · rw [h1]; simp
      · rw [beq_false_of_ne h1]; simp; omega
theorem u8_back (c : UInt8) : ((c.toNat : Int).toNat).toUInt8 = c := by simp
def BoolEnd (v : Bool) (w : World) (e : Ending) (w' : World) : Prop := e = .returned (.bool v) ∧ w = w'
theorem isOf_is (m : ByteArray) (c : UInt8) (v : Bool) (hv : m.data.toList.contains c = v) (w : World) : Calls Tryz.prog 55 #[.string m, .int .u8 (c.toNat : Int)] w (BoolEnd v w) := by
  have K := Tryz.strings_IndexByte m (c.toNat : Int) w
  rw [u8_back] at K
  obtain ⟨z, hz⟩ : ∃ z, z = Lib.indexByte m.data.toList c := ⟨_, rfl⟩
  have hn := indexByte_nn m.data.toList c
  rw [hv, ← hz] at hn
  rw [← hz] at K
  have HK := Lib.hid K
  clear K hz hv
  cases v with
  | true =>
    have h0 : 0 ≤ z := hn.2 rfl
    clear hn
    go_enter Tryz.func55, Tryz.ntmps55
    go_wp2_with fail
    refine HK.out.mono ?_
    rintro e w1 ⟨rfl, rfl⟩
    go_wp2_with fail
    go_ret
    exact ⟨rfl, rfl⟩
  | false =>
    have h0 : z < 0 := by
      by_cases h : 0 ≤ z
      · exact absurd (hn.1 h) (by decide)
      · omega
    clear hn
    go_enter Tryz.func55, Tryz.ntmps55
    go_wp2_with fail
    refine HK.out.mono ?_
    rintro e w1 ⟨rfl, rfl⟩
    go_wp2_with fail
    go_ret
    exact ⟨congrArg (fun b => Ending.returned (.bool b)) (decide_eq_false (by omega)), rfl⟩
/-- What ends a part: a byte that isn't one of those in a box. -/
theorem ends_is (B : Nat) (m : ByteArray) (c : UInt8) (v : Bool) (hv : m.data.toList.contains c = v) (w : World) (hc : w.cell? ⟨B, 0, none⟩ = some (.string m)) :
    Calls Tryz.prog 57 #[.int .u8 (c.toNat : Int), .pointer (some ⟨B, 0, none⟩)] w (BoolEnd (!v) w) := by
  have K := Lib.hid (isOf_is m c v hv)
  clear hv
  go_enter Tryz.func57, Tryz.ntmps57
  go_wp2_with fail
  refine (K.out _).mono ?_
  rintro e w1 ⟨rfl, rfl⟩
  go_wp2_with fail
  go_ret
  exact ⟨rfl, rfl⟩
theorem bytes_ext {a b : ByteArray} (h : a.data.toList = b.data.toList) : a = b := by
  cases a; cases b
  simp only [ByteArray.mk.injEq]
  exact Array.toList_inj.1 h
theorem extract_list (s : ByteArray) (i j : Nat) : (s.extract i j).data.toList = (s.data.toList.drop i).take (j - i) := by
  rw [ByteArray.data_extract, Array.toList_extract, List.extract_eq_take_drop]
def StrEnd (t : ByteArray) (w : World) (e : Ending) (w' : World) : Prop := e = .returned (.string t) ∧ w = w'
theorem get_list {s : ByteArray} {k : Nat} (h : k < s.size) {c : UInt8} (hc : s.data.toList[k]? = some c) : s[k] = c := by
  have h2 : k < s.data.toList.length := by simpa using h
  rw [List.getElem?_eq_getElem h2] at hc
  exact Option.some.inj hc
set_option maxHeartbeats 800000 in
theorem part_is (B k : Nat) (m s : ByteArray) (c : UInt8) (t r : List UInt8) (hm : m.data.toList = moreL k) (hl : s.data.toList = c :: t ++ r) (ht : ∀ x ∈ t, (moreL k).contains x = true) (hs : Stop k r) (hz : s.size ≤ 9223372036854775807)
    (w : World) (hc : w.cell? ⟨B, 0, none⟩ = some (.string m)) :
    Calls Tryz.prog 56 #[.string s, .func (.func 57) #[] #[.pointer (some ⟨B, 0, none⟩)]] w (StrEnd ⟨(c :: t).toArray⟩ w) := by
  have hsz : s.size = t.length + 1 + r.length := by
    have : s.data.toList.length = s.size := by simp
    rw [← this, hl]; simp; omega
  have HE := Lib.hid (fun (x : UInt8) (v : Bool) (hv : (moreL k).contains x = v) => ends_is B m x v (by rw [hm]; exact hv) w hc)
  have HT : Hid (∀ j, 1 ≤ j → j < t.length + 1 → ∀ (hj : j < s.size), (moreL k).contains s[j] = true) := Lib.hid (by
    intro j h1 h2 hj
    obtain ⟨i, rfl⟩ : ∃ i, j = i + 1 := ⟨j - 1, by omega⟩
    have : s[i + 1] = t[i]'(by omega) := get_list hj (by
      rw [hl, show c :: t ++ r = c :: (t ++ r) from rfl, List.getElem?_cons_succ, List.getElem?_append_left (by omega), List.getElem?_eq_getElem (by omega)])
    rw [this]
    exact ht _ (List.getElem_mem _))
  have HR : Hid (∀ (hj : t.length + 1 < s.size), (moreL k).contains s[t.length + 1] = false) := Lib.hid (by
    intro hj
    cases r with
    | nil => simp at hsz; omega
    | cons d r =>
      have : s[t.length + 1] = d := get_list hj (by
        rw [hl, show c :: t ++ d :: r = c :: (t ++ d :: r) from rfl, List.getElem?_cons_succ, List.getElem?_append_right (by omega)]; simp)
      rw [this]
      exact hs d rfl)
  have HX : Hid (s.extract 0 (t.length + 1) = ⟨(c :: t).toArray⟩) := Lib.hid (bytes_ext (by
    rw [extract_list, List.drop_zero, hl, Nat.sub_zero]
    exact List.take_left (l₁ := c :: t)))
  have hlt : t.length + 1 ≤ s.size := by omega
  clear hm hl ht hs hsz hc
  generalize t.length = n at *
  go_enter Tryz.func56, Tryz.ntmps56
  go_wp2_with fail
  go_loop [5] (fun i => ∃ j : Nat, i = .int .i64 j ∧ 1 ≤ j ∧ j ≤ n + 1) (fun i => n + 1 - (intOf i).toNat)
  case atStart => exact ⟨1, rfl, by omega, by omega⟩
  case round =>
    obtain ⟨j, rfl, h1, h2⟩ := hrel
    by_cases h3 : j < n + 1
    · have hj : j < s.size := by omega
      have K := Lib.hid (HE.out _ _ (HT.out j h1 h3 hj))
      have e1 : (j : Int) < (s.size : Int) := by omega
      go_wp2_with fail
      refine K.out.mono ?_
      rintro e w1 ⟨rfl, rfl⟩
      go_wp2_with fail
      go_round
      case rel => exact ⟨j + 1, by go_num, by omega, by omega⟩
      case measure => simp [intOf]; omega
    · obtain rfl : j = n + 1 := by omega
      by_cases h4 : n + 1 < s.size
      · have K := Lib.hid (HE.out _ _ (HR.out h4))
        go_wp2_with fail
        refine K.out.mono ?_
        rintro e w1 ⟨rfl, rfl⟩
        go_wp2_with fail
        go_ret
        exact ⟨by rw [← HX.out]; rfl, rfl⟩
      · have e5 : s.size ≤ n + 1 := by omega
        go_wp2_with fail
        go_ret
        exact ⟨by rw [← HX.out]; rfl, rfl⟩
end Go.Proofs.YtljkmdmbndjngaaGreat
/-
  lex's Number, Literal, by lists of bytes.
-/
namespace Go.Proofs.YtljkmdmbndjngaaGreat
set_option linter.unusedVariables false
set_option linter.unusedSimpArgs false
open Go.RowKit

def tx (l : List UInt8) : ByteArray := ⟨l.toArray⟩
theorem tx_list (l : List UInt8) : (tx l).data.toList = l := rfl
theorem tx_size (l : List UInt8) : (tx l).size = l.length := rfl
theorem tx_back (s : ByteArray) : tx s.data.toList = s := bytes_ext rfl
theorem tx_cat (a b : List UInt8) : tx a ++ tx b = tx (a ++ b) := bytes_ext (by
  show ((tx a) ++ (tx b)).data.toList = a ++ b
  rw [ByteArray.data_append, Array.toList_append]
  rfl)
def swapN : List UInt8 → List UInt8
  | [] => []
  | c :: r => if c = 95 then 45 :: r else c :: r
def swapL : List UInt8 → List UInt8
  | [] => []
  | c :: r => if c = 45 then 95 :: r else c :: r
/-- Whether a text is a part's number; its number; a number as a part. -/
def numB (l : List UInt8) : Bool := !(l.head? == some 45) && mayL (swapN l)
def numT (l : List UInt8) : List UInt8 := if numB l then swapN l else []
def litT (l : List UInt8) : List UInt8 := if mayL l then swapL l else []
def PairEnd (t : List UInt8) (v : Bool) (w : World) (e : Ending) (w' : World) : Prop := e = .returned (.tuple #[.string (tx t), .bool v]) ∧ w = w'
theorem prefix_head (l : List UInt8) (c : UInt8) : Lib.hasPrefix l [c] = (l.head? == some c) := by
  cases l with
  | nil => rfl
  | cons d l =>
    show ([c] : List UInt8).isPrefixOf (d :: l) = (some d == some c)
    simp only [List.isPrefixOf, Bool.and_true]
    rw [Bool.eq_iff_iff, beq_iff_eq, beq_iff_eq, Option.some.injEq]
    exact eq_comm
theorem pair_eq {t u : List UInt8} {v x : Bool} (h : t = u) (hv : v = x) : Ending.returned (.tuple #[.string (tx t), .bool v]) = .returned (.tuple #[.string (tx u), .bool x]) := by rw [h, hv]
theorem May_tx (l : List UInt8) (h : l.length ≤ 140737488355328) (v : Bool) (hv : mayL l = v) (w : World) : Calls Tryz.prog 67 #[.string (tx l)] w (BoolEnd v w) := by
  have := may_any (tx l) w (by rw [tx_size]; unfold maxLen; omega)
  rw [tx_list, hv] at this
  exact this
theorem Has_tx (l : List UInt8) (c : UInt8) (w : World) (v : Bool) (hv : (l.head? == some c) = v) : Calls Tryz.prog 75 #[.string (tx l), .string ⟨#[c]⟩] w (BoolEnd v w) := by
  have := Tryz.strings_HasPrefix (tx l) ⟨#[c]⟩ w
  rw [tx_list, show (⟨#[c]⟩ : ByteArray).data.toList = [c] from rfl, prefix_head, hv] at this
  exact this.mono fun e w' h => ⟨h.1, h.2.symm⟩
theorem Cut_tx (l m : List UInt8) (c : UInt8) (w : World) (v : Bool) (hv : (l.head? == some c) = v) (hm : m = if v then l.drop 1 else l) : Calls Tryz.prog 70 #[.string (tx l), .string ⟨#[c]⟩] w (PairEnd m v w) := by
  have := Tryz.strings_CutPrefix (tx l) ⟨#[c]⟩ w
  rw [tx_list, show (⟨#[c]⟩ : ByteArray).data.toList = [c] from rfl] at this
  unfold Lib.trimPrefix at this
  rw [prefix_head, hv] at this
  subst hm
  exact this.mono fun e w' h => ⟨h.1, h.2.symm⟩
set_option maxHeartbeats 800000 in
theorem Number_is (l : List UInt8) (h : l.length ≤ 140737488355327) (w : World) : Calls Tryz.prog 58 #[.string (tx l)] w (PairEnd (numT l) (numB l) w) := by
  by_cases h1 : l.head? = some 45
  · have e0 := Lib.hid (show numB l = false by unfold numB; rw [h1]; rfl)
    have e1 := Lib.hid (show numT l = [] by unfold numT; rw [e0.out]; rfl)
    have K := Lib.hid (Has_tx l 45 w true (by rw [h1]; rfl))
    clear h1
    rw [e0.out, e1.out]
    generalize tx l = s at *
    go_enter Tryz.func58, Tryz.ntmps58
    go_wp2_with fail
    refine K.out.mono ?_
    rintro e w1 ⟨rfl, rfl⟩
    go_wp2_with fail
    go_ret2
    exact ⟨rfl, rfl⟩
  · have hh : (l.head? == some 45) = false := beq_eq_false_iff_ne.2 h1
    have K := Lib.hid (Has_tx l 45 w false hh)
    by_cases h2 : l.head? = some 95
    · obtain ⟨r, rfl⟩ : ∃ r, l = 95 :: r := by
        cases l with
        | nil => cases h2
        | cons d r => cases h2; exact ⟨r, rfl⟩
      have e0 := Lib.hid (show numB (95 :: r) = mayL (45 :: r) by unfold numB; rw [hh]; rfl)
      have K2 := Lib.hid (Cut_tx (95 :: r) r 95 w true rfl rfl)
      have hc : (⟨#[45]⟩ : ByteArray) ++ tx r = tx (45 :: r) := tx_cat [45] r
      have KM := Lib.hid (May_tx (45 :: r) (by simp at h ⊢; omega) (mayL (45 :: r)) rfl w)
      have hz : (tx r).size ≤ 140737488355327 := by rw [tx_size]; simp at h; omega
      have e2 := Lib.hid (show numT (95 :: r) = if mayL (45 :: r) then 45 :: r else [] by unfold numT; rw [e0.out]; rfl)
      rw [e0.out, e2.out]
      rw [← hc] at KM
      have HC := Lib.hid hc
      clear h1 hh h2 hc
      generalize tx (95 :: r) = s at *
      rcases hb : mayL (45 :: r) with _ | _
      all_goals
        rw [hb] at KM
        clear hb
        go_enter Tryz.func58, Tryz.ntmps58
        go_wp2_with fail
        refine K.out.mono ?_
        rintro e w1 ⟨rfl, rfl⟩
        go_wp2_with fail
        refine K2.out.mono ?_
        rintro e w1 ⟨rfl, rfl⟩
        go_wp2_with fail
        refine KM.out.mono ?_
        rintro e w1 ⟨rfl, rfl⟩
        go_wp2_with fail
        go_ret2
        first | exact ⟨rfl, rfl⟩ | exact ⟨by rw [HC.out]; rfl, rfl⟩
    · have hh2 : (l.head? == some 95) = false := beq_eq_false_iff_ne.2 h2
      have hsw : swapN l = l := by
        cases l with
        | nil => rfl
        | cons d r =>
          show (if d = 95 then 45 :: r else d :: r) = d :: r
          exact if_neg (fun h' => h2 (by rw [h']; rfl))
      have e0 := Lib.hid (show numB l = mayL l by unfold numB; rw [hh, hsw]; rfl)
      have K2 := Lib.hid (Cut_tx l l 95 w false hh2 rfl)
      have KM := Lib.hid (May_tx l (by omega) (mayL l) rfl w)
      have e2 := Lib.hid (show numT l = if mayL l then l else [] by unfold numT; rw [e0.out, hsw])
      rw [e0.out, e2.out]
      clear h1 hh h2 hh2 hsw
      rcases hb : mayL l with _ | _
      all_goals
        rw [hb] at KM
        clear hb
        go_enter Tryz.func58, Tryz.ntmps58
        go_wp2_with fail
        refine K.out.mono ?_
        rintro e w1 ⟨rfl, rfl⟩
        go_wp2_with fail
        refine K2.out.mono ?_
        rintro e w1 ⟨rfl, rfl⟩
        go_wp2_with fail
        refine KM.out.mono ?_
        rintro e w1 ⟨rfl, rfl⟩
        go_wp2_with fail
        go_ret2
        exact ⟨rfl, rfl⟩
set_option maxHeartbeats 800000 in
theorem Literal_is (l : List UInt8) (h : l.length ≤ 140737488355327) (w : World) : Calls Tryz.prog 47 #[.string (tx l)] w (PairEnd (litT l) (mayL l) w) := by
  have KM := Lib.hid (May_tx l (by omega) (mayL l) rfl w)
  have e0 := Lib.hid (show litT l = if mayL l then swapL l else [] from rfl)
  rw [e0.out]
  clear e0
  by_cases h2 : l.head? = some 45
  · obtain ⟨r, rfl⟩ : ∃ r, l = 45 :: r := by
      cases l with
      | nil => cases h2
      | cons d r => cases h2; exact ⟨r, rfl⟩
    have K2 := Lib.hid (Cut_tx (45 :: r) r 45 w true rfl rfl)
    have HC := Lib.hid (show (⟨#[95]⟩ : ByteArray) ++ tx r = tx (95 :: r) from tx_cat [95] r)
    have hz : (tx r).size ≤ 140737488355327 := by rw [tx_size]; simp at h; omega
    rw [show swapL (45 :: r) = 95 :: r from rfl]
    clear h2
    rcases hb : mayL (45 :: r) with _ | _
    all_goals
      rw [hb] at KM
      clear hb
      generalize tx (45 :: r) = s at *
      go_enter Tryz.func47, Tryz.ntmps47
      go_wp2_with fail
      refine KM.out.mono ?_
      rintro e w1 ⟨rfl, rfl⟩
      go_wp2_with fail
    · go_ret2
      exact ⟨rfl, rfl⟩
    · refine K2.out.mono ?_
      rintro e w1 ⟨rfl, rfl⟩
      go_wp2_with fail
      go_ret2
      first | exact ⟨rfl, rfl⟩ | exact ⟨by rw [HC.out]; rfl, rfl⟩
  · have hh2 : (l.head? == some 45) = false := beq_eq_false_iff_ne.2 h2
    have hsw : swapL l = l := by
      cases l with
      | nil => rfl
      | cons d r =>
        show (if d = 45 then 95 :: r else d :: r) = d :: r
        exact if_neg (fun h' => h2 (by rw [h']; rfl))
    have K2 := Lib.hid (Cut_tx l l 45 w false hh2 rfl)
    rw [hsw]
    clear h2 hh2 hsw
    rcases hb : mayL l with _ | _
    all_goals
      rw [hb] at KM
      clear hb
      go_enter Tryz.func47, Tryz.ntmps47
      go_wp2_with fail
      refine KM.out.mono ?_
      rintro e w1 ⟨rfl, rfl⟩
      go_wp2_with fail
    · go_ret2
      exact ⟨rfl, rfl⟩
    · refine K2.out.mono ?_
      rintro e w1 ⟨rfl, rfl⟩
      go_wp2_with fail
      go_ret2
      exact ⟨rfl, rfl⟩
end Go.Proofs.YtljkmdmbndjngaaGreat

import Derived.Test.YtpledghphljfkaaDoorMah
import Derived.WalkKit
import Derived.WalkSpells
import Derived.WalkLawsBesides
import Derived.Lib.Hide
import Derived.Test.YtpledghphljfkaaDoorMao
import Derived.Lib.ItoaNum
import Derived.BigQuiet
import Derived.Deep.QuietTactic
import Derived.Deep.OwnRows
import Derived.Laws.CopyOwn
import Derived.Lib.Walk
import Derived.Lib.ItoaWalk
import Derived.Lib.ItoaMem
import Derived.Lib.AppendIntMem
import Derived.Lib.Slices
import Derived.BigCall
import Derived.BigGuard
import Derived.Deep.RegionHeld3
import Derived.Lib.AtoiErrMem
import Derived.Deep.RegionWith
import Derived.Deep.DeepCutAuto
import Derived.Laws.Rows
/-
  The reference Size of shapes, by its contract; joined by shake.py, minus.py.
-/
namespace Go.Proofs.YtpledghphljfkaaDoor
set_option linter.unusedVariables false
set_option linter.unusedSimpArgs false
section
end
section
open Go.RowKit
structure R3 (l : List Int) (k : Nat) (sz : Int) : Prop where
  lo : 1 ≤ sz
  hi : sz ≤ 4096
  eq : sz = pr (l.take k)
end
end Go.Proofs.YtpledghphljfkaaDoor
/-
  The reference functions of num and width that the later layers call, each by its contract; joined by shake.py, minus.py.
-/
namespace Go.Proofs.YtpledghphljfkaaDoor
set_option linter.unusedVariables false
set_option linter.unusedSimpArgs false
section
open Go.RowKit
theorem ret_str {a b : ByteArray} (h : a = b) : Ending.returned (.string a) = .returned (.string b) := by rw [h]
end
section
open Go.RowKit
theorem S_neg {n : Nat} {x : Int} (h : x.natAbs = n) (h0 : x < 0) : S x = ⟨(45 :: Lib.decDigits n).toArray⟩ := by
  unfold S Lib.itoa; rw [if_pos h0, h]
theorem cat_hyphen (l : List UInt8) : (⟨#[45]⟩ : ByteArray) ++ ⟨l.toArray⟩ = ⟨(45 :: l).toArray⟩ := by
  apply ByteArray.ext; simp [ByteArray.data_append]
open Go.RowKit
def told (x : Int) : Value := if x.natAbs < lim then .tuple #[.string (S x), .int .i64 0] else .tuple #[.string ⟨#[]⟩, .int .i64 8]
end
section
open Go.RowKit
def toldR (z : Int) : ByteArray := if z.natAbs < lim then S z else ⟨#[]⟩
def toldE (z : Int) : Int := if z.natAbs < lim then 0 else 8
end
section
open Go.RowKit
def OpPost (z : Int) (w : World) (e : Ending) (w' : World) : Prop := e = .returned (.tuple #[.string (toldR z), .int .i64 (toldE z)]) ∧ Below w.heap.size w w'
end
section
open Go.RowKit
def T : Option Int → ByteArray
  | some x => S x
  | none => ⟨#[]⟩
def negO : Option Int → Option Int
  | some x => some (-x)
  | none => none
end
section
open Go.RowKit
theorem S_nlit {l : List UInt8} {n : Nat} (hn : dval l = n) (h0 : 0 < n) (ha : AllDig l) (hc : ∃ c r, l = c :: r ∧ c.toNat ≠ 48) : S (-(n : Int)) = ⟨(45 :: l).toArray⟩ := by
  rw [S_neg (n := n) (by omega) (by omega), ← hn, dig_lit ha hc]
theorem toldR_yes {z : Int} (h : z.natAbs < lim) : toldR z = S z := by unfold toldR; rw [if_pos h]
theorem toldE_yes {z : Int} (h : z.natAbs < lim) : toldE z = 0 := by unfold toldE; rw [if_pos h]
end
section
open Go.RowKit
theorem B4.drew {w W : World} {s0 s1 s2 s3 : Int} {P0 P1 P2 P3 : Option Addr} {n0 n1 n2 n3 c0 c1 c2 c3 : Nat} (h : B4 w W s0 P0 n0 c0 s1 P1 n1 c1 s2 P2 n2 c2 s3 P3 n3 c3) : B4 w W.drew s0 P0 n0 c0 s1 P1 n1 c1 s2 P2 n2 c2 s3 P3 n3 c3 := ⟨h.a, h.b, h.r, h.t, h.bel.drew⟩
end
section
open Go.RowKit
def B (l : List UInt8) : ByteArray := ⟨l.toArray⟩
theorem B_list (l : List UInt8) : (B l).data.toList = l := rfl
theorem B_size (l : List UInt8) : (B l).size = l.length := by simp [B, ByteArray.size]
theorem ba_ext {a b : ByteArray} (h : a.data.toList = b.data.toList) : a = b := by
  obtain ⟨⟨x⟩⟩ := a
  obtain ⟨⟨y⟩⟩ := b
  have : x = y := h
  rw [this]
def strLen : Value → Nat
  | .string s => s.size
  | _ => 0
theorem dig_lead {c : UInt8} {r : List UInt8} (h : AllDig (c :: r)) (hc : c ≠ 48 ∨ r = []) : c :: r = Lib.decDigits (dval (c :: r)) := by
  refine decDigits_of _ h (by simp) ?_
  rcases hc with hc | rfl
  · exact .inr ⟨c, r, rfl, fun e => hc (UInt8.toNat_inj.1 e)⟩
  · exact .inl rfl
def BarePost (n : Nat) (w : World) (e : Ending) (w' : World) : Prop := e = .returned (.string (B (Lib.decDigits n))) ∧ w = w'
def sgn (b : Bool) (n : Nat) : Int := if b then -(n : Int) else n
theorem S_nat (n : Nat) : S (n : Int) = B (Lib.decDigits n) := S_pos (by omega) (by omega)
theorem S_negnat {n : Nat} (h : 0 < n) : S (-(n : Int)) = B (45 :: Lib.decDigits n) := S_neg (by omega) (by omega)
theorem dec_48 {n : Nat} (h : Lib.decDigits n = [48]) : n = 0 := decDigits_inj (h.trans (decDigits_small (n := 0) (by decide)).symm)
def SignedPost (z : Int) (w : World) (e : Ending) (w' : World) : Prop := e = .returned (.string (S z)) ∧ w = w'
theorem fig_at {l : List UInt8} (hd : AllDig l) {i k : Nat} (h : k + 1 + i = l.length) (hk : k < l.length) : dval l / 10 ^ i % 10 = (l[k]).toNat - 48 := by
  have hc := hd l[k] (List.getElem_mem hk)
  have e : l = l.take k ++ [l[k]] ++ l.drop (k + 1) := by simp
  have hdl : (l.drop (k + 1)).length = i := by simp; omega
  have hlt := dval_lt (l := l.drop (k + 1)) (fun c hc => hd c (List.mem_of_mem_drop hc))
  rw [hdl] at hlt
  have hv : dval l = (dval (l.take k) * 10 + ((l[k]).toNat - 48)) * 10 ^ i + dval (l.drop (k + 1)) := by
    have := congrArg dval e
    rw [dval_append, dval_snoc, hdl] at this
    exact this
  rw [hv, Nat.mul_comm, Nat.mul_add_div (Nat.pow_pos (by decide)), Nat.div_eq_of_lt hlt]
  omega
theorem fig_past {l : List UInt8} (hd : AllDig l) {i : Nat} (h : l.length ≤ i) : dval l / 10 ^ i % 10 = 0 := by
  rw [Nat.div_eq_of_lt (Nat.lt_of_lt_of_le (dval_lt hd) (Nat.pow_le_pow_right (by decide) h))]
def RIntEnd (z : Int) (w : World) (e : Ending) (w' : World) : Prop := e = .returned (.int .i64 z) ∧ Below w.heap.size w w'
theorem ret_i64 {a b : Int} (h : a = b) : Ending.returned (.int .i64 a) = .returned (.int .i64 b) := by rw [h]
theorem dval_split {l : List UInt8} {i : Nat} (hi : i < l.length) : dval l = (dval (l.take i) * 10 + ((l[i]).toNat - 48)) * 10 ^ (l.length - 1 - i) + dval (l.drop (i + 1)) := by
  have e : l = l.take i ++ [l[i]] ++ l.drop (i + 1) := by simp
  have hdl : (l.drop (i + 1)).length = l.length - 1 - i := by simp; omega
  have := congrArg dval e
  rw [dval_append, dval_snoc, hdl] at this
  exact this
theorem lex_lt {l m : List UInt8} (hl : AllDig l) (hm : AllDig m) (h : l.length = m.length) {i : Nat} (hi : i < l.length) (hi' : i < m.length) (ht : l.take i = m.take i) (hlt : (l[i]).toNat < (m[i]).toNat) : dval l < dval m := by
  rw [dval_split hi, dval_split hi', ht, h]
  have h1 := dval_lt (l := l.drop (i + 1)) (fun c hc => hl c (List.mem_of_mem_drop hc))
  have e1 : (l.drop (i + 1)).length = m.length - 1 - i := by simp; omega
  rw [e1] at h1
  have hd := hl l[i] (List.getElem_mem hi)
  have h2 : (dval (m.take i) * 10 + ((l[i]).toNat - 48) + 1) * 10 ^ (m.length - 1 - i) ≤ (dval (m.take i) * 10 + ((m[i]).toNat - 48)) * 10 ^ (m.length - 1 - i) := Nat.mul_le_mul_right _ (by omega)
  rw [Nat.add_mul, Nat.one_mul] at h2
  omega
theorem take_up {l m : List UInt8} {i : Nat} (hi : i < l.length) (hi' : i < m.length) (ht : l.take i = m.take i) (he : (l[i]).toNat = (m[i]).toNat) : l.take (i + 1) = m.take (i + 1) := by
  rw [List.take_succ_eq_append_getElem hi, List.take_succ_eq_append_getElem hi', ht, UInt8.toNat_inj.1 he]
theorem dec_len_lt {x y : Nat} (h : (Lib.decDigits x).length < (Lib.decDigits y).length) : x < y := by
  have hp := decDigits_len_pos x
  have h1 := (decDigits_len_le (n := x) hp).1 (Nat.le_refl _)
  have h2 : ¬ y < 10 ^ (Lib.decDigits x).length := fun h3 => by
    have := (decDigits_len_le (n := y) hp).2 h3
    omega
  omega
def MoreEnd (z : Int) (w : World) (e : Ending) (w' : World) : Prop := e = .returned (.int .i64 z) ∧ Drawn w w'
theorem cmpN_of_lt {x y : Nat} (h : x < y) : cmpN x y = -1 := by unfold cmpN; rw [if_pos h]
theorem cmpN_of_gt {x y : Nat} (h : y < x) : cmpN x y = 1 := by unfold cmpN; rw [if_neg (by omega), if_pos h]
end
section
open Go.RowKit
def PlInv (x y i c : Nat) (R : List UInt8) : Prop := AllDig R ∧ R.length = i ∧ c ≤ 1 ∧ dval R + c * 10 ^ i = x % 10 ^ i + y % 10 ^ i
def digB (d : Nat) : UInt8 := UInt8.ofNat (48 + d)
theorem digB_nat {d : Nat} (h : d < 10) : (digB d).toNat = 48 + d := by
  unfold digB; rw [UInt8.toNat_ofNat']; omega
theorem plInv_zero (x y : Nat) : PlInv x y 0 0 [] := ⟨(by intro c hc; cases hc), rfl, (by decide), (by simp [dval, Nat.mod_one])⟩
theorem plInv_next {x y i c : Nat} {R : List UInt8} (h : PlInv x y i c R) {n : Nat} (hn : n = x / 10 ^ i % 10 + y / 10 ^ i % 10 + c) : PlInv x y (i + 1) (n / 10) (digB (n % 10) :: R) := by
  obtain ⟨h1, h2, h3, h4⟩ := h
  have hb := digB_nat (d := n % 10) (Nat.mod_lt _ (by decide))
  have e1 : x / 10 ^ i % 10 < 10 := Nat.mod_lt _ (by decide)
  have e2 : y / 10 ^ i % 10 < 10 := Nat.mod_lt _ (by decide)
  refine ⟨?_, by simp [h2], by omega, ?_⟩
  · intro c hc
    rcases List.mem_cons.1 hc with rfl | hc
    · omega
    · exact h1 c hc
  · rw [dval_cons, hb, h2, Nat.mod_pow_succ, Nat.mod_pow_succ, Nat.pow_succ]
    have e3 : 48 + n % 10 - 48 = n % 10 := by omega
    rw [e3]
    have e4 : n % 10 + 10 * (n / 10) = n := Nat.mod_add_div n 10
    have e5 : n / 10 * (10 ^ i * 10) = 10 ^ i * (10 * (n / 10)) := by
      rw [Nat.mul_comm, Nat.mul_assoc]
    have e6 : n % 10 * 10 ^ i + n / 10 * (10 ^ i * 10) = n * 10 ^ i := by
      rw [e5, Nat.mul_comm (n % 10), ← Nat.mul_add, e4, Nat.mul_comm]
    have e7 : n * 10 ^ i = 10 ^ i * (x / 10 ^ i % 10) + 10 ^ i * (y / 10 ^ i % 10) + c * 10 ^ i := by
      rw [hn, Nat.mul_comm, Nat.mul_add, Nat.mul_add, Nat.mul_comm c]
    omega
theorem plInv_end {x y i c : Nat} {R : List UInt8} (h : PlInv x y (i + 1) c R) (hx : x < 10 ^ i) (hy : y < 10 ^ i) : dval R = x + y := by
  obtain ⟨h1, h2, h3, h4⟩ := h
  have e : 10 ^ (i + 1) = 10 ^ i * 10 := Nat.pow_succ ..
  have hp : 0 < 10 ^ i := Nat.pow_pos (by decide)
  rw [e] at h4
  rw [Nat.mod_eq_of_lt (by omega), Nat.mod_eq_of_lt (by omega)] at h4
  have : c = 0 := by
    rcases Nat.eq_zero_or_pos c with h0 | h0
    · exact h0
    · have : c = 1 := by omega
      subst this
      omega
  subst this
  omega
theorem B_append (l m : List UInt8) : B l ++ B m = B (l ++ m) := by
  apply ba_ext
  rw [ByteArray.data_append, Array.toList_append, B_list, B_list, B_list]
theorem conv_one (W : World) (b : UInt8) (z : Int) (hz : z = b.toNat) :
    (convert 38 9 (.slice (some ⟨W.heap.size, 0, none⟩) 1 1)).run Tryd.prog (W.alloc (.cells #[.int .u8 z] 5)) = .ok (.string (B [b])) (W.alloc (.cells #[.int .u8 z] 5)) := by
  subst hz
  exact run_convert_bytes_back (P := Tryd.prog) (W.alloc (.cells #[.int .u8 b.toNat] 5)) 38 9 5 ⟨W.heap.size, 0, none⟩ 1 [b] Tryd.underlying38 Tryd.underlying5 Tryd.underlying9 (fun j hj => by
    have : j = 0 := by simpa using hj
    subst this
    rw [Lib.add_plain, World.cell?_alloc_new]
    rfl)
def StrEnd (s : ByteArray) (w : World) (e : Ending) (w' : World) : Prop := e = .returned (.string s) ∧ Below w.heap.size w w'
def MiInv (x y i c : Nat) (R : List UInt8) : Prop := AllDig R ∧ R.length = i ∧ c ≤ 1 ∧ dval R + y % 10 ^ i = x % 10 ^ i + c * 10 ^ i
theorem miInv_zero (x y : Nat) : MiInv x y 0 0 [] := ⟨(by intro c hc; cases hc), rfl, (by decide), (by simp [dval, Nat.mod_one])⟩
theorem miInv_next {x y i c d c' : Nat} {R : List UInt8} (h : MiInv x y i c R) (hd : d < 10) (hc' : c' ≤ 1) (hn : d + c + y / 10 ^ i % 10 = x / 10 ^ i % 10 + 10 * c') : MiInv x y (i + 1) c' (digB d :: R) := by
  obtain ⟨h1, h2, h3, h4⟩ := h
  have hb := digB_nat hd
  refine ⟨?_, by simp [h2], hc', ?_⟩
  · intro c hc
    rcases List.mem_cons.1 hc with rfl | hc
    · omega
    · exact h1 c hc
  · rw [dval_cons, hb, h2, Nat.mod_pow_succ, Nat.mod_pow_succ, Nat.pow_succ]
    have e3 : 48 + d - 48 = d := by omega
    rw [e3]
    have e := congrArg (fun t => 10 ^ i * t) hn
    simp only [Nat.mul_add] at e
    have e5 : c' * (10 ^ i * 10) = 10 ^ i * (10 * c') := by rw [Nat.mul_comm, Nat.mul_assoc]
    have e6 : d * 10 ^ i = 10 ^ i * d := Nat.mul_comm ..
    have e7 : c * 10 ^ i = 10 ^ i * c := Nat.mul_comm ..
    omega
theorem miInv_end {x y i c : Nat} {R : List UInt8} (h : MiInv x y i c R) (hx : x < 10 ^ i) (hy : y ≤ x) : dval R = x - y := by
  obtain ⟨h1, h2, h3, h4⟩ := h
  have hl := dval_lt h1
  rw [h2] at hl
  rw [Nat.mod_eq_of_lt (by omega), Nat.mod_eq_of_lt (by omega)] at h4
  have : c = 0 := by
    rcases Nat.eq_zero_or_pos c with h0 | h0
    · exact h0
    · have : c = 1 := by omega
      subst this
      omega
  subst this
  omega
theorem dec_add_len {x y k : Nat} (hk : 0 < k) (hx : (Lib.decDigits x).length ≤ k) (hy : (Lib.decDigits y).length ≤ k) : (Lib.decDigits (x + y)).length ≤ k + 1 := by
  refine (decDigits_len_le (by omega)).2 ?_
  have h1 := (decDigits_len_le hk).1 hx
  have h2 := (decDigits_len_le hk).1 hy
  rw [Nat.pow_succ]
  generalize 10 ^ k = t at *
  omega
theorem dec_le_len {x y : Nat} (h : x ≤ y) {k : Nat} (hk : 0 < k) (hy : (Lib.decDigits y).length ≤ k) : (Lib.decDigits x).length ≤ k := (decDigits_len_le hk).2 (Nat.lt_of_le_of_lt h ((decDigits_len_le hk).1 hy))
def Figs (k : Nat) (x : Int) : Prop := (Lib.decDigits x.natAbs).length ≤ k
theorem itoa_len (x : Int) : (Lib.itoa x).length ≤ (Lib.decDigits x.natAbs).length + 1 := by
  rcases Int.lt_or_le x 0 with h | h
  · rw [itoa_neg h]; simp
  · rw [itoa_pos h]; omega
theorem itoa_head (x : Int) : decide ((Lib.itoa x).head? = some 45) = decide (x < 0) := by
  rcases Int.lt_or_le x 0 with h | h
  · rw [itoa_neg h]; simp [h]
  · rw [itoa_pos h, decide_eq_false (dec_head _), decide_eq_false (by omega)]
theorem cmpN_ge {x y : Nat} (h : y ≤ x) : ¬ cmpN x y < 0 := by unfold cmpN; split <;> (try split) <;> omega
end
section
open Go.RowKit
theorem mayL_short {l : List UInt8} (h : (figs l).length < 1 ∨ 100 < (figs l).length) : mayL l = false := by
  unfold mayL
  rcases h with h | h
  · rw [decide_eq_false (by omega)]; rfl
  · rw [decide_eq_false (p := (figs l).length ≤ 100) (by omega)]; simp
theorem mayL_zero {l : List UInt8} (h : (figs l).head? = some 48) (hl : l ≠ [48]) : mayL l = false := by
  unfold mayL
  rw [h, decide_eq_false hl]; simp
theorem mayL_bad {l : List UInt8} (h : AllDigB (figs l) = false) : mayL l = false := by
  unfold mayL
  rw [h]; simp
theorem mayL_good {l : List UInt8} (h1 : 1 ≤ (figs l).length) (h2 : (figs l).length ≤ 100) (h3 : AllDigB (figs l) = true) (h4 : (figs l).head? ≠ some 48) : mayL l = true := by
  unfold mayL
  rw [decide_eq_true h1, decide_eq_true h2, h3, decide_eq_true h4]; rfl
theorem drop_head {l : List UInt8} {a : Nat} (h : a < l.length) : (l.drop a).head? = some l[a] := by simp [List.head?_drop, h]
theorem allB_true {l : List UInt8} (h : ∀ (k : Nat) (hk : k < l.length), 48 ≤ (l[k]).toNat ∧ (l[k]).toNat ≤ 57) : AllDigB l = true := allDigB.2 fun c hc => by
  obtain ⟨k, hk, rfl⟩ := List.getElem_of_mem hc
  exact h k hk
theorem allB_false {l : List UInt8} {k : Nat} (hk : k < l.length) (h : ¬ (48 ≤ (l[k]).toNat ∧ (l[k]).toNat ≤ 57)) : AllDigB l = false := by
  rw [Bool.eq_false_iff]
  intro h2
  exact h (allDigB.1 h2 _ (List.getElem_mem hk))
def UpTo (s : ByteArray) (a i : Nat) : Prop := ∀ (k : Nat) (hk : k < s.size), a ≤ k → k < i → 48 ≤ (s[k]).toNat ∧ (s[k]).toNat ≤ 57
theorem may_upto {s : ByteArray} {a : Nat} (hf : figs s.data.toList = s.data.toList.drop a) (h1 : a < s.size) (h2 : s.size - a ≤ 100) (h3 : (s[a]).toNat ≠ 48) (hu : UpTo s a s.size) : mayL s.data.toList = true := by
  have hl : s.data.toList.length = s.size := by simp
  refine mayL_good (by rw [hf]; simp; omega) (by rw [hf]; simp; omega) ?_ ?_
  · rw [hf]
    refine allB_true fun k hk => ?_
    rw [List.length_drop, hl] at hk
    have := hu (a + k) (by omega) (by omega) (by omega)
    simp only [List.getElem_drop]
    exact this
  · rw [hf, drop_head (by omega)]
    intro h
    have : s[a] = 48 := Option.some.inj h
    exact h3 (by rw [this]; rfl)
theorem may_at48 {s : ByteArray} {a : Nat} (hf : figs s.data.toList = s.data.toList.drop a) (h1 : a < s.size) (h3 : (s[a]).toNat = 48) (hz : s.data.toList ≠ [48]) : mayL s.data.toList = false := by
  have hl : s.data.toList.length = s.size := by simp
  refine mayL_zero ?_ hz
  rw [hf, drop_head (by omega)]
  have : s[a] = 48 := UInt8.toNat_inj.1 h3
  exact congrArg some this
theorem may_bad {s : ByteArray} {a k : Nat} (hf : figs s.data.toList = s.data.toList.drop a) (h1 : a ≤ k) (hk : k < s.size) (h3 : ¬ (48 ≤ (s[k]).toNat ∧ (s[k]).toNat ≤ 57)) : mayL s.data.toList = false := by
  have hl : s.data.toList.length = s.size := by simp
  refine mayL_bad ?_
  rw [hf]
  refine allB_false (k := k - a) (by rw [List.length_drop, hl]; omega) ?_
  have e : a + (k - a) = k := by omega
  simp only [List.getElem_drop, e]
  exact h3
theorem may_len {s : ByteArray} {a : Nat} (hf : figs s.data.toList = s.data.toList.drop a) (h : s.size - a < 1 ∨ 100 < s.size - a) : mayL s.data.toList = false := by
  refine mayL_short ?_
  rw [hf, List.length_drop, show s.data.toList.length = s.size by simp]
  exact h
theorem dval_take_succ {l : List UInt8} {i : Nat} (h : i < l.length) : dval (l.take (i + 1)) = dval (l.take i) * 10 + ((l[i]).toNat - 48) := by
  rw [List.take_succ_eq_append_getElem h, dval_snoc]
theorem dval_take_le (l : List UInt8) (i : Nat) : dval (l.take i) ≤ dval l := by
  have h : dval l = dval (l.take i ++ l.drop i) := by rw [List.take_append_drop]
  rw [h, dval_append]
  exact Nat.le_trans (Nat.le_mul_of_pos_right _ (Nat.pow_pos (by decide))) (Nat.le_add_right _ _)
end
section
open Go.RowKit
theorem S_zero_list (x : Int) : ((S x).toList == [48]) = decide (x = 0) := by
  rw [str_tl, S_toList, Bool.eq_iff_iff, beq_iff_eq, decide_eq_true_eq]
  have e : Lib.itoa 0 = [48] := by rw [itoa_pos (by omega)]; exact decDigits_small (n := 0) (by decide)
  rw [← e]
  exact ⟨fun h => itoa_inj h, fun h => by rw [h]⟩
theorem figs_lim {x : Int} (h : x.natAbs < lim) : Figs 100 x := (digs_lim _).2 h
theorem Figs.up {x : Int} {k m : Nat} (h : Figs k x) (hk : k ≤ m) : Figs m x := Nat.le_trans h hk
def bnd (z : Int) : Int := if z.natAbs < lim then z else z.sign
theorem bnd_lim (z : Int) : (bnd z).natAbs < lim := by
  have hL := lim_big
  unfold bnd
  split
  · assumption
  · rcases Int.lt_trichotomy z 0 with h | rfl | h
    · rw [Int.sign_eq_neg_one_of_neg h]; omega
    · rw [Int.sign_zero]; omega
    · rw [Int.sign_eq_one_of_pos h]; omega
theorem bnd_sign (z : Int) : (bnd z).sign = z.sign := by
  unfold bnd
  split
  · rfl
  · rw [Int.sign_sign]
theorem B_one : B (Lib.decDigits 1) = ⟨#[49]⟩ := by rw [decDigits_small (n := 1) (by decide)]; rfl
end
section
open Go.RowKit
theorem S_neg1 {x : Int} (h : x < 0) (h2 : -10 < x) : S x = ⟨#[45]⟩ ++ B [digB x.natAbs] := by
  apply ba_ext
  rw [S_toList, itoa_neg h, decDigits_small (by omega), ByteArray.data_append, Array.toList_append, B_list]
  rfl
theorem S_pos1 {x : Int} (h : 0 ≤ x) (h2 : x < 10) : S x = B [digB x.natAbs] := by
  apply ba_ext
  rw [S_toList, itoa_pos h, decDigits_small (by omega), B_list]
  rfl
theorem tdiv_low {x : Int} (h : x ≤ 0) : x.tdiv 10 = -((x.natAbs / 10 : Nat) : Int) ∧ x.tmod 10 = -((x.natAbs % 10 : Nat) : Int) := by
  obtain ⟨n, rfl⟩ : ∃ n : Nat, x = -(n : Int) := ⟨x.natAbs, by omega⟩
  rw [Int.neg_tdiv, Int.neg_tmod, Int.natAbs_neg, Int.natAbs_natCast]
  exact ⟨rfl, rfl⟩
theorem tdiv_high {x : Int} (h : 0 ≤ x) : x.tdiv 10 = ((x.natAbs / 10 : Nat) : Int) ∧ x.tmod 10 = ((x.natAbs % 10 : Nat) : Int) := by
  obtain ⟨n, rfl⟩ : ∃ n : Nat, x = (n : Int) := ⟨x.natAbs, by omega⟩
  exact ⟨rfl, rfl⟩
theorem S_neg10 {x : Int} (h : x ≤ -10) : S x = S (x.tdiv 10) ++ B [digB (x.natAbs % 10)] := by
  have e1 : (x.tdiv 10).natAbs = x.natAbs / 10 := by rw [Int.natAbs_tdiv]; rfl
  have h1 : x.tdiv 10 < 0 := by
    have := (tdiv_low (x := x) (by omega)).1
    omega
  apply ba_ext
  rw [S_toList, itoa_neg (by omega), decDigits_big (by omega), ByteArray.data_append, Array.toList_append, B_list, S_toList, itoa_neg h1, e1]
  rfl
theorem S_pos10 {x : Int} (h : 10 ≤ x) : S x = S (x.tdiv 10) ++ B [digB (x.natAbs % 10)] := by
  have e1 : (x.tdiv 10).natAbs = x.natAbs / 10 := by rw [Int.natAbs_tdiv]; rfl
  have h1 : 0 ≤ x.tdiv 10 := Int.tdiv_nonneg (by omega) (by decide)
  apply ba_ext
  rw [S_toList, itoa_pos (by omega), decDigits_big (by omega), ByteArray.data_append, Array.toList_append, B_list, S_toList, itoa_pos h1, e1]
  rfl
theorem conv_at (W : World) (b : Nat) (d : UInt8) (z : Int) (hz : z = d.toNat) (hc : W.cell? ⟨b, 0, none⟩ = some (.int .u8 z)) :
    (convert 38 9 (.slice (some ⟨b, 0, none⟩) 1 1)).run Tryd.prog W = .ok (.string (B [d])) W := by
  subst hz
  exact run_convert_bytes_back (P := Tryd.prog) W 38 9 5 ⟨b, 0, none⟩ 1 [d] Tryd.underlying38 Tryd.underlying5 Tryd.underlying9 (fun j hj => by
    have : j = 0 := by simpa using hj
    subst this
    rw [Lib.add_plain, hc]
    rfl)
theorem below_new {w w9 : World} {v : Value} {t : TypeId} (hb : Below (w.alloc (.cells #[v] t)).heap.size (w.alloc (.cells #[v] t)) w9) : w9.cell? ⟨w.heap.size, 0, none⟩ = some v := by
  have h : (w.alloc (.cells #[v] t)).heap[w.heap.size]? = some (.cells #[v] t (0, 0)) := by
    show (w.heap.push _)[w.heap.size]? = _
    simp
  have e := hb.block w.heap.size (by show _ < (w.heap.push _).size; simp)
  rw [h] at e
  rw [cell_of_row w9 _ 0 #[v] t (0, 0) e]
  rfl
theorem i64_lim0 {a : Int} (h : I64 a) : a.natAbs < lim := by
  have hL := lim_big
  unfold I64 at h
  omega
theorem S_len {x : Int} (h : I64 x) : (S x).size ≤ 1000 := Nat.le_trans (S_size (i64_lim0 h)) (by decide)
end
section
open Go.RowKit
theorem S_max : S 9223372036854775807 = ⟨#[57, 50, 50, 51, 51, 55, 50, 48, 51, 54, 56, 53, 52, 55, 55, 53, 56, 48, 55]⟩ :=
  S_lit (l := [57, 50, 50, 51, 51, 55, 50, 48, 51, 54, 56, 53, 52, 55, 55, 53, 56, 48, 55]) (n := 9223372036854775807) rfl (by unfold AllDig; decide) ⟨_, _, rfl, by decide⟩
theorem S_min : S (-9223372036854775808) = ⟨#[45, 57, 50, 50, 51, 51, 55, 50, 48, 51, 54, 56, 53, 52, 55, 55, 53, 56, 48, 56]⟩ :=
  S_nlit (l := [57, 50, 50, 51, 51, 55, 50, 48, 51, 54, 56, 53, 52, 55, 55, 53, 56, 48, 56]) (n := 9223372036854775808) rfl (by decide) (by unfold AllDig; decide) ⟨_, _, rfl, by decide⟩
theorem max_lim : (9223372036854775807 : Int).natAbs < lim := i64_lim0 (by decide)
theorem min_lim : (-9223372036854775808 : Int).natAbs < lim := i64_lim0 (by decide)
theorem dig_val {l : List UInt8} (hd : AllDig l) {k : Nat} (hk : k < l.length) : ∃ D : Nat, D < 10 ∧ (l[k]).toNat = 48 + D ∧ dval (l.take (k + 1)) = dval (l.take k) * 10 + D := by
  have h1 := hd _ (List.getElem_mem hk)
  refine ⟨(l[k]).toNat - 48, by omega, by omega, ?_⟩
  rw [dval_take_succ hk]
end
section
open Go.RowKit
theorem S_127 : S 127 = ⟨#[49, 50, 55]⟩ := S_lit (l := [49, 50, 55]) (n := 127) rfl (by unfold AllDig; decide) ⟨_, _, rfl, by decide⟩
theorem S_32767 : S 32767 = ⟨#[51, 50, 55, 54, 55]⟩ := S_lit (l := [51, 50, 55, 54, 55]) (n := 32767) rfl (by unfold AllDig; decide) ⟨_, _, rfl, by decide⟩
theorem S_i32 : S 2147483647 = ⟨#[50, 49, 52, 55, 52, 56, 51, 54, 52, 55]⟩ := S_lit (l := [50, 49, 52, 55, 52, 56, 51, 54, 52, 55]) (n := 2147483647) rfl (by unfold AllDig; decide) ⟨_, _, rfl, by decide⟩
theorem S_one1 : S 1 = ⟨#[49]⟩ := S_lit (l := [49]) (n := 1) rfl (by unfold AllDig; decide) ⟨_, _, rfl, by decide⟩
theorem S_nonempty (x : Int) : (S x).toList.isEmpty = false := by
  rw [str_tl, S_toList]
  rcases Int.lt_or_le x 0 with h | h
  · rw [itoa_neg h]; rfl
  · rw [itoa_pos h]
    cases e : Lib.decDigits x.natAbs with
    | nil => exact absurd e (decDigits_ne _)
    | cons c r => rfl
theorem sign_le {z : Int} : z.sign ≤ 0 ↔ z ≤ 0 := by
  rcases Int.lt_trichotomy z 0 with h | rfl | h
  · rw [Int.sign_eq_neg_one_of_neg h]; omega
  · simp
  · rw [Int.sign_eq_one_of_pos h]; omega
theorem sign_ge {z : Int} : 0 ≤ z.sign ↔ 0 ≤ z := by
  rcases Int.lt_trichotomy z 0 with h | rfl | h
  · rw [Int.sign_eq_neg_one_of_neg h]; omega
  · simp
  · rw [Int.sign_eq_one_of_pos h]; omega
end
section
open Go.RowKit
theorem intO_some (r : Int) : intO (some r) = if I64 r then (r, true) else (0, false) := rfl
end
section
open Go.RowKit
theorem four_at {w wr : World} {T : TypeId} (h : Below (w.heap.size + 1) (w.alloc (.cells #[.int .i64 8, .int .i64 16, .int .i64 32, .int .i64 64] T)) wr) (k : Nat) (v : Value) (hk : (#[.int .i64 8, .int .i64 16, .int .i64 32, .int .i64 64] : Array Value)[k]? = some v) : wr.cell? ⟨w.heap.size, k, none⟩ = some v := by
  have hn : (w.alloc (.cells #[.int .i64 8, .int .i64 16, .int .i64 32, .int .i64 64] T)).heap[w.heap.size]? = some (.cells #[.int .i64 8, .int .i64 16, .int .i64 32, .int .i64 64] T (0, 0)) := by
    show (w.heap.push _)[w.heap.size]? = _
    simp
  have e := h.block w.heap.size (by omega)
  rw [hn] at e
  rw [cell_of_row wr _ k _ T (0, 0) e]
  exact hk
theorem leastW_over {x : Int} (h : ¬ I64 x) : leastW x = 128 := by
  unfold leastW
  rw [if_neg (by unfold I64 at h; unfold Fit; omega), if_neg (by unfold I64 at h; unfold Fit; omega), if_neg (by unfold I64 at h; unfold Fit; omega), if_neg (by unfold I64 at h; unfold Fit; omega)]
theorem leastO_of (x : Int) : leastO (some x) = leastW x := by
  unfold leastO
  rw [intO_some]
  by_cases h : I64 x
  · rw [if_pos h]; rfl
  · rw [if_neg h, leastW_over h]; rfl
end
end Go.Proofs.YtpledghphljfkaaDoor

import Derived.Test.YtpledghphljfkaaDoorProg
import Derived.Test.YtpledghphljfkaaDoorMaa
import Derived.Lib.ItoaNum
import Derived.WalkKit
import Derived.WalkSpells
import Derived.WalkLawsBesides
import Derived.Lib.Hide
import Derived.BigQuiet
import Derived.Deep.QuietTactic
import Derived.Deep.OwnRows
import Derived.Laws.CopyOwn
import Derived.Lib.Walk
import Derived.Lib.ItoaWalk
import Derived.Lib.ItoaMem
import Derived.Lib.AppendIntMem
import Derived.Lib.Slices
import Derived.BigCall
import Derived.BigGuard
import Derived.Deep.RegionHeld3
import Derived.Lib.AtoiErrMem
import Derived.Laws.Rows
/-
  Of num and width, what later layers lean on: May, Of, Int, and Of, Max; joined by shake.py out of the texts of stages 1 and 2.
-/
namespace Go.Proofs.YtpledghphljfkaaDoor
set_option linter.unusedVariables false
set_option linter.unusedSimpArgs false
section
def val : List Nat → Nat
  | [] => 0
  | a :: r => a + 1000000000 * val r
def Ok (l : List Nat) : Prop := ∀ p ∈ l, p < 1000000000
def trim : List Nat → List Nat
  | [] => []
  | a :: r => if trim r = [] ∧ a = 0 then [] else a :: trim r
def Norm (l : List Nat) : Prop := trim l = l
theorem ok_nil : Ok [] := by simp [Ok]
theorem norm_nil : Norm [] := rfl
end
section
open Go.RowKit
def Sz (w : World) (A : Option Addr) (l : List Nat) : Prop :=
  (A = none ∧ l = []) ∨ ∃ b o, A = some ⟨b, o, none⟩ ∧ b < w.heap.size ∧ ∀ i (h : i < l.length), w.cell? ⟨b, o + i, none⟩ = some (.int .u32 l[i])
theorem Sz.below {w w' : World} {A : Option Addr} {l : List Nat} (h : Sz w A l) (hb : Below w.heap.size w w') : Sz w' A l := by
  rcases h with h | ⟨b, o, e, hlt, hc⟩
  · exact .inl h
  · exact .inr ⟨b, o, e, Nat.lt_of_lt_of_le hlt hb.size, fun i hi => (hb.cell (p := ⟨b, o + i, none⟩) hlt).trans (hc i hi)⟩
end
section
open Go.RowKit
def Drawn (w w' : World) : Prop := ∃ n, w' = w.drewN n
theorem Drawn.refl (w : World) : Drawn w w := ⟨0, rfl⟩
theorem Drawn.cell {w w' : World} (h : Drawn w w') (a : Addr) : w'.cell? a = w.cell? a := by obtain ⟨n, rfl⟩ := h; rfl
theorem Drawn.heap {w w' : World} (h : Drawn w w') : w'.heap = w.heap := by obtain ⟨n, rfl⟩ := h; rfl
end
section
open Go.RowKit
def Rw (w : World) (g N : Nat) (F : Nat → Nat) : Prop := w.rowIs g 97 N (fun j => Value.int .u32 (F j : Nat))
theorem Rw.cell {w : World} {g N : Nat} {F : Nat → Nat} (h : Rw w g N F) {i : Nat} (hi : i < N) : w.cell? ⟨g, i, none⟩ = some (.int .u32 (F i : Nat)) := World.rowIs.cell h hi
theorem Rw.frozen {w : World} {g N : Nat} {F : Nat → Nat} (h : Rw w g N F) (i : Nat) : w.frozen? ⟨g, i, none⟩ = false := World.rowIs.frozen h i
theorem Rw.lt {w : World} {g N : Nat} {F : Nat → Nat} (h : Rw w g N F) : g < w.heap.size := World.rowIs.lt h
theorem Rw.of_block {w w' : World} {g N : Nat} {F : Nat → Nat} (h : Rw w g N F) (e : w'.heap[g]? = w.heap[g]?) : Rw w' g N F := World.rowIs.of_block h e
theorem Rw.drewN {w : World} {g N : Nat} {F : Nat → Nat} (h : Rw w g N F) (n : Nat) : Rw (w.drewN n) g N F := h
def Only (g : Nat) (w w' : World) : Prop := w.grownBy w' (some g)
theorem Only.refl (g : Nat) (w : World) : Only g w w := World.grownBy.refl w _
theorem Only.trans {g : Nat} {a b c : World} (h : Only g a b) (k : Only g b c) : Only g a c :=
  ⟨k.os.trans h.os, k.tape.trans h.tape, k.output.trans h.output, Nat.le_trans h.size k.size, fun i hi hne => (k.block i (Nat.lt_of_lt_of_le hi h.size) hne).trans (h.block i hi hne)⟩
theorem Only.drewN {g : Nat} {a w : World} (h : Only g a w) (n : Nat) : Only g a (w.drewN n) := ⟨h.os, h.tape, h.output, h.size, h.block⟩
end
section
open Go.RowKit
def SzN (w : World) (v : Value) (x : Nat) : Prop := ∃ A l c, v = .slice A l.length c ∧ Sz w A l ∧ Ok l ∧ Norm l ∧ val l = x
end
section
open Go.RowKit
open Go.RowKit
theorem Rw.below {w w' : World} {g N : Nat} {F : Nat → Nat} (h : Rw w g N F) {B : Nat} (hb : Below B w w') (hg : g < B) : Rw w' g N F := h.of_block (hb.block g hg)
open Go.RowKit
theorem SzN.nil (w : World) (c : Nat) : SzN w (.slice none 0 c) 0 := ⟨none, [], c, rfl, .inl ⟨rfl, rfl⟩, ok_nil, norm_nil, rfl⟩
theorem SzN.below {w w' : World} {v : Value} {x : Nat} (h : SzN w v x) (hb : Below w.heap.size w w') : SzN w' v x := by
  obtain ⟨A, l, c, e, h1, h2⟩ := h
  exact ⟨A, l, c, e, h1.below hb, h2⟩
theorem Drawn.below {B : Nat} {w w' : World} (h : Drawn w w') : Below B w w' := by obtain ⟨n, rfl⟩ := h; exact ⟨rfl, rfl, rfl, Nat.le_refl _, fun _ _ => rfl⟩
end
section
open Go.Lib
theorem snocInd {α : Type} {P : List α → Prop} (nil : P []) (snoc : ∀ m c, P m → P (m ++ [c])) (l : List α) : P l := by
  have : ∀ r : List α, P r.reverse := by
    intro r
    induction r with
    | nil => exact nil
    | cons a r ih => rw [List.reverse_cons]; exact snoc _ _ ih
  have h := this l.reverse
  rwa [List.reverse_reverse] at h
def dval (l : List UInt8) : Nat := l.foldl (fun a c => a * 10 + (c.toNat - 48)) 0
def AllDig (l : List UInt8) : Prop := ∀ c ∈ l, 48 ≤ c.toNat ∧ c.toNat ≤ 57
theorem dval_snoc (l : List UInt8) (c : UInt8) : dval (l ++ [c]) = dval l * 10 + (c.toNat - 48) := by simp [dval]
theorem dval_append (l m : List UInt8) : dval (l ++ m) = dval l * 10 ^ m.length + dval m := by
  induction m using snocInd with
  | nil => simp [dval]
  | snoc m c ih =>
    rw [← List.append_assoc, dval_snoc, ih, dval_snoc, List.length_append]
    simp only [List.length_cons, List.length_nil, Nat.zero_add, Nat.pow_succ]
    rw [Nat.add_mul, Nat.mul_assoc]; omega
theorem dval_cons (c : UInt8) (l : List UInt8) : dval (c :: l) = (c.toNat - 48) * 10 ^ l.length + dval l := by
  rw [show c :: l = [c] ++ l from rfl, dval_append]; simp [dval]
theorem allDig_nil : AllDig [] := by simp [AllDig]
theorem allDig_append {l m : List UInt8} : AllDig (l ++ m) ↔ AllDig l ∧ AllDig m := by
  simp only [AllDig, List.mem_append]
  exact ⟨fun h => ⟨fun p hp => h p (.inl hp), fun p hp => h p (.inr hp)⟩, fun h p hp => hp.elim (h.1 p) (h.2 p)⟩
theorem allDig_cons {c : UInt8} {l : List UInt8} : AllDig (c :: l) ↔ (48 ≤ c.toNat ∧ c.toNat ≤ 57) ∧ AllDig l := by simp [AllDig]
theorem dig_toNat {d : Nat} (h : d < 10) : (UInt8.ofNat (48 + d)).toNat = 48 + d := by
  rw [UInt8.toNat_ofNat']; omega
theorem decDigits_small {n : Nat} (h : n < 10) : decDigits n = [UInt8.ofNat (48 + n)] := by rw [decDigits, dif_pos h]
theorem decDigits_big {n : Nat} (h : ¬ n < 10) : decDigits n = decDigits (n / 10) ++ [UInt8.ofNat (48 + n % 10)] := by rw [decDigits, dif_neg h]
theorem decDigits_all (n : Nat) : AllDig (decDigits n) ∧ dval (decDigits n) = n := by
  induction n using Nat.strongRecOn with
  | ind n ih =>
    by_cases h : n < 10
    · rw [decDigits_small h]
      have := dig_toNat h
      exact ⟨allDig_cons.2 ⟨by omega, allDig_nil⟩, by rw [dval_cons, this]; simp [dval]⟩
    · rw [decDigits_big h]
      obtain ⟨h1, h2⟩ := ih (n / 10) (by omega)
      have := dig_toNat (show n % 10 < 10 by omega)
      exact ⟨allDig_append.2 ⟨h1, allDig_cons.2 ⟨by omega, allDig_nil⟩⟩, by rw [dval_snoc, h2, this]; omega⟩
theorem dval_decDigits (n : Nat) : dval (decDigits n) = n := (decDigits_all n).2
theorem decDigits_dig (n : Nat) : AllDig (decDigits n) := (decDigits_all n).1
theorem decDigits_ne (n : Nat) : decDigits n ≠ [] := by
  by_cases h : n < 10
  · rw [decDigits_small h]; simp
  · rw [decDigits_big h]; simp
theorem decDigits_inj {a b : Nat} (h : decDigits a = decDigits b) : a = b := by rw [← dval_decDigits a, h, dval_decDigits]
theorem u8_ext {a b : UInt8} (h : a.toNat = b.toNat) : a = b := UInt8.toNat_inj.1 h
theorem decDigits_head (n : Nat) (h : 0 < n) : ∃ c r, decDigits n = c :: r ∧ c.toNat ≠ 48 := by
  induction n using Nat.strongRecOn with
  | ind n ih =>
    by_cases h10 : n < 10
    · rw [decDigits_small h10]
      exact ⟨_, [], rfl, by rw [dig_toNat h10]; omega⟩
    · rw [decDigits_big h10]
      obtain ⟨c, r, e, hc⟩ := ih (n / 10) (by omega) (by omega)
      exact ⟨c, r ++ [_], by rw [e]; rfl, hc⟩
theorem decDigits_of : ∀ (l : List UInt8), AllDig l → l ≠ [] → (l.length = 1 ∨ ∃ c r, l = c :: r ∧ c.toNat ≠ 48) → l = decDigits (dval l) := by
  intro l
  induction l using snocInd with
  | nil => intro _ h; exact absurd rfl h
  | snoc m c ih =>
    intro h _ h2
    obtain ⟨h3, h4⟩ := allDig_append.1 h
    have h5 := (allDig_cons.1 h4).1
    by_cases hm : m = []
    · subst hm
      have e : dval ([] ++ [c]) = c.toNat - 48 := by rw [dval_snoc]; simp [dval]
      rw [e, decDigits_small (by omega)]
      simp only [List.nil_append]
      congr 1
      exact u8_ext (by rw [dig_toNat (by omega)]; omega)
    · have hlen : 0 < m.length := List.length_pos_iff.2 hm
      obtain ⟨d, r, e, hd⟩ : ∃ d r, m = d :: r ∧ d.toNat ≠ 48 := by
        rcases h2 with h2 | ⟨d, r, e, hd⟩
        · rw [List.length_append] at h2; simp only [List.length_cons, List.length_nil] at h2; omega
        · cases m with
          | nil => exact absurd rfl hm
          | cons d' r' =>
            simp only [List.cons_append, List.cons.injEq] at e
            exact ⟨d', r', rfl, by rw [e.1]; exact hd⟩
      have hi := ih h3 hm (.inr ⟨d, r, e, hd⟩)
      have hpos : 0 < dval m := by
        rw [e, dval_cons]
        rw [e] at h3
        have := (allDig_cons.1 h3).1
        have hp : 0 < 10 ^ r.length := Nat.pow_pos (by decide)
        have : 0 < (d.toNat - 48) * 10 ^ r.length := Nat.mul_pos (by omega) hp
        omega
      rw [dval_snoc, decDigits_big (n := dval m * 10 + (c.toNat - 48)) (by omega), show (dval m * 10 + (c.toNat - 48)) / 10 = dval m by omega, ← hi, show (dval m * 10 + (c.toNat - 48)) % 10 = c.toNat - 48 by omega]
      congr 2
      exact u8_ext (by rw [dig_toNat (by omega)]; omega)
theorem decDigits_len_le {n k : Nat} (hk : 0 < k) : (decDigits n).length ≤ k ↔ n < 10 ^ k := by
  rw [decDigits_length]
  constructor
  · intro h
    exact Nat.lt_of_lt_of_le (lt_pow_nDigits n) (Nat.pow_le_pow_right (by decide) h)
  · intro h
    by_cases hz : n < 10
    · rw [nDigits_small hz]; exact hk
    · have : ∀ n, 10 ≤ n → 10 ^ (nDigits n - 1) ≤ n := by
        intro n
        induction n using Nat.strongRecOn with
        | ind n ih =>
          intro hn
          rw [nDigits_big (by omega), Nat.add_sub_cancel]
          by_cases h2 : n / 10 < 10
          · rw [nDigits_small h2]; omega
          · have h3 := ih (n / 10) (by omega) (by omega)
            have h4 := nDigits_pos (n / 10)
            have : 10 ^ nDigits (n / 10) = 10 ^ (nDigits (n / 10) - 1) * 10 := by rw [← Nat.pow_succ]; congr 1; omega
            omega
      have h1 := this n (by omega)
      have h2 : nDigits n - 1 < k := (Nat.pow_lt_pow_iff_right (a := 10) (by decide)).1 (by omega)
      omega
theorem decDigits_len_pos (n : Nat) : 0 < (decDigits n).length := List.length_pos_iff.2 (decDigits_ne n)
end
section
open Go.RowKit
theorem take_snoc (s : ByteArray) (k : Nat) (h : k < s.size) : s.data.toList.take (k + 1) = s.data.toList.take k ++ [s[k]] := by
  rw [List.take_succ_eq_append_getElem (by simpa using h)]; rfl
theorem dig_get (s : ByteArray) (k : Nat) (hd : AllDig s.data.toList) (hk : k < s.size) : 48 ≤ (s[k]).toNat ∧ (s[k]).toNat ≤ 57 := hd _ (by
  have : s.data.toList[k]'(by simpa using hk) = s[k] := rfl
  rw [← this]; exact List.getElem_mem _)
end
section
open Go.RowKit Go.Sort
def Tab (w : World) : Prop := Lib.TabBelow Tryd.prog w.heap.size w "internal/strconv.uint64pow10" .u64 Lib.pow10Tab
theorem Tab.is {w : World} (h : Tab w) : Lib.TabIs Tryd.prog w "internal/strconv.uint64pow10" .u64 Lib.pow10Tab := h w (Below.refl _ _)
theorem Tab.below {w w' : World} (h : Tab w) (hb : Below w.heap.size w w') : Tab w' := fun w2 h2 => h w2 (hb.trans (h2.mono hb.size))
end
section
open Go.RowKit
def NumV (w : World) (v : Value) (x : Int) : Prop := ∃ A l c, v = .agg #[.int .i64 x.sign, .slice A l.length c] ∧ Sz w A l ∧ Ok l ∧ Norm l ∧ val l = x.natAbs
theorem NumV.below {w w' : World} {v : Value} {x : Int} (h : NumV w v x) (hb : Below w.heap.size w w') : NumV w' v x := by
  obtain ⟨A, l, c, e, h1, h2⟩ := h
  exact ⟨A, l, c, e, h1.below hb, h2⟩
def S (x : Int) : ByteArray := ⟨(Lib.itoa x).toArray⟩
theorem S_pos {n : Nat} {x : Int} (h : x.natAbs = n) (h0 : 0 ≤ x) : S x = ⟨(Lib.decDigits n).toArray⟩ := by
  unfold S Lib.itoa; rw [if_neg (by omega), show x.toNat = n by omega]
open Go.RowKit
def lim : Nat := 10 ^ 100
theorem digs_lim (n : Nat) : (Lib.decDigits n).length ≤ 100 ↔ n < lim := by unfold lim; exact decDigits_len_le (by decide)
end
section
open Go.RowKit
structure Box3 (w W : World) (a0 a1 b0 b1 : Value) : Prop where
  c00 : W.cell? ⟨w.heap.size, 0, none⟩ = some a0
  c01 : W.cell? ⟨w.heap.size, 1, none⟩ = some a1
  c10 : W.cell? ⟨w.heap.size + 1, 0, none⟩ = some b0
  c11 : W.cell? ⟨w.heap.size + 1, 1, none⟩ = some b1
  q0 : W.cell? ⟨w.heap.size + 1 + 1, 0, none⟩ = some (.int .i64 0)
  q1 : W.cell? ⟨w.heap.size + 1 + 1, 1, none⟩ = some (.slice none 0 0)
  fa : ∀ i, W.frozen? ⟨w.heap.size, i, none⟩ = false
  fb : ∀ i, W.frozen? ⟨w.heap.size + 1, i, none⟩ = false
  fr : ∀ i, W.frozen? ⟨w.heap.size + 1 + 1, i, none⟩ = false
  size : w.heap.size + 3 ≤ W.heap.size
  far : ∀ i n, W.cell? ⟨w.heap.size + 1 + 1, i, none⟩ ≠ some (.int .u32 n)
  bel : Below w.heap.size w W
theorem Box3.below {w W W' : World} {a0 a1 b0 b1 : Value} (h : Box3 w W a0 a1 b0 b1) (hb : Below W.heap.size W W') : Box3 w W' a0 a1 b0 b1 := by
  have hs := h.size
  exact ⟨(hb.cell (p := ⟨_, _, none⟩) (by show w.heap.size < _; omega)).trans h.c00, (hb.cell (p := ⟨_, _, none⟩) (by show w.heap.size < _; omega)).trans h.c01,
    (hb.cell (p := ⟨_, _, none⟩) (by show w.heap.size + 1 < _; omega)).trans h.c10, (hb.cell (p := ⟨_, _, none⟩) (by show w.heap.size + 1 < _; omega)).trans h.c11,
    (hb.cell (p := ⟨_, _, none⟩) (by show w.heap.size + 1 + 1 < _; omega)).trans h.q0, (hb.cell (p := ⟨_, _, none⟩) (by show w.heap.size + 1 + 1 < _; omega)).trans h.q1,
    fun i => (hb.frozen (p := ⟨_, _, none⟩) (by show w.heap.size < _; omega)).trans (h.fa i), fun i => (hb.frozen (p := ⟨_, _, none⟩) (by show w.heap.size + 1 < _; omega)).trans (h.fb i), fun i => (hb.frozen (p := ⟨_, _, none⟩) (by show w.heap.size + 1 + 1 < _; omega)).trans (h.fr i),
    Nat.le_trans hs hb.size, fun i n => by rw [hb.cell (p := ⟨_, _, none⟩) (by show w.heap.size + 1 + 1 < _; omega)]; exact h.far i n, h.bel.trans (hb.mono (by omega))⟩
theorem Sz.far {w w' : World} {A : Option Addr} {l : List Nat} {g : Nat} (h : Sz w A l) (hf : ∀ i n, w.cell? ⟨g, i, none⟩ ≠ some (.int .u32 n)) (hb : Only g w w') : Sz w' A l := by
  rcases h with h | ⟨b, o, e, hlt, hc⟩
  · exact .inl h
  · by_cases hl : l = []
    · subst hl; exact .inr ⟨b, o, e, Nat.lt_of_lt_of_le hlt hb.size, fun i hi => by simp at hi⟩
    · have hne : b ≠ g := by
        rintro rfl
        exact hf _ _ (hc 0 (List.length_pos_iff.2 hl))
      exact .inr ⟨b, o, e, Nat.lt_of_lt_of_le hlt hb.size, fun i hi => (World.cell?_of_block (a := ⟨b, o + i, none⟩) (hb.block b hlt (by intro e; injection e with e; exact hne e))).trans (hc i hi)⟩
end
section
open Go.RowKit
def fq (x y : Int) : Int := if 0 < y then x / y else (-x) / (-y)
def fr (x y : Int) : Int := x - y * fq x y
end
section
open Go.RowKit
def Nb (W : World) (g : Nat) (s : Int) (P : Option Addr) (n c : Nat) : Prop := W.heap[g]? = some (.cells #[.int .i64 s, .slice P n c] 54 (0, 0))
section
variable {W W' : World} {g : Nat} {s : Int} {P : Option Addr} {n c : Nat}
theorem Nb.lt (h : Nb W g s P n c) : g < W.heap.size := (Array.getElem?_eq_some_iff.1 h).1
theorem Nb.f (h : Nb W g s P n c) (i : Nat) : W.frozen? ⟨g, i, none⟩ = false := frozen_of_row _ _ i _ _ h
theorem Nb.far (h : Nb W g s P n c) (i : Nat) (k : Int) : W.cell? ⟨g, i, none⟩ ≠ some (.int .u32 k) := by
  rw [cell_of_row _ _ i _ _ _ h]
  rcases i with _ | _ | i <;> simp
theorem Nb.below (h : Nb W g s P n c) {B : Nat} (hb : Below B W W') (hg : g < B) : Nb W' g s P n c := (hb.block g hg).trans h
end
structure B4 (w W : World) (s0 : Int) (P0 : Option Addr) (n0 c0 : Nat) (s1 : Int) (P1 : Option Addr) (n1 c1 : Nat) (s2 : Int) (P2 : Option Addr) (n2 c2 : Nat) (s3 : Int) (P3 : Option Addr) (n3 c3 : Nat) : Prop where
  a : Nb W w.heap.size s0 P0 n0 c0
  b : Nb W (w.heap.size + 1) s1 P1 n1 c1
  r : Nb W (w.heap.size + 1 + 1) s2 P2 n2 c2
  t : Nb W (w.heap.size + 1 + 1 + 1) s3 P3 n3 c3
  bel : Below w.heap.size w W
section
variable {w W W' : World} {s0 s1 s2 s3 : Int} {P0 P1 P2 P3 : Option Addr} {n0 n1 n2 n3 c0 c1 c2 c3 : Nat}
theorem B4.below (h : B4 w W s0 P0 n0 c0 s1 P1 n1 c1 s2 P2 n2 c2 s3 P3 n3 c3) (hb : Below W.heap.size W W') : B4 w W' s0 P0 n0 c0 s1 P1 n1 c1 s2 P2 n2 c2 s3 P3 n3 c3 :=
  ⟨h.a.below hb h.a.lt, h.b.below hb h.b.lt, h.r.below hb h.r.lt, h.t.below hb h.t.lt, h.bel.trans (hb.mono (by have := h.a.lt; omega))⟩
end
end
section
open Go.RowKit
def figs (l : List UInt8) : List UInt8 := Lib.trimPrefix l [45]
def AllDigB (l : List UInt8) : Bool := l.all fun c => decide (48 ≤ c.toNat) && decide (c.toNat ≤ 57)
theorem allDigB {l : List UInt8} : AllDigB l = true ↔ AllDig l := by simp [AllDigB, AllDig]
def mayL (l : List UInt8) : Bool := decide (1 ≤ (figs l).length) && decide ((figs l).length ≤ 100) && AllDigB (figs l) && (decide ((figs l).head? ≠ some 48) || decide (l = [48]))
theorem figs_neg (l : List UInt8) : figs (45 :: l) = l := by simp [figs, Lib.trimPrefix, Lib.hasPrefix, List.isPrefixOf]
theorem figs_pos {l : List UInt8} (h : l.head? ≠ some 45) : figs l = l := by
  cases l with
  | nil => rfl
  | cons c r =>
    have hc : c ≠ 45 := by intro e; exact h (by rw [e]; rfl)
    have : Lib.hasPrefix (c :: r) [45] = false := by
      simp only [Lib.hasPrefix, List.isPrefixOf]
      simp; exact fun e => hc e.symm
    unfold figs Lib.trimPrefix
    rw [this]; rfl
theorem dec_head (n : Nat) : (Lib.decDigits n).head? ≠ some 45 := by
  intro h
  obtain ⟨c, r, e⟩ : ∃ c r, Lib.decDigits n = c :: r := by
    cases h2 : Lib.decDigits n with
    | nil => exact absurd h2 (decDigits_ne n)
    | cons c r => exact ⟨c, r, rfl⟩
  have hd := decDigits_dig n
  rw [e] at h hd
  injection h with h
  have := (allDig_cons.1 hd).1
  rw [h] at this
  exact absurd this.1 (by decide)
theorem itoa_pos {x : Int} (h : 0 ≤ x) : Lib.itoa x = Lib.decDigits x.natAbs := by
  unfold Lib.itoa; rw [if_neg (by omega), show x.toNat = x.natAbs by omega]
theorem itoa_neg {x : Int} (h : x < 0) : Lib.itoa x = 45 :: Lib.decDigits x.natAbs := by
  unfold Lib.itoa; rw [if_pos h]
theorem figs_itoa (x : Int) : figs (Lib.itoa x) = Lib.decDigits x.natAbs := by
  by_cases h : x < 0
  · rw [itoa_neg h, figs_neg]
  · rw [itoa_pos (by omega), figs_pos (dec_head _)]
theorem mayL_itoa (x : Int) : mayL (Lib.itoa x) = true ↔ x.natAbs < lim := by
  unfold mayL
  rw [figs_itoa]
  have h1 := decDigits_len_pos x.natAbs
  have h2 : AllDigB (Lib.decDigits x.natAbs) = true := allDigB.2 (decDigits_dig _)
  have h3 : (decide ((Lib.decDigits x.natAbs).head? ≠ some 48) || decide (Lib.itoa x = [48])) = true := by
    by_cases h0 : x = 0
    · subst h0
      rw [itoa_pos (Int.le_refl _), show (0 : Int).natAbs = 0 from rfl, decDigits_small (by omega)]; rfl
    · obtain ⟨c, r, e, hc⟩ := decDigits_head x.natAbs (by omega)
      rw [e]
      have : (c :: r).head? ≠ some 48 := by
        intro h; injection h with h; rw [h] at hc; exact hc rfl
      rw [Bool.or_eq_true]; exact .inl (decide_eq_true this)
  rw [h2, h3]
  simp only [Bool.and_true, Bool.and_eq_true, decide_eq_true_eq]
  rw [digs_lim]
  exact ⟨fun h => h.2, fun h => ⟨h1, h⟩⟩
theorem mayL_is {l : List UInt8} (h : mayL l = true) : ∃ x : Int, l = Lib.itoa x ∧ x.natAbs < lim := by
  have h0 := h
  unfold mayL at h
  simp only [Bool.and_eq_true, decide_eq_true_eq, Bool.or_eq_true] at h
  obtain ⟨⟨⟨h1, h2⟩, h3⟩, h4⟩ := h
  have h3 := allDigB.1 h3
  suffices hs : ∃ x : Int, l = Lib.itoa x by
    obtain ⟨x, rfl⟩ := hs
    exact ⟨x, rfl, (mayL_itoa x).1 h0⟩
  by_cases hz : l = [48]
  · exact ⟨0, by rw [hz, itoa_pos (Int.le_refl _), show (0 : Int).natAbs = 0 from rfl, decDigits_small (by omega)]; rfl⟩
  · have h4 : (figs l).head? ≠ some 48 := by rcases h4 with h | h; exact h; exact absurd h hz
    obtain ⟨c, r, e⟩ : ∃ c r, figs l = c :: r := by
      cases hf : figs l with
      | nil => rw [hf] at h1; simp at h1
      | cons c r => exact ⟨c, r, rfl⟩
    have hc : c.toNat ≠ 48 := by
      intro hc; apply h4; rw [e]; exact congrArg some (u8_ext hc)
    have hd := decDigits_of (figs l) h3 (by rw [e]; simp) (.inr ⟨c, r, e, hc⟩)
    have hpos : 0 < dval (figs l) := by
      rw [e] at h3 ⊢
      rw [dval_cons]
      have := (allDig_cons.1 h3).1
      have : 0 < (c.toNat - 48) * 10 ^ r.length := Nat.mul_pos (by omega) (Nat.pow_pos (by decide))
      omega
    by_cases hn : l.head? = some 45
    · obtain ⟨r', rfl⟩ : ∃ r', l = 45 :: r' := by
        cases l with
        | nil => cases hn
        | cons a r' => injection hn with hn; subst hn; exact ⟨r', rfl⟩
      rw [figs_neg] at hd hpos
      exact ⟨-(dval r' : Int), by rw [itoa_neg (by omega), show (-(dval r' : Int)).natAbs = dval r' by omega, ← hd]⟩
    · rw [figs_pos hn] at hd hpos
      exact ⟨(dval l : Int), by rw [itoa_pos (by omega), show ((dval l : Int)).natAbs = dval l by omega, ← hd]⟩
theorem itoa_inj {x y : Int} (h : Lib.itoa x = Lib.itoa y) : x = y := by
  have h1 := congrArg figs h
  rw [figs_itoa, figs_itoa] at h1
  have h2 := decDigits_inj h1
  by_cases hx : x < 0 <;> by_cases hy : y < 0
  · omega
  · rw [itoa_neg hx, itoa_pos (by omega)] at h
    exact absurd (congrArg List.head? h.symm) (dec_head _)
  · rw [itoa_neg hy, itoa_pos (by omega)] at h
    exact absurd (congrArg List.head? h) (dec_head _)
  · omega
open Go.RowKit
theorem get_take_dig {f : ByteArray} {k : Nat} (hk : k < f.size) (h : AllDig (f.data.toList.take k)) (hc : 48 ≤ (f[k]).toNat ∧ (f[k]).toNat ≤ 57) : AllDig (f.data.toList.take (k + 1)) := by
  rw [take_snoc f k hk]
  exact allDig_append.2 ⟨h, allDig_cons.2 ⟨hc, allDig_nil⟩⟩
theorem not_dig_of {f : ByteArray} {k : Nat} (hk : k < f.size) (hc : ¬ (48 ≤ (f[k]).toNat ∧ (f[k]).toNat ≤ 57)) : AllDigB f.data.toList = false := by
  cases h : AllDigB f.data.toList
  · rfl
  · exact absurd (dig_get f k (allDigB.1 h) hk) hc
def MayPost (b : Bool) (w : World) (e : Ending) (w' : World) : Prop := e = .returned (.bool b) ∧ w = w'
theorem ret_bool {a b : Bool} (h : a = b) : Ending.returned (.bool a) = .returned (.bool b) := by rw [h]
theorem head_get {f : ByteArray} (h : 0 < f.size) : f.data.toList.head? = some f[0] := by
  have hl : 0 < f.data.toList.length := by simpa using h
  cases hd : f.data.toList with
  | nil => rw [hd] at hl; simp at hl
  | cons a r =>
    have : f.data.toList[0]'hl = f[0] := rfl
    simp only [hd, List.getElem_cons_zero] at this
    rw [← this]; rfl
theorem str_tl (s : ByteArray) : s.toList = s.data.toList := ByteArray.toList_eq s
set_option maxRecDepth 10000 in
set_option maxHeartbeats 1600000 in
theorem may_any (s : ByteArray) (w : World) (hs : s.size ≤ maxLen) :
    Calls Tryd.prog 22 #[.string s] w (MayPost (mayL s.data.toList) w) := by
  obtain ⟨f, hf⟩ : ∃ f : ByteArray, f = ⟨(Lib.trimPrefix s.data.toList [45]).toArray⟩ := ⟨_, rfl⟩
  have hF : figs s.data.toList = f.data.toList := by rw [hf]; rfl
  have hfl : (f.data.toList).length = f.size := by simp
  have hT := Tryd.strings_TrimPrefix s ⟨#[45]⟩ w
  rw [show Lib.trimPrefix s.data.toList (⟨#[45]⟩ : ByteArray).data.toList = Lib.trimPrefix s.data.toList [45] from rfl, ← hf] at hT
  have hM : mayL s.data.toList = (decide (1 ≤ f.size) && decide (f.size ≤ 100) && AllDigB f.data.toList && (decide (f.data.toList.head? ≠ some 48) || decide (s.data.toList = [48]))) := by
    unfold mayL; rw [hF, hfl]
  rw [hM]
  have HT := Lib.hid hT
  clear hM hT hF hf hfl
  by_cases h0 : f.size = 0
  · have e0 : ((f.size : Int) == 0) = true := by rw [h0]; rfl
    go_enter Tryd.func22, Tryd.ntmps22
    go_wp2_with fail
    refine HT.out.mono ?_
    rintro e w1 ⟨rfl, rfl⟩
    go_wp2_with fail
    go_ret
    exact ⟨ret_bool (by simp [h0]), rfl⟩
  · by_cases h1 : 100 < f.size
    · have e0 : ((f.size : Int) == 0) = false := beq_eq_false_iff_ne.2 (by omega)
      go_enter Tryd.func22, Tryd.ntmps22
      go_wp2_with fail
      refine HT.out.mono ?_
      rintro e w1 ⟨rfl, rfl⟩
      go_wp2_with fail
      go_ret
      exact ⟨ret_bool (by simp [show ¬ f.size ≤ 100 by omega]), rfl⟩
    · have e0 : ((f.size : Int) == 0) = false := beq_eq_false_iff_ne.2 (by omega)
      have e1 : ¬ (100 : Int) < f.size := by omega
      go_enter Tryd.func22, Tryd.ntmps22
      go_wp2_with fail
      refine HT.out.mono ?_
      rintro e w1 ⟨rfl, rfl⟩
      go_wp2_with fail
      go_loop [17] (fun i => ∃ k : Nat, k ≤ f.size ∧ i = .int .i64 k ∧ AllDig (f.data.toList.take k)) (fun i => f.size - (intOf i).toNat)
      case atStart => exact ⟨0, Nat.zero_le _, rfl, allDig_nil⟩
      case round =>
        obtain ⟨k, hk, rfl, hI⟩ := hrel
        by_cases hlt : k < f.size
        · by_cases hc : 48 ≤ (f[k]).toNat ∧ (f[k]).toNat ≤ 57
          · have hst := get_take_dig hlt hI hc
            go_wp2_with fail
            go_round
            case rel => exact ⟨k + 1, by omega, by go_num, hst⟩
            case measure => simp [intOf]; omega
          · have hnd := not_dig_of hlt hc
            by_cases hc2 : (f[k]).toNat < 48
            · go_wp2_with fail
              go_ret
              exact ⟨ret_bool (by simp [hnd]), rfl⟩
            · have hc3 : 57 < (f[k]).toNat := by omega
              go_wp2_with fail
              go_ret
              exact ⟨ret_bool (by simp [hnd]), rfl⟩
        · rw [List.take_of_length_le (by simp; omega)] at hI
          have hh := head_get (f := f) (by omega)
          have hA := allDigB.2 hI
          by_cases hc : f[0] = 48
          · have hc' : (((f[0]).toNat : Int) != 48) = false := by rw [hc]; rfl
            have HC := Lib.hid hc
            have HH := Lib.hid hh
            clear hc hh
            go_wp2_with fail
            go_ret
            refine ⟨ret_bool ?_, rfl⟩
            rw [hA, HH.out, HC.out]
            show (s.toList == [48]) = _
            rw [str_tl]
            simp [show 1 ≤ f.size by omega, show f.size ≤ 100 by omega]
            rw [Bool.eq_iff_iff, beq_iff_eq, decide_eq_true_eq]
          · have hc' : (((f[0]).toNat : Int) != 48) = true := by
              rw [bne_iff_ne]; intro h; apply hc; exact u8_ext (by simpa using (by omega : (f[0]).toNat = 48))
            go_wp2_with fail
            go_ret
            exact ⟨ret_bool (by rw [hA, hh]; simp [hc]; omega), rfl⟩
end
section
open Go.RowKit
theorem S_toList (x : Int) : (S x).data.toList = Lib.itoa x := rfl
theorem lim_digs {n : Nat} (h : n < lim) : (Lib.decDigits n).length ≤ 100 := (digs_lim n).2 h
theorem S_size {x : Int} (h : x.natAbs < lim) : (S x).size ≤ 101 := by
  have h1 := lim_digs h
  show (Lib.itoa x).toArray.size ≤ 101
  rw [List.size_toArray]
  by_cases hx : x < 0
  · rw [itoa_neg hx, List.length_cons]; omega
  · rw [itoa_pos (by omega)]; omega
theorem may_yes {x : Int} (h : x.natAbs < lim) (w : World) : Calls Tryd.prog 22 #[.string (S x)] w (MayPost true w) := by
  have h1 := may_any (S x) w (by have := S_size h; unfold maxLen; omega)
  rwa [S_toList, (mayL_itoa x).2 h] at h1
end
section
open Go.RowKit
theorem Of_any (n : Int) (h0 : -9223372036854775808 ≤ n) (h1 : n ≤ 9223372036854775807) (w : World) (htab : Tab w) : Calls Tryd.prog 37 #[.int .i64 n] w fun e w' => e = .returned (.string (S n)) ∧ Below w.heap.size w w' := by
  have hF := Tryd.strconv_FormatInt_10 n h0 h1 w htab.is
  have HF := Lib.hid hF
  clear hF h0 h1
  go_enter Tryd.func37, Tryd.ntmps37
  go_wp2_with fail
  refine HF.out.mono ?_
  rintro e w1 ⟨rfl, k, os, rfl⟩
  go_wp2_with fail
  go_ret
  exact ⟨rfl, Lib.below_grow _ w (Nat.le_refl _) k os⟩
end
section
open Go.RowKit
def Is (s : ByteArray) : Option Int → Prop
  | some x => s = S x ∧ x.natAbs < lim
  | none => mayL s.data.toList = false ∧ s.size ≤ maxLen
theorem is_ex (s : ByteArray) (hs : s.size ≤ maxLen) : ∃ o, Is s o := by
  cases h : mayL s.data.toList
  · exact ⟨none, h, hs⟩
  · obtain ⟨x, hx, hl⟩ := mayL_is h
    refine ⟨some x, ?_, hl⟩
    obtain ⟨⟨d⟩⟩ := s
    show _ = (⟨(Lib.itoa x).toArray⟩ : ByteArray)
    have : d = Lib.itoa x := hx
    rw [this]
theorem Is.lt {s : ByteArray} {x : Int} (h : Is s (some x)) : x.natAbs < lim := h.2
theorem Is.size {s : ByteArray} {o : Option Int} (h : Is s o) : s.size ≤ maxLen := by
  cases o with
  | none => exact h.2
  | some x => rw [h.1]; exact Nat.le_trans (S_size h.2) (by decide)
theorem Is.may {s : ByteArray} {o : Option Int} (h : Is s o) : mayL s.data.toList = o.isSome := by
  cases o with
  | none => exact h.1
  | some x => rw [h.1]; exact (mayL_itoa x).2 h.2
theorem S_inj {x y : Int} (h : S x = S y) : x = y := by
  apply itoa_inj
  have := congrArg (fun s : ByteArray => s.data.toList) h
  simpa [S] using this
theorem May_opt {s : ByteArray} {o : Option Int} (w : World) (hs : Is s o) : Calls Tryd.prog 22 #[.string s] w (MayPost o.isSome w) := by
  rw [← hs.may]; exact may_any s w hs.size
end
section
open Go.RowKit
theorem dig_lit {l : List UInt8} (ha : AllDig l) (hc : ∃ c r, l = c :: r ∧ c.toNat ≠ 48) : Lib.decDigits (dval l) = l := by
  have hne : l ≠ [] := by obtain ⟨c, r, rfl, _⟩ := hc; simp
  exact (decDigits_of l ha hne (.inr hc)).symm
theorem S_lit {l : List UInt8} {n : Nat} (hn : dval l = n) (ha : AllDig l) (hc : ∃ c r, l = c :: r ∧ c.toNat ≠ 48) : S (n : Int) = ⟨l.toArray⟩ := by
  rw [S_pos (n := n) (by omega) (by omega), ← hn, dig_lit ha hc]
theorem lim_big : 10000000000000000000000 ≤ lim := by unfold lim; decide +kernel
def MayIs (a : ByteArray) (v : Bool) : Prop := ∀ w, Calls Tryd.prog 22 #[.string a] w (MayPost v w)
end
section
open Go.RowKit
theorem fold_ge : ∀ (l : List UInt8) (a : Nat), a ≤ l.foldl (fun a c => a * 10 + (c.toNat - 48)) a := by
  intro l
  induction l with
  | nil => intro a; exact Nat.le_refl _
  | cons c r ih =>
    intro a
    have := ih (a * 10 + (c.toNat - 48))
    simp only [List.foldl_cons]
    omega
theorem parse_digs (M : Nat) (hM : M ≤ 18446744073709551615) : ∀ (l : List UInt8) (a : Nat), AllDig l → l.foldl (fun a c => a * 10 + (c.toNat - 48)) a ≤ M → Lib.parseUintM M a l = .ok (l.foldl (fun a c => a * 10 + (c.toNat - 48)) a) := by
  intro l
  induction l with
  | nil => intro a _ _; rfl
  | cons c r ih =>
    intro a hd hm
    simp only [List.foldl_cons] at hm ⊢
    have h1 := hd c (by simp)
    have h2 := fold_ge r (a * 10 + (c.toNat - 48))
    rw [Lib.parseUintM, if_pos h1, if_neg (by omega), if_neg (by omega)]
    exact ih _ (fun x hx => hd x (by simp [hx])) hm
theorem parse_u (n : Nat) (hn : n < 18446744073709551616) : Lib.parseUintB 64 (Lib.decDigits n) = .ok n := by
  have h := decDigits_all n
  unfold Lib.parseUintB
  rw [if_neg (decDigits_ne n)]
  have hv : (Lib.decDigits n).foldl (fun a c => a * 10 + (c.toNat - 48)) 0 = n := h.2
  rw [parse_digs (2 ^ 64 - 1) (by decide) _ 0 h.1 (by rw [hv]; omega), hv]
theorem parse_neg (n : Nat) (h : n ≤ 9223372036854775808) : Lib.parseIntB 64 (45 :: Lib.decDigits n) = .ok (-(n : Int)) := by
  have hu := parse_u n (by omega)
  unfold Lib.parseIntB
  simp only [show (45 : UInt8).toNat = 45 from rfl, hu, or_true, if_true, not_true_eq_false, false_and, if_false, true_and]
  rw [if_neg (by omega)]
theorem parse_pos (n : Nat) (h : n ≤ 9223372036854775807) : Lib.parseIntB 64 (Lib.decDigits n) = .ok (n : Int) := by
  have hu := parse_u n (by omega)
  have hd := decDigits_dig n
  cases e : Lib.decDigits n with
  | nil => exact absurd e (decDigits_ne n)
  | cons c r =>
    rw [e] at hu hd
    have hc := hd c (by simp)
    unfold Lib.parseIntB
    have e1 : ¬ c.toNat = 43 := by omega
    have e2 : ¬ c.toNat = 45 := by omega
    simp only [e2, e1, or_self, if_false, not_false_eq_true, true_and, false_and]
    rw [hu]
    exact if_neg (by omega)
theorem parse_i (x : Int) (h0 : -9223372036854775808 ≤ x) (h1 : x ≤ 9223372036854775807) : Lib.parseIntB 64 (S x).data.toList = .ok x := by
  rw [S_toList]
  rcases Int.lt_or_le x 0 with h | h
  · rw [itoa_neg h, parse_neg _ (by omega)]
    exact congrArg _ (by omega)
  · rw [itoa_pos h, parse_pos _ (by omega)]
    exact congrArg _ (by omega)
theorem lim_i64 {x : Int} (h0 : -9223372036854775808 ≤ x) (h1 : x ≤ 9223372036854775807) : x.natAbs < lim := by
  have hL := lim_big
  omega
def IntIs (a : ByteArray) (n : Int) (v : Bool) : Prop := ∀ w, Calls Tryd.prog 49 #[.string a] w fun e w' => e = .returned (.tuple #[.int .i64 n, .bool v]) ∧ Below w.heap.size w w'
theorem parse_call (x : Int) (h0 : -9223372036854775808 ≤ x) (h1 : x ≤ 9223372036854775807) (w : World) :
    Calls Tryd.prog 62 #[.string (S x), .int .i64 10, .int .i64 64] w fun e w' => e = .returned (.tuple #[.int .i64 x, .nilIface]) ∧ Below w.heap.size w w' := by
  refine (Tryd.strconv_ParseInt_10_at64_ok (S x) (Nat.le_trans (S_size (lim_i64 h0 h1)) (by decide)) x (parse_i x h0 h1) w).mono ?_
  rintro e w' ⟨rfl, h⟩
  refine ⟨rfl, ?_⟩
  rcases h with rfl | ⟨t, rfl⟩
  · exact Below.refl _ _
  · exact Lib.bytesWorld_below _ _ _
set_option maxRecDepth 10000 in
theorem Int_ok (x : Int) (h0 : -9223372036854775808 ≤ x) (h1 : x ≤ 9223372036854775807) : IntIs (S x) x true := by
  intro w
  have hM : MayIs (S x) true := fun w => may_yes (lim_i64 h0 h1) w
  have hP := parse_call x h0 h1
  have KM := Lib.hid hM
  have KP := Lib.hid hP
  generalize S x = s at KM KP ⊢
  clear hM hP
  go_enter Tryd.func49, Tryd.ntmps49
  go_wp2_with fail
  refine (KM.out _).mono ?_
  rintro e w1 ⟨rfl, rfl⟩
  go_wp2_with fail
  refine (KP.out _).mono ?_
  rintro e w2 ⟨rfl, hb⟩
  go_wp2_with fail
  go_ret2
  exact ⟨rfl, hb⟩
end
section
open Go.RowKit
def wrow : Array Value := #[.int .i64 8, .int .i64 16, .int .i64 32, .int .i64 64, .int .i64 128]
def Fit (x w : Int) : Prop := (w = 8 ∧ -128 ≤ x ∧ x ≤ 127) ∨ (w = 16 ∧ -32768 ≤ x ∧ x ≤ 32767) ∨ (w = 32 ∧ -2147483648 ≤ x ∧ x ≤ 2147483647) ∨ (w = 64 ∧ -9223372036854775808 ≤ x ∧ x ≤ 9223372036854775807) ∨ w = 128
instance (x w : Int) : Decidable (Fit x w) := by unfold Fit; infer_instance
theorem ret_w {a b : Bool} (h : a = b) : Ending.returned (.bool a) = .returned (.bool b) := by rw [h]
end
section
open Go.RowKit
def I64 (x : Int) : Prop := -9223372036854775808 ≤ x ∧ x ≤ 9223372036854775807
instance (x : Int) : Decidable (I64 x) := by unfold I64; infer_instance
def OkW (a b r w : Int) : Prop := I64 r ∧ Fit a w ∧ Fit b w ∧ Fit r w
instance (a b r w : Int) : Decidable (OkW a b r w) := by unfold OkW; infer_instance
end
section
open Go.RowKit
def leastW (x : Int) : Int := if Fit x 8 then 8 else if Fit x 16 then 16 else if Fit x 32 then 32 else if Fit x 64 then 64 else 128
def IntW (s : ByteArray) (x : Int) (v : Bool) (W : World) : Prop := Calls Tryd.prog 49 #[.string s] W fun e W' => e = .returned (.tuple #[.int .i64 x, .bool v]) ∧ Below W.heap.size W W'
end
section
open Go.RowKit
theorem parse_over (M : Nat) : ∀ (l : List UInt8) (a : Nat), AllDig l → a ≤ M → M < l.foldl (fun a c => a * 10 + (c.toNat - 48)) a → Lib.parseUintM M a l = .range := by
  intro l
  induction l with
  | nil => intro a _ h0 h1; exact absurd h1 (by simp only [List.foldl_nil]; omega)
  | cons c r ih =>
    intro a hd h0 h1
    simp only [List.foldl_cons] at h1
    have hc := hd c (by simp)
    rw [Lib.parseUintM, if_pos hc]
    by_cases c1 : 1844674407370955162 ≤ a
    · rw [if_pos c1]
    · rw [if_neg c1]
      by_cases c2 : M < a * 10 + (c.toNat - 48)
      · rw [if_pos c2]
      · rw [if_neg c2]
        exact ih _ (fun x hx => hd x (by simp [hx])) (by omega) h1
theorem parse_u_over (n : Nat) (hn : 18446744073709551616 ≤ n) : Lib.parseUintB 64 (Lib.decDigits n) = .range := by
  have h := decDigits_all n
  unfold Lib.parseUintB
  rw [if_neg (decDigits_ne n)]
  have hv : (Lib.decDigits n).foldl (fun a c => a * 10 + (c.toNat - 48)) 0 = n := h.2
  exact parse_over _ _ 0 h.1 (Nat.zero_le _) (by rw [hv]; omega)
theorem parse_neg_over (n : Nat) (h : 9223372036854775808 < n) : Lib.parseIntB 64 (45 :: Lib.decDigits n) = .range := by
  unfold Lib.parseIntB
  by_cases h2 : n < 18446744073709551616
  · have hu := parse_u n h2
    simp only [show (45 : UInt8).toNat = 45 from rfl, hu, or_true, if_true, not_true_eq_false, false_and, if_false, true_and]
    rw [if_pos (by omega)]
  · have hu := parse_u_over n (by omega)
    simp only [show (45 : UInt8).toNat = 45 from rfl, hu, or_true, if_true]
theorem parse_pos_over (n : Nat) (h : 9223372036854775808 ≤ n) : Lib.parseIntB 64 (Lib.decDigits n) = .range := by
  have hd := decDigits_dig n
  by_cases h2 : n < 18446744073709551616
  · have hu := parse_u n h2
    cases e : Lib.decDigits n with
    | nil => exact absurd e (decDigits_ne n)
    | cons c r =>
      rw [e] at hu hd
      have hc := hd c (by simp)
      unfold Lib.parseIntB
      have e1 : ¬ c.toNat = 43 := by omega
      have e2 : ¬ c.toNat = 45 := by omega
      simp only [e2, e1, or_self, if_false, not_false_eq_true, true_and, false_and]
      rw [hu]
      exact if_pos (by omega)
  · have hu := parse_u_over n (by omega)
    cases e : Lib.decDigits n with
    | nil => exact absurd e (decDigits_ne n)
    | cons c r =>
      rw [e] at hu hd
      have hc := hd c (by simp)
      unfold Lib.parseIntB
      have e1 : ¬ c.toNat = 43 := by omega
      have e2 : ¬ c.toNat = 45 := by omega
      simp only [e2, e1, or_self, if_false, not_false_eq_true, true_and, false_and]
      rw [hu]
theorem parse_i_over (x : Int) (h : ¬ I64 x) : Lib.parseIntB 64 (S x).data.toList = .range := by
  unfold I64 at h
  rw [S_toList]
  rcases Int.lt_or_le x 0 with h0 | h0
  · rw [itoa_neg h0, parse_neg_over _ (by omega)]
  · rw [itoa_pos h0, parse_pos_over _ (by omega)]
def ErrT (W : World) : Prop := ∃ ev, W.cell? ⟨2, 0, none⟩ = some ev ∧ (ev = .nilIface ∨ ∃ te pe, ev = .iface te pe)
theorem ErrT.below {w w' : World} (h : ErrT w) (hb : Below w.heap.size w w') : ErrT w' := by
  obtain ⟨ev, h, h2⟩ := h
  have hl : 2 < w.heap.size := by
    rcases Nat.lt_or_ge 2 w.heap.size with h' | h'
    · exact h'
    · simp [World.cell?, Array.getElem?_eq_none h'] at h
  exact ⟨ev, (hb.cell (show (⟨2, 0, none⟩ : Addr).block < w.heap.size from hl)).trans h, h2⟩
structure WT (W : World) : Prop where
  tab : Tab W
  err : ErrT W
theorem WT.below {w w' : World} (h : WT w) (hb : Below w.heap.size w w') : WT w' := ⟨h.tab.below hb, h.err.below hb⟩
def intO : Option Int → Int × Bool
  | some x => if I64 x then (x, true) else (0, false)
  | none => (0, false)
set_option maxRecDepth 10000 in
theorem Int_over (x : Int) (h : ¬ I64 x) (hl : x.natAbs < lim) (W : World) (he : ErrT W) : IntW (S x) 0 false W := by
  obtain ⟨ev, hv, hev⟩ := he
  have hM : MayIs (S x) true := fun w => may_yes hl w
  have hP := Tryd.strconv_ParseInt_10_at64_range (S x) (Nat.le_trans (S_size hl) (by decide)) (parse_i_over x h) ev W hv hev
  have KM := Lib.hid hM
  have KP := Lib.hid hP
  generalize Lib.intSat 64 (S x).data.toList = sat at KP
  generalize S x = s at KM KP ⊢
  clear hM hP hv hev hl h
  unfold IntW
  go_enter Tryd.func49, Tryd.ntmps49
  go_wp2_with fail
  refine (KM.out _).mono ?_
  rintro e w1 ⟨rfl, rfl⟩
  go_wp2_with fail
  refine (KP.out).mono ?_
  rintro e w2 ⟨N, rfl, _, _, hb⟩
  go_wp2_with fail
  go_ret2
  exact ⟨rfl, hb⟩
set_option maxRecDepth 10000 in
theorem Int_no (s : ByteArray) (hm : mayL s.data.toList = false) (hs : s.size ≤ maxLen) (W : World) : IntW s 0 false W := by
  have hM : MayIs s false := fun w => hm ▸ may_any s w hs
  have KM := Lib.hid hM
  clear hM hm
  unfold IntW
  go_enter Tryd.func49, Tryd.ntmps49
  go_wp2_with fail
  refine (KM.out _).mono ?_
  rintro e w1 ⟨rfl, rfl⟩
  go_wp2_with fail
  go_ret2
  exact ⟨rfl, Below.refl _ _⟩
theorem Int_opt {s : ByteArray} {o : Option Int} (h : Is s o) (W : World) (he : ErrT W) : IntW s (intO o).1 (intO o).2 W := by
  cases o with
  | none => exact Int_no s h.1 h.2 W
  | some x =>
    unfold intO
    dsimp only
    by_cases hi : I64 x
    · rw [if_pos hi, h.1]; exact Int_ok x hi.1 hi.2 W
    · rw [if_neg hi, h.1]; exact Int_over x hi h.2 W he
def leastO (o : Option Int) : Int := if (intO o).2 then leastW (intO o).1 else 128
theorem intO_yes {o : Option Int} (h : (intO o).2 = true) : ∃ x, o = some x ∧ I64 x ∧ (intO o).1 = x := by
  cases o with
  | none => cases h
  | some x =>
    by_cases hi : I64 x
    · exact ⟨x, rfl, hi, by unfold intO; dsimp only; rw [if_pos hi]⟩
    · unfold intO at h; dsimp only at h; rw [if_neg hi] at h; cases h
end
end Go.Proofs.YtpledghphljfkaaDoor

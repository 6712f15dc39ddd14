import Derived.Test.YtafdogcanjcbmaaMae
import Derived.Test.YtafdogcanjcbmaaMaa
import Derived.Test.YtafdogcanjcbmaaProg
import Derived.Laws.AppendOwn
import Derived.WideShapes
import Derived.Lib.Hide
import Derived.WalkKit
import Derived.WalkSpells
import Derived.WalkLawsBesides
import Derived.Lib.Slices
import Derived.BigCall
import Derived.BigGuard
import Derived.Laws.OwnMore
import Derived.BigQuiet
/-
  The reference's readers of parts: kind, text, mark, verbal; boxes.
-/
namespace Go.Proofs.Ytafdogcanjcbmaa
set_option linter.unusedVariables false
set_option linter.unusedSimpArgs false
open Go.RowKit

/-- A block that holds these. -/
def Bk (t : TypeId) (W : World) (g : Nat) (cs : List Value) : Prop := W.heap[g]? = some (.cells cs.toArray t (0, 0))
section
variable {t : TypeId} {W W' : World} {g : Nat} {cs : List Value}
theorem Bk.lt (h : Bk t W g cs) : g < W.heap.size := (Array.getElem?_eq_some_iff.1 h).1
theorem Bk.c (h : Bk t W g cs) (i : Nat) : W.cell? ⟨g, i, none⟩ = cs[i]? := by rw [cell_of_row _ _ i _ _ _ h]; simp
theorem Bk.f (h : Bk t W g cs) (i : Nat) : W.frozen? ⟨g, i, none⟩ = false := frozen_of_row _ _ i _ _ h
theorem Bk.below (h : Bk t W g cs) {B : Nat} (hb : Below B W W') (hg : g < B) : Bk t W' g cs := (hb.block g hg).trans h
theorem Bk.on (h : Bk t W g cs) (hb : Below W.heap.size W W') : Bk t W' g cs := h.below hb h.lt
theorem Bk.alloc (h : Bk t W g cs) (o : Obj) : Bk t (W.alloc o) g cs := (Below.heap_alloc W o g h.lt).trans h
theorem Bk.new (t : TypeId) (W : World) (cs : List Value) : Bk t (W.alloc (.cells cs.toArray t)) W.heap.size cs := heap_alloc_new W _
theorem Bk.new' (t : TypeId) (W : World) {g : Nat} (hg : g = W.heap.size) (cs : List Value) : Bk t (W.alloc (.cells cs.toArray t)) g cs := by rw [hg]; exact heap_alloc_new W _
theorem Bk.set (h : Bk t W g cs) (i : Nat) (u : Value) : Bk t (W.setCell ⟨g, i, none⟩ u) g (cs.set i u) := by
  unfold Bk at h ⊢
  simp [World.setCell, Array.getElem?_modify, h]
theorem Bk.setOther (h : Bk t W g cs) {p : Addr} (hp : g ≠ p.block) (u : Value) : Bk t (W.setCell p u) g cs := (Below.heap_setCell W p u g hp).trans h
theorem Bk.drewN (h : Bk t W g cs) (q : Nat) : Bk t (W.drewN q) g cs := h
theorem Bk.drew (h : Bk t W g cs) : Bk t W.drew g cs := h
theorem Bk.p0 {u0 : Value} {l : List Value} (h : Bk t W g (u0 :: l)) : W.cell? ⟨g, 0, none⟩ = some u0 := h.c 0
theorem Bk.p1 {u0 u1 : Value} {l : List Value} (h : Bk t W g (u0 :: u1 :: l)) : W.cell? ⟨g, 1, none⟩ = some u1 := h.c 1
theorem Bk.p2 {u0 u1 u2 : Value} {l : List Value} (h : Bk t W g (u0 :: u1 :: u2 :: l)) : W.cell? ⟨g, 2, none⟩ = some u2 := h.c 2
theorem Bk.p3 {u0 u1 u2 u3 : Value} {l : List Value} (h : Bk t W g (u0 :: u1 :: u2 :: u3 :: l)) : W.cell? ⟨g, 3, none⟩ = some u3 := h.c 3
theorem Bk.p4 {u0 u1 u2 u3 u4 : Value} {l : List Value} (h : Bk t W g (u0 :: u1 :: u2 :: u3 :: u4 :: l)) : W.cell? ⟨g, 4, none⟩ = some u4 := h.c 4
theorem Bk.p5 {u0 u1 u2 u3 u4 u5 : Value} {l : List Value} (h : Bk t W g (u0 :: u1 :: u2 :: u3 :: u4 :: u5 :: l)) : W.cell? ⟨g, 5, none⟩ = some u5 := h.c 5
theorem Bk.p6 {u0 u1 u2 u3 u4 u5 u6 : Value} {l : List Value} (h : Bk t W g (u0 :: u1 :: u2 :: u3 :: u4 :: u5 :: u6 :: l)) : W.cell? ⟨g, 6, none⟩ = some u6 := h.c 6
end
def PureEnd (v : Value) (W : World) (e : Ending) (W' : World) : Prop := e = .returned v ∧ W = W'
def kd0 : List Pk → Int
  | [] => 0
  | q :: _ => q.k
def tx0 : List Pk → List UInt8
  | [] => []
  | q :: _ => q.t
def mkB (l : List Pk) (m : List UInt8) : Bool := decide (kd0 l = 6) && decide (tx0 l = m)
def vbB (l : List Pk) : Bool := decide (kd0 l = 3) || decide (kd0 l = 4) || mkB l [123]
theorem mkB_yes {l : List Pk} {c : UInt8} : mkB l [c] = true ↔ isMk c l := by
  unfold mkB
  rw [Bool.and_eq_true, decide_eq_true_iff, decide_eq_true_iff]
  cases l with
  | nil => exact ⟨fun h => absurd h.1 (by decide), fun h => h.elim⟩
  | cons q r => exact Iff.rfl
theorem mkB_no {l : List Pk} {c : UInt8} (h : ¬ isMk c l) : mkB l [c] = false := by
  cases hb : mkB l [c] with
  | false => rfl
  | true => exact absurd (mkB_yes.1 hb) h
theorem vbB_yes {l : List Pk} : vbB l = true ↔ isVb l := by
  unfold vbB
  rw [Bool.or_eq_true, Bool.or_eq_true, decide_eq_true_iff, decide_eq_true_iff, mkB_yes, or_assoc]
  cases l with
  | nil => exact ⟨fun h => by rcases h with h | h | h; cases h; cases h; exact h, fun h => h.elim⟩
  | cons q r => exact Iff.rfl
theorem vbB_no {l : List Pk} (h : ¬ isVb l) : vbB l = false := by
  cases hb : vbB l with
  | false => rfl
  | true => exact absurd (vbB_yes.1 hb) h
theorem kd0_yes {l : List Pk} {k : Int} (hk : k ≠ 0) : kd0 l = k ↔ isK k l := by
  cases l with
  | nil => exact ⟨fun h => absurd h.symm hk, fun h => h.elim⟩
  | cons q r => exact Iff.rfl
/-- The parts of a line, as the grammar reads them. -/
def pks (ts : List Tk) : List Pk := ts.map Tk.pk
theorem pks_len (ts : List Tk) : (pks ts).length = ts.length := by simp [pks]
theorem pks_at {ts : List Tk} {i : Nat} {t : Tk} (h : ts[i]? = some t) : (pks ts).drop i = t.pk :: (pks ts).drop (i + 1) := by
  have h2 : (pks ts)[i]? = some t.pk := by unfold pks; rw [List.getElem?_map, h]; rfl
  obtain ⟨hl, e⟩ := List.getElem?_eq_some_iff.1 h2
  rw [List.drop_eq_getElem_cons hl, e]
theorem pks_out {ts : List Tk} {i : Nat} (h : ts.length ≤ i) : (pks ts).drop i = [] := List.drop_eq_nil_of_le (by rw [pks_len]; exact h)

section
variable (ts : List Tk) (a : Option Addr) (n c : Nat) (W : World) (h : Qs W a n (rtk ts)) (hn : n = ts.length) (hm : n ≤ 1000000)
include h hn hm
theorem rkind_is (i : Nat) : Calls Try.prog 52 #[.slice a n c, .int .i64 i] W (PureEnd (.int .i64 (kd0 ((pks ts).drop i))) W) := by
  by_cases hi : i < n
  · obtain ⟨t, ht⟩ : ∃ t, ts[i]? = some t := ⟨_, List.getElem?_eq_getElem (by omega)⟩
    rw [pks_at ht]
    obtain ⟨b, off, rfl, hc⟩ := h (by omega)
    have ck := (hc i hi).1
    rw [rtk_at ht] at ck
    have e2 : ¬ (n : Int) ≤ (i : Int) := by omega
    clear hc h
    go_enter Try.func52, Try.ntmps52
    go_wp2_with fail
    go_ret
    exact ⟨rfl, rfl⟩
  · rw [pks_out (by omega)]
    have e2 : (n : Int) ≤ (i : Int) := by omega
    clear h
    go_enter Try.func52, Try.ntmps52
    go_wp2_with fail
    go_ret
    exact ⟨rfl, rfl⟩
theorem rtext_is (i : Nat) : Calls Try.prog 56 #[.slice a n c, .int .i64 i] W (PureEnd (.string (tx (tx0 ((pks ts).drop i)))) W) := by
  by_cases hi : i < n
  · obtain ⟨t, ht⟩ : ∃ t, ts[i]? = some t := ⟨_, List.getElem?_eq_getElem (by omega)⟩
    rw [pks_at ht]
    obtain ⟨b, off, rfl, hc⟩ := h (by omega)
    have ck := (hc i hi).2.1
    rw [rtk_at ht] at ck
    have e2 : ¬ (n : Int) ≤ (i : Int) := by omega
    clear hc h
    go_enter Try.func56, Try.ntmps56
    go_wp2_with fail
    go_ret
    exact ⟨rfl, rfl⟩
  · rw [pks_out (by omega)]
    have e2 : (n : Int) ≤ (i : Int) := by omega
    clear h
    go_enter Try.func56, Try.ntmps56
    go_wp2_with fail
    go_ret
    exact ⟨rfl, rfl⟩
theorem rmark_is (i : Nat) (m : ByteArray) : Calls Try.prog 53 #[.slice a n c, .int .i64 i, .string m] W (PureEnd (.bool (mkB ((pks ts).drop i) m.data.toList)) W) := by
  have K1 := Lib.hid (rkind_is ts a n c W h hn hm i)
  have K2 := Lib.hid (rtext_is ts a n c W h hn hm i)
  clear h hn hm
  generalize (pks ts).drop i = l at *
  unfold mkB
  generalize kd0 l = k at *
  generalize tx0 l = t at *
  by_cases h6 : k = 6
  · subst h6
    by_cases he : t = m.data.toList
    · subst he
      go_enter Try.func53, Try.ntmps53
      go_wp2_with fail
      refine K1.out.mono ?_
      rintro e w1 ⟨rfl, rfl⟩
      go_wp2_with fail
      refine K2.out.mono ?_
      rintro e w1 ⟨rfl, rfl⟩
      go_wp2_with fail
      go_ret
      exact ⟨by show Ending.returned (Value.bool ((tx m.data.toList).toList == m.toList)) = _; rw [str_tl, str_tl, tx_list]; simp, rfl⟩
    · have e1 : ((tx t).toList == m.toList) = false := by
        rw [str_tl, str_tl, tx_list]
        exact beq_eq_false_iff_ne.2 he
      go_enter Try.func53, Try.ntmps53
      go_wp2_with fail
      refine K1.out.mono ?_
      rintro e w1 ⟨rfl, rfl⟩
      go_wp2_with fail
      refine K2.out.mono ?_
      rintro e w1 ⟨rfl, rfl⟩
      go_wp2_with fail
      go_ret
      exact ⟨by rw [decide_eq_false he]; rfl, rfl⟩
  · have e0 : (k == 6) = false := beq_eq_false_iff_ne.2 h6
    go_enter Try.func53, Try.ntmps53
    go_wp2_with fail
    refine K1.out.mono ?_
    rintro e w1 ⟨rfl, rfl⟩
    go_wp2_with fail
    go_ret
    exact ⟨by rw [decide_eq_false h6]; rfl, rfl⟩
theorem rverbal_is (i : Nat) : Calls Try.prog 76 #[.slice a n c, .int .i64 i] W (PureEnd (.bool (vbB ((pks ts).drop i))) W) := by
  have K1 := Lib.hid (rkind_is ts a n c W h hn hm i)
  have K2 := Lib.hid (rmark_is ts a n c W h hn hm i ⟨#[123]⟩)
  clear h hn hm
  generalize (pks ts).drop i = l at *
  unfold vbB
  rw [show (ByteArray.mk #[123]).data.toList = [123] from rfl] at K2
  generalize kd0 l = k at *
  generalize mkB l [123] = b at *
  by_cases h3 : k = 3
  · subst h3
    go_enter Try.func76, Try.ntmps76
    go_wp2_with fail
    refine K1.out.mono ?_
    rintro e w1 ⟨rfl, rfl⟩
    go_wp2_with fail
    go_ret
    exact ⟨by simp, rfl⟩
  have e3 : (k == 3) = false := beq_eq_false_iff_ne.2 h3
  by_cases h4 : k = 4
  · subst h4
    go_enter Try.func76, Try.ntmps76
    go_wp2_with fail
    refine K1.out.mono ?_
    rintro e w1 ⟨rfl, rfl⟩
    go_wp2_with fail
    refine K1.out.mono ?_
    rintro e w1 ⟨rfl, rfl⟩
    go_wp2_with fail
    go_ret
    exact ⟨by simp, rfl⟩
  have e4 : (k == 4) = false := beq_eq_false_iff_ne.2 h4
  go_enter Try.func76, Try.ntmps76
  go_wp2_with fail
  refine K1.out.mono ?_
  rintro e w1 ⟨rfl, rfl⟩
  go_wp2_with fail
  refine K1.out.mono ?_
  rintro e w1 ⟨rfl, rfl⟩
  go_wp2_with fail
  refine K2.out.mono ?_
  rintro e w1 ⟨rfl, rfl⟩
  go_wp2_with fail
  go_ret
  exact ⟨by simp [h3, h4], rfl⟩
end
end Go.Proofs.Ytafdogcanjcbmaa
/-
  Nodes in memory: a node's five cells, slices of nodes read by a function, parts of them, rows of the call's own.
-/
namespace Go.Proofs.Ytafdogcanjcbmaa
set_option linter.unusedVariables false
set_option linter.unusedSimpArgs false
open Go.RowKit

def ValEnd (v : Value) (W : World) (e : Ending) (W' : World) : Prop := e = .returned v ∧ Below W.heap.size W W'
/-- A slice of strings, read. -/
def St (W : World) (a : Option Addr) (n : Nat) (l : List ByteArray) : Prop :=
  l.length = n ∧ (0 < n → ∃ b off, a = some ⟨b, off, none⟩ ∧ ∀ j, j < n → W.cell? ⟨b, off + j, none⟩ = some (.string (l.getD j ByteArray.empty)))
theorem St.below {W W' : World} {a : Option Addr} {n : Nat} {l : List ByteArray} (h : St W a n l) (hb : Below W.heap.size W W') : St W' a n l := by
  refine ⟨h.1, fun hn => ?_⟩
  obtain ⟨b, off, e, hc⟩ := h.2 hn
  exact ⟨b, off, e, fun j hj => (hb.cell (show (⟨b, off + j, none⟩ : Addr).block < W.heap.size from World.block_lt_of_cell? W _ (hc j hj))).trans (hc j hj)⟩
theorem St.nil (W : World) (a : Option Addr) : St W a 0 [] := ⟨rfl, fun h => by omega⟩
/-- A node: its kind, verb, adverb, name; where its numbers lie, and what they are. -/
structure Nd where
  k : Int
  v : ByteArray
  a : ByteArray
  x : ByteArray
  g : Option Addr
  m : Nat
  c : Nat
  ns : List ByteArray
def Nd.cells (d : Nd) : List Value := [.int .i64 d.k, .string d.v, .string d.a, .string d.x, .slice d.g d.m d.c]
def Nd.val (d : Nd) : Value := .agg #[.int .i64 d.k, .string d.v, .string d.a, .string d.x, .slice d.g d.m d.c]
/-- What a node has in memory: its numbers; and nothing is too large. -/
structure Nd.on (d : Nd) (W : World) : Prop where
  st : St W d.g d.m d.ns
  mc : d.m ≤ d.c
  cm : d.c ≤ maxLen
  k0 : -9223372036854775808 ≤ d.k
  k1 : d.k ≤ 9223372036854775807
  vz : d.v.size ≤ maxLen
  az : d.a.size ≤ maxLen
  xz : d.x.size ≤ maxLen
  nz : ∀ s ∈ d.ns, s.size ≤ maxLen
theorem Nd.on.below {d : Nd} {W W' : World} (h : d.on W) (hb : Below W.heap.size W W') : d.on W' := { h with st := h.st.below hb }
theorem Nd.on.nl {d : Nd} {W : World} (h : d.on W) : d.ns.length = d.m := h.st.1
/-- A node's five cells. -/
structure Ld (W : World) (b o : Nat) (d : Nd) : Prop where
  c0 : W.cell? ⟨b, o, none⟩ = some (.int .i64 d.k)
  c1 : W.cell? ⟨b, o + 1, none⟩ = some (.string d.v)
  c2 : W.cell? ⟨b, o + 2, none⟩ = some (.string d.a)
  c3 : W.cell? ⟨b, o + 3, none⟩ = some (.string d.x)
  c4 : W.cell? ⟨b, o + 4, none⟩ = some (.slice d.g d.m d.c)
theorem Ld.lt {W : World} {b o : Nat} {d : Nd} (h : Ld W b o d) : b < W.heap.size := World.block_lt_of_cell? W _ h.c0
theorem Ld.below {W W' : World} {b o : Nat} {d : Nd} (h : Ld W b o d) {B : Nat} (hb : Below B W W') (hB : b < B) : Ld W' b o d :=
  ⟨(hb.cell (show (⟨b, o, none⟩ : Addr).block < B from hB)).trans h.c0, (hb.cell (show (⟨b, o + 1, none⟩ : Addr).block < B from hB)).trans h.c1, (hb.cell (show (⟨b, o + 2, none⟩ : Addr).block < B from hB)).trans h.c2, (hb.cell (show (⟨b, o + 3, none⟩ : Addr).block < B from hB)).trans h.c3, (hb.cell (show (⟨b, o + 4, none⟩ : Addr).block < B from hB)).trans h.c4⟩
/-- A slice of nodes, read by a function. -/
structure Nq (W : World) (a : Option Addr) (n : Nat) (f : Nat → Nd) : Prop where
  ld : 0 < n → ∃ b off, a = some ⟨b, off, none⟩ ∧ ∀ j, j < n → Ld W b (off + j * 5) (f j)
  on : ∀ j, j < n → (f j).on W
theorem Nq.below {W W' : World} {a : Option Addr} {n : Nat} {f : Nat → Nd} (h : Nq W a n f) (hb : Below W.heap.size W W') : Nq W' a n f := by
  refine ⟨fun hn => ?_, fun j hj => (h.on j hj).below hb⟩
  obtain ⟨b, off, e, hc⟩ := h.ld hn
  exact ⟨b, off, e, fun j hj => (hc j hj).below hb (hc j hj).lt⟩
theorem Nq.nil (W : World) (a : Option Addr) (f : Nat → Nd) : Nq W a 0 f := ⟨fun h => by omega, fun j h => by omega⟩
theorem Nq.less {W : World} {a : Option Addr} {n m : Nat} {f : Nat → Nd} (h : Nq W a n f) (hm : m ≤ n) : Nq W a m f := by
  refine ⟨fun h0 => ?_, fun j hj => h.on j (by omega)⟩
  obtain ⟨b, off, e, hc⟩ := h.ld (by omega)
  exact ⟨b, off, e, fun j hj => hc j (by omega)⟩
theorem Nq.same {W : World} {a : Option Addr} {n : Nat} {f g : Nat → Nd} (h : Nq W a n f) (hg : ∀ j, j < n → f j = g j) : Nq W a n g := by
  refine ⟨fun h0 => ?_, fun j hj => hg j hj ▸ h.on j hj⟩
  obtain ⟨b, off, e, hc⟩ := h.ld h0
  exact ⟨b, off, e, fun j hj => hg j hj ▸ hc j hj⟩
/-- A part of a slice of nodes. -/
theorem Nq.part {W : World} {b off n p q : Nat} {f : Nat → Nd} (h : Nq W (some ⟨b, off, none⟩) n f) (hp : p ≤ q) (hq : q ≤ n) : Nq W (some ⟨b, off + p * 5, none⟩) (q - p) (fun j => f (p + j)) := by
  refine ⟨fun h0 => ⟨b, _, rfl, fun j hj => ?_⟩, fun j hj => h.on _ (by omega)⟩
  obtain ⟨b', off', e, hc⟩ := h.ld (by omega)
  injection e with e
  injection e with e1 e2
  subst e1 e2
  have := hc (p + j) (by omega)
  rwa [Nat.add_mul, ← Nat.add_assoc] at this
/-- How many trees are below a node. -/
def kd (k : Int) (v : ByteArray) : Int :=
  if k = 1 ∨ k = 2 then 0
  else if k = 3 then (if v.toList = [123] then 2 else 1)
  else if k = 4 then (if v.toList = [123] then 3 else 2)
  else if k = 5 ∨ k = 7 then 1
  else if k = 6 ∨ k = 8 then 2
  else -1
theorem kd_le (k : Int) (v : ByteArray) : -1 ≤ kd k v ∧ kd k v ≤ 3 := by
  unfold kd
  repeat' split
  all_goals omega
/-- Of the first n nodes, how many trees are below each. -/
def ksF (f : Nat → Nd) (n : Nat) : List Int := (List.range n).map fun j => kd (f j).k (f j).v
theorem ks_len (f : Nat → Nd) (n : Nat) : (ksF f n).length = n := by simp [ksF]
theorem ks_at {f : Nat → Nd} {n j : Nat} (h : j < n) : (ksF f n)[j]? = some (kd (f j).k (f j).v) := by simp [ksF, h]
/-- The cells of the first k nodes in a row. -/
def nvs (f : Nat → Nd) : Nat → List Value
  | 0 => []
  | k + 1 => nvs f k ++ (f k).cells
theorem nvs_len (f : Nat → Nd) : ∀ k, (nvs f k).length = k * 5
  | 0 => by simp [nvs]
  | k + 1 => by
    show (nvs f k ++ _).length = _
    rw [List.length_append, nvs_len f k]; simp [Nd.cells]; omega
theorem nvs_get (f : Nat → Nd) : ∀ k j i, j < k → i < 5 → (nvs f k)[j * 5 + i]? = (f j).cells[i]?
  | 0, j, i, h, _ => by omega
  | k + 1, j, i, h, hi => by
    have hl := nvs_len f k
    show (nvs f k ++ _)[j * 5 + i]? = _
    by_cases hj : j < k
    · rw [List.getElem?_append_left (by omega)]
      exact nvs_get f k j i hj hi
    · obtain rfl : j = k := by omega
      rw [List.getElem?_append_right (by omega), hl, Nat.add_sub_cancel_left]
theorem nvs_same {f g : Nat → Nd} : ∀ k, (∀ j, j < k → f j = g j) → nvs f k = nvs g k
  | 0, _ => rfl
  | k + 1, h => by
    show nvs f k ++ _ = nvs g k ++ _
    rw [nvs_same k (fun j hj => h j (by omega)), h k (by omega)]
theorem infoN : (Try.prog.info? 34).map (fun i => (i.zero, i.size, i.bytes)) = some (some (.agg #[.int .i64 0, .string ⟨#[]⟩, .string ⟨#[]⟩, .string ⟨#[]⟩, .slice none 0 0]), 5, 80) := by kernel_rfl
theorem own_lds {w : World} {base n : Nat} {v : Value} {f : Nat → Nd} (h : w.ownsRow base 34 5 v n (nvs f n)) : ∃ a c, v = .slice a n c ∧ n ≤ c ∧ c ≤ maxLen ∧ (0 < n → ∃ b off, a = some ⟨b, off, none⟩ ∧ base ≤ b ∧ ∀ j, j < n → Ld w b (off + j * 5) (f j)) := by
  rcases h.2 with ⟨rfl, rfl⟩ | ⟨g, cap, cur, rfl, h0, hg, h1, h2, h3, h4⟩
  · exact ⟨none, 0, rfl, Nat.le_refl _, by unfold maxLen; omega, fun h => by omega⟩
  · refine ⟨_, cap, rfl, by omega, h2, fun _ => ⟨g, 0, rfl, h0, fun j hj => ?_⟩⟩
    have hc : ∀ i, i < 5 → w.cell? ⟨g, j * 5 + i, none⟩ = (f j).cells[i]? := by
      intro i hi
      rw [cell_of_row _ _ _ _ _ _ hg, ← nvs_get f n j i hj hi, ← h4, List.getElem?_take_of_lt (by omega), Array.getElem?_toList]
    rw [Nat.zero_add]
    exact ⟨hc 0 (by omega), hc 1 (by omega), hc 2 (by omega), hc 3 (by omega), hc 4 (by omega)⟩
theorem own_nq {w : World} {base n : Nat} {v : Value} {f : Nat → Nd} (h : w.ownsRow base 34 5 v n (nvs f n)) (ho : ∀ j, j < n → (f j).on w) : ∃ a c, v = .slice a n c ∧ n ≤ c ∧ c ≤ maxLen ∧ Nq w a n f := by
  obtain ⟨a, c, rfl, h1, h2, h3⟩ := own_lds h
  refine ⟨a, c, rfl, h1, h2, fun hn => ?_, ho⟩
  obtain ⟨b, off, e, _, hc⟩ := h3 hn
  exact ⟨b, off, e, hc⟩
theorem own_below5 {w w' : World} {B n e : Nat} {v : Value} {xs : List Value} {s : Nat} (h : w.ownsRow B e s v n xs) (hb : Below w.heap.size w w') : w'.ownsRow B e s v n xs := by
  refine ⟨h.1, ?_⟩
  rcases h.2 with h | ⟨g, cap, cur, hv, h1, h2, h3⟩
  · exact .inl h
  · exact .inr ⟨g, cap, cur, hv, h1, (hb.block g (Array.getElem?_eq_some_iff.1 h2).1).trans h2, h3⟩
end Go.Proofs.Ytafdogcanjcbmaa
/-
  How many trees are below a node: of the program, and of the reference.
-/
namespace Go.Proofs.Ytafdogcanjcbmaa
set_option linter.unusedVariables false
set_option linter.unusedSimpArgs false
open Go.RowKit

/-- A box with a node in it. -/
def Bd (W : World) (i : Nat) (k : Int) (v a x : ByteArray) (g : Option Addr) (m c : Nat) : Prop := W.heap[i]? = some (.cells #[.int .i64 k, .string v, .string a, .string x, .slice g m c] 34 (0, 0))
section
variable {W W' : World} {i m c : Nat} {k : Int} {v a x : ByteArray} {g : Option Addr}
theorem Bd.lt (h : Bd W i k v a x g m c) : i < W.heap.size := (Array.getElem?_eq_some_iff.1 h).1
theorem Bd.c0 (h : Bd W i k v a x g m c) : W.cell? ⟨i, 0, none⟩ = some (.int .i64 k) := by rw [cell_of_row _ _ 0 _ _ _ h]; rfl
theorem Bd.c1 (h : Bd W i k v a x g m c) : W.cell? ⟨i, 1, none⟩ = some (.string v) := by rw [cell_of_row _ _ 1 _ _ _ h]; rfl
theorem Bd.c2 (h : Bd W i k v a x g m c) : W.cell? ⟨i, 2, none⟩ = some (.string a) := by rw [cell_of_row _ _ 2 _ _ _ h]; rfl
theorem Bd.c3 (h : Bd W i k v a x g m c) : W.cell? ⟨i, 3, none⟩ = some (.string x) := by rw [cell_of_row _ _ 3 _ _ _ h]; rfl
theorem Bd.c4 (h : Bd W i k v a x g m c) : W.cell? ⟨i, 4, none⟩ = some (.slice g m c) := by rw [cell_of_row _ _ 4 _ _ _ h]; rfl
theorem Bd.f (h : Bd W i k v a x g m c) (j : Nat) : W.frozen? ⟨i, j, none⟩ = false := frozen_of_row _ _ j _ _ h
theorem Bd.below (h : Bd W i k v a x g m c) {B : Nat} (hb : Below B W W') (hg : i < B) : Bd W' i k v a x g m c := (hb.block i hg).trans h
theorem Bd.on (h : Bd W i k v a x g m c) (hb : Below W.heap.size W W') : Bd W' i k v a x g m c := (hb.block i h.lt).trans h
theorem Bd.alloc (h : Bd W i k v a x g m c) (o : Obj) : Bd (W.alloc o) i k v a x g m c := (Below.heap_alloc W o i h.lt).trans h
theorem Bd.new (W : World) (k : Int) (v a x : ByteArray) (g : Option Addr) (m c : Nat) : Bd (W.alloc (.cells #[.int .i64 k, .string v, .string a, .string x, .slice g m c] 34)) W.heap.size k v a x g m c := heap_alloc_new W _
theorem box_below (W : World) (o : Obj) : Below W.heap.size W (W.alloc o) := (Below.refl _ W).alloc (Nat.le_refl _) o
end
set_option maxHeartbeats 1600000 in
theorem Kids_is (k : Int) (v a x : ByteArray) (g : Option Addr) (m c : Nat) (W : World) :
    Calls Try.prog 24 #[.agg #[.int .i64 k, .string v, .string a, .string x, .slice g m c]] W (ValEnd (.int .i64 (kd k v)) W) := by
  have hB := Bd.new W k v a x g m c
  have c0 := hB.c0
  have c1 := hB.c1
  have hb := Lib.hid (box_below W (.cells #[.int .i64 k, .string v, .string a, .string x, .slice g m c] 34))
  clear hB
  go_enter Try.func24, Try.ntmps24
  go_wp2_with fail
  all_goals
    go_ret
    exact ⟨by simp_all [kd], hb.out⟩
theorem kd_out {k : Int} (v : ByteArray) (h : k < 1 ∨ 8 < k) : kd k v = -1 := by
  unfold kd
  rw [if_neg (by omega), if_neg (by omega), if_neg (by omega), if_neg (by omega), if_neg (by omega)]
set_option maxHeartbeats 1600000 in
theorem rKids_is (k : Int) (v a x : ByteArray) (g : Option Addr) (m c : Nat) (W : World) :
    Calls Try.prog 79 #[.agg #[.int .i64 k, .string v, .string a, .string x, .slice g m c]] W (ValEnd (.int .i64 (kd k v)) W) := by
  have hB := Bd.new W k v a x g m c
  obtain ⟨W1, hW1⟩ : ∃ W1, W1 = W.alloc (.cells #[.int .i64 k, .string v, .string a, .string x, .slice g m c] 34) := ⟨_, rfl⟩
  have hB1 := (hW1 ▸ hB).alloc (.cells #[.int .i64 (-1), .int .i64 0, .int .i64 0, .int .i64 1, .int .i64 2, .int .i64 1, .int .i64 2, .int .i64 1, .int .i64 2] 3)
  rw [hW1] at hB1
  have c0 := hB1.c0
  have c1 := hB1.c1
  have hb := Lib.hid ((box_below W (.cells #[.int .i64 k, .string v, .string a, .string x, .slice g m c] 34)).alloc (by simp) (.cells #[.int .i64 (-1), .int .i64 0, .int .i64 0, .int .i64 1, .int .i64 2, .int .i64 1, .int .i64 2, .int .i64 1, .int .i64 2] 3))
  clear hB hW1 hB1 W1
  by_cases h1 : k < 1
  · go_enter Try.func79, Try.ntmps79
    go_wp2_with fail
    all_goals
      go_ret
      exact ⟨by rw [kd_out v (by omega)]; rfl, hb.out⟩
  by_cases h8 : 8 < k
  · go_enter Try.func79, Try.ntmps79
    go_wp2_with fail
    all_goals
      go_ret
      exact ⟨by rw [kd_out v (by omega)]; rfl, hb.out⟩
  have hk : k = 1 ∨ k = 2 ∨ k = 3 ∨ k = 4 ∨ k = 5 ∨ k = 6 ∨ k = 7 ∨ k = 8 := by omega
  clear h1 h8
  rcases hk with rfl | rfl | rfl | rfl | rfl | rfl | rfl | rfl
  all_goals
    go_enter Try.func79, Try.ntmps79
    go_wp2_with fail
    all_goals
      go_ret
      exact ⟨by simp_all [kd], hb.out⟩
end Go.Proofs.Ytafdogcanjcbmaa
/-
  Where a tree ends: of the program, and of the reference.
-/
namespace Go.Proofs.Ytafdogcanjcbmaa
set_option linter.unusedVariables false
set_option linter.unusedSimpArgs false
open Go.RowKit

theorem wrn {x : Int} (h1 : -9223372036854775808 ≤ x) (h2 : x ≤ 9223372036854775807) : IntKind.i64.wrap x = x := IntWalk.i64_in _ (by omega)
/-- What End tells. -/
def endV : Option Nat → Value
  | some e => .tuple #[.int .i64 (e : Int), .bool true]
  | none => .tuple #[.int .i64 0, .bool false]
theorem End_neg (a : Option Addr) (n c : Nat) (i : Int) (hi : i < 0) (W : World) : Calls Try.prog 21 #[.slice a n c, .int .i64 i] W (ValEnd (endV none) W) := by
  go_enter Try.func21, Try.ntmps21
  go_wp2_with fail
  go_loopw [1, 6] (fun iv mv wr => iv = .int .i64 i ∧ mv = .int .i64 1 ∧ wr = W) (fun _ _ _ => 0)
  case atStart => exact ⟨rfl, rfl, rfl⟩
  case round =>
    obtain ⟨rfl, rfl, rfl⟩ := hrel
    go_wp2_with fail
    go_ret2
    exact ⟨rfl, Below.refl _ _⟩
set_option maxHeartbeats 1600000 in
theorem End_in (a : Option Addr) (n c : Nat) (f : Nat → Nd) (p : Nat) (W : World) (h : Nq W a n f) (hn : n ≤ 1000000) (hp : p ≤ 9223372036854775807) :
    Calls Try.prog 21 #[.slice a n c, .int .i64 (p : Int)] W (ValEnd (endV (eN (ksF f n) 1 p)) W) := by
  obtain ⟨r, hr⟩ : ∃ r, r = eN (ksF f n) 1 p := ⟨_, rfl⟩
  rw [← hr]
  have HR := Lib.hid hr
  have H := Lib.hid h
  clear h hr
  go_enter Try.func21, Try.ntmps21
  go_wp2_with fail
  go_loopw [1, 6] (fun iv mv wr => ∃ q m : Nat, iv = .int .i64 q ∧ mv = .int .i64 m ∧ p ≤ q ∧ (p < q → q ≤ n) ∧ m ≤ 1 + 3 * (q - p) ∧ (p = q → m = 1) ∧ eN (ksF f n) m q = r ∧ Below W.heap.size W wr) (fun iv _ _ => n - (intOf iv).toNat)
  case atStart => exact ⟨p, 1, rfl, rfl, Nat.le_refl _, fun h => by omega, by omega, fun _ => rfl, HR.out.symm, Below.refl _ _⟩
  case round =>
    obtain ⟨q, m, rfl, rfl, hq, hqn, hm, hm1, he, hb⟩ := hrel
    by_cases h0 : m = 0
    · subst h0
      have e0 : ¬ (0 : Int) < ((0 : Nat) : Int) := by omega
      rw [eN_zero] at he
      subst he
      clear hq hqn hm hm1 HR H
      go_wp2_with fail
      go_ret2
      exact ⟨rfl, hb⟩
    · have e0 : (0 : Int) < (m : Int) := by omega
      have e1 : ¬ (q : Int) < 0 := by omega
      obtain ⟨m, rfl⟩ : ∃ m', m = m' + 1 := ⟨m - 1, by omega⟩
      by_cases hlt : q < n
      · have e2 : ¬ (n : Int) ≤ (q : Int) := by omega
        obtain ⟨gb, off, rfl, hc⟩ := H.out.ld (by omega)
        obtain ⟨c0, c1, c2, c3, c4⟩ := (hc q hlt).below hb (hc q hlt).lt
        rw [eN_at (ks_at hlt)] at he
        have hk := kd_le (f q).k (f q).v
        have HE := Lib.hid he
        have KK := Lib.hid (fun w => Kids_is (f q).k (f q).v (f q).a (f q).x (f q).g (f q).m (f q).c w)
        obtain ⟨z, hz⟩ : ∃ z, z = kd (f q).k (f q).v := ⟨_, rfl⟩
        rw [← hz] at KK hk HE
        clear he hc hz HR
        go_wp2_with fail
        refine (KK.out _).mono ?_
        rintro e w1 ⟨rfl, hb1⟩
        replace hb := hb.trans (hb1.mono hb.size)
        clear c0 c1 c2 c3 c4 hb1 KK
        by_cases hz0 : z < 0
        · obtain rfl : r = none := by have := HE.out; rw [if_pos hz0] at this; exact this.symm
          clear HE
          go_wp2_with fail
          go_ret2
          exact ⟨rfl, hb⟩
        · have := HE.out
          rw [if_neg hz0] at this
          have HE2 := Lib.hid this
          have w1 : IntKind.i64.wrap (z - 1) = z - 1 := wrn (by omega) (by omega)
          have w2 : IntKind.i64.wrap ((m : Int) + 1 + (z - 1)) = (m : Int) + 1 + (z - 1) := wrn (by omega) (by omega)
          have w3 : IntKind.i64.wrap ((q : Int) + 1) = (q : Int) + 1 := wrn (by omega) (by omega)
          clear this HE
          go_wp2_with fail
          refine ⟨⟨q + 1, m + z.toNat, by go_num, ?_, by omega, fun _ => by omega, by omega, fun h => by omega, HE2.out, hb⟩, by simp [intOf]; omega⟩
          congr 1
          omega
      · have e2 : (n : Int) ≤ (q : Int) := by omega
        rw [eN_out (by rw [ks_len]; omega)] at he
        subst he
        clear hq hqn hm hm1 HR H
        go_wp2_with fail
        go_ret2
        exact ⟨rfl, hb⟩
theorem rEnd_neg (a : Option Addr) (n c : Nat) (i : Int) (hi : i < 0) (W : World) : Calls Try.prog 58 #[.slice a n c, .int .i64 i] W (ValEnd (endV none) W) := by
  go_enter Try.func58, Try.ntmps58
  go_wp2_with fail
  go_ret2
  exact ⟨rfl, Below.refl _ _⟩
theorem rEnd_out (a : Option Addr) (n c p : Nat) (hp : n ≤ p) (W : World) : Calls Try.prog 58 #[.slice a n c, .int .i64 (p : Int)] W (ValEnd (endV none) W) := by
  have e1 : ¬ (p : Int) < 0 := by omega
  have e2 : (n : Int) ≤ (p : Int) := by omega
  go_enter Try.func58, Try.ntmps58
  go_wp2_with fail
  go_ret2
  exact ⟨rfl, Below.refl _ _⟩
set_option maxHeartbeats 3200000 in
theorem rEnd_all (a : Option Addr) (n c : Nat) (f : Nat → Nd) (hn : n ≤ 1000000) : ∀ N p, n - p ≤ N → ∀ W, Nq W a n f →
    Calls Try.prog 58 #[.slice a n c, .int .i64 (p : Int)] W (ValEnd (endV (eN (ksF f n) 1 p)) W) := by
  intro N
  induction N with
  | zero =>
    intro p hp W h
    rw [eN_out (by rw [ks_len]; omega)]
    exact rEnd_out a n c p (by omega) W
  | succ N ih =>
    intro p hp W h
    by_cases hlt : p < n
    · have e1 : ¬ (p : Int) < 0 := by omega
      have e2 : ¬ (n : Int) ≤ (p : Int) := by omega
      have H := Lib.hid h
      have IH := Lib.hid ih
      obtain ⟨gb, off, rfl, hc⟩ := h.ld (by omega)
      have HC := Lib.hid (hc p hlt)
      obtain ⟨c0, c1, c2, c3, c4⟩ := hc p hlt
      have hk := kd_le (f p).k (f p).v
      have he := eN_at (m := 0) (ks_at (f := f) hlt)
      rw [Nat.zero_add] at he
      have KK := Lib.hid (fun w => rKids_is (f p).k (f p).v (f p).a (f p).x (f p).g (f p).m (f p).c w)
      obtain ⟨z, hz⟩ : ∃ z, z = kd (f p).k (f p).v := ⟨_, rfl⟩
      rw [← hz] at KK hk he
      rw [he]
      clear ih h hc hz he
      by_cases hz0 : z < 0
      · rw [if_pos hz0]
        go_enter Try.func58, Try.ntmps58
        go_wp2_with fail
        refine (KK.out _).mono ?_
        rintro e w1 ⟨rfl, hb⟩
        clear c0 c1 c2 c3 c4
        go_wp2_with fail
        go_ret2
        exact ⟨rfl, hb⟩
      · rw [if_neg hz0]
        obtain ⟨y, rfl⟩ : ∃ y : Nat, z = y := ⟨z.toNat, by omega⟩
        have w3 : IntKind.i64.wrap ((p : Int) + 1) = (p : Int) + 1 := wrn (by omega) (by omega)
        rw [Nat.zero_add, Int.toNat_natCast]
        obtain ⟨r, hr⟩ : ∃ r, r = eN (ksF f n) y (p + 1) := ⟨_, rfl⟩
        rw [← hr]
        have HR := Lib.hid hr
        clear hr
        go_enter Try.func58, Try.ntmps58
        go_wp2_with fail
        refine (KK.out _).mono ?_
        rintro e w1 ⟨rfl, hb⟩
        clear c0 c1 c2 c3 c4
        go_wp2_with fail
        go_loopw [6, 7] (fun av kv wr => ∃ q j : Nat, av = .int .i64 q ∧ kv = .int .i64 j ∧ p < q ∧ j ≤ y ∧ eN (ksF f n) (y - j) q = r ∧ Below W.heap.size W wr) (fun _ kv _ => y - (intOf kv).toNat)
        case atStart => exact ⟨p + 1, 0, by go_num, rfl, by omega, by omega, HR.out.symm, hb⟩
        case round =>
          obtain ⟨q, j, rfl, rfl, hq, hj, he, hb⟩ := hrel
          obtain ⟨c0, c1, c2, c3, c4⟩ := HC.out.below hb HC.out.lt
          have HQ := Lib.hid he
          clear he
          go_wp2_with fail
          refine (KK.out _).mono ?_
          rintro e w2 ⟨rfl, hb1⟩
          replace hb := hb.trans (hb1.mono hb.size)
          clear c0 c1 c2 c3 c4 hb1
          by_cases hjy : j < y
          · have e3 : (j : Int) < (y : Int) := by omega
            have KE := IH.out q (by omega) w2 (H.out.below hb)
            have he := HQ.out
            rw [show y - j = 1 + (y - (j + 1)) by omega, eN_sum] at he
            cases hr1 : eN (ksF f n) 1 q with
            | none =>
              rw [hr1] at he KE
              obtain rfl : r = none := he.symm
              have KE2 := Lib.hid KE
              clear KE he hr1
              go_wp2_with fail
              refine KE2.out.mono ?_
              rintro e w3 ⟨rfl, hb1⟩
              replace hb := hb.trans (hb1.mono hb.size)
              unfold endV
              go_wp2_with fail
              go_ret2
              exact ⟨rfl, hb⟩
            | some q2 =>
              rw [hr1] at he KE
              have KE2 := Lib.hid KE
              have HE := Lib.hid he
              have h2 : p < q2 := by
                obtain ⟨d, hd⟩ := Fd.ex hr1
                have := hd.le.1
                omega
              clear KE he hr1
              go_wp2_with fail
              refine KE2.out.mono ?_
              rintro e w3 ⟨rfl, hb1⟩
              replace hb := hb.trans (hb1.mono hb.size)
              unfold endV
              go_wp2_with fail
              refine ⟨⟨q2, j + 1, rfl, by go_num, h2, by omega, HE.out, hb⟩, by simp [intOf]; omega⟩
          · have e3 : ¬ (j : Int) < (y : Int) := by omega
            obtain rfl : j = y := by omega
            have he := HQ.out
            rw [Nat.sub_self, eN_zero] at he
            subst he
            go_wp2_with fail
            go_ret2
            exact ⟨rfl, hb⟩
    · rw [eN_out (by rw [ks_len]; omega)]
      exact rEnd_out a n c p (by omega) W
/-- Where the tree at a place ends. -/
def enI (K : List Int) (i : Int) : Option Nat := if i < 0 then none else eN K 1 i.toNat
theorem enI_nat (K : List Int) (p : Nat) : enI K (p : Int) = eN K 1 p := by
  unfold enI
  rw [if_neg (by omega), Int.toNat_natCast]
theorem End_is (a : Option Addr) (n c : Nat) (f : Nat → Nd) (i : Int) (W : World) (h : Nq W a n f) (hn : n ≤ 1000000) (hi : i ≤ 9223372036854775807) :
    Calls Try.prog 21 #[.slice a n c, .int .i64 i] W (ValEnd (endV (enI (ksF f n) i)) W) := by
  by_cases h0 : i < 0
  · unfold enI
    rw [if_pos h0]
    exact End_neg a n c i h0 W
  · obtain ⟨p, rfl⟩ : ∃ p : Nat, i = p := ⟨i.toNat, by omega⟩
    rw [enI_nat]
    exact End_in a n c f p W h hn (by omega)
theorem rEnd_is (a : Option Addr) (n c : Nat) (f : Nat → Nd) (i : Int) (W : World) (h : Nq W a n f) (hn : n ≤ 1000000) :
    Calls Try.prog 58 #[.slice a n c, .int .i64 i] W (ValEnd (endV (enI (ksF f n) i)) W) := by
  by_cases h0 : i < 0
  · unfold enI
    rw [if_pos h0]
    exact rEnd_neg a n c i h0 W
  · obtain ⟨p, rfl⟩ : ∃ p : Nat, i = p := ⟨i.toNat, by omega⟩
    rw [enI_nat]
    exact rEnd_all a n c f hn _ p (Nat.le_refl _) W h
end Go.Proofs.Ytafdogcanjcbmaa
/-
  Where the trees below a node begin: of the program, and of the reference; whether two lists of places are the same.
-/
namespace Go.Proofs.Ytafdogcanjcbmaa
set_option linter.unusedVariables false
set_option linter.unusedSimpArgs false
open Go.RowKit

theorem eN_one {K : List Int} {m p e : Nat} (h : eN K (m + 1) p = some e) : ∃ q, eN K 1 p = some q ∧ eN K m q = some e ∧ p < q ∧ q ≤ e ∧ un K (m + 1) p = p :: un K m q := by
  rw [Nat.add_comm, eN_sum, Option.bind_eq_some_iff] at h
  obtain ⟨q, h1, h2⟩ := h
  obtain ⟨d1, g1⟩ := Fd.ex h1
  obtain ⟨d2, g2⟩ := Fd.ex h2
  have := g1.le.1
  have := g2.le.1
  exact ⟨q, h1, h2, by omega, by omega, un_cons h1⟩
/-- Places in a row. -/
def vn (l : List Nat) : List Value := l.map fun x : Nat => Value.int .i64 (x : Int)
theorem vn_len (l : List Nat) : (vn l).length = l.length := by simp [vn]
/-- A slice of places, read. -/
def Pl (W : World) (a : Option Addr) (l : List Nat) : Prop := 0 < l.length → ∃ b off, a = some ⟨b, off, none⟩ ∧ ∀ (j x : Nat), l[j]? = some x → W.cell? ⟨b, off + j, none⟩ = some (.int .i64 (x : Int))
theorem Pl.below {W W' : World} {a : Option Addr} {l : List Nat} (h : Pl W a l) (hb : Below W.heap.size W W') : Pl W' a l := by
  intro hn
  obtain ⟨b, off, e, hc⟩ := h hn
  exact ⟨b, off, e, fun j x hj => (hb.cell (show (⟨b, off + j, none⟩ : Addr).block < W.heap.size from World.block_lt_of_cell? W _ (hc j x hj))).trans (hc j x hj)⟩
theorem own_pl {w : World} {base : Nat} {v : Value} {l : List Nat} {n : Nat} (h : w.ownsRow base 3 1 v n (vn l)) : l.length = n ∧ ∃ a c, v = .slice a n c ∧ n ≤ c ∧ c ≤ maxLen ∧ Pl w a l := by
  have hl : l.length = n := by have := h.1; rw [vn_len, Nat.mul_one] at this; exact this
  refine ⟨hl, ?_⟩
  rcases h.2 with ⟨rfl, rfl⟩ | ⟨g, cap, cur, rfl, h0, hg, h1, h2, h3, h4⟩
  · exact ⟨none, 0, rfl, Nat.le_refl _, by unfold maxLen; omega, fun h => by omega⟩
  · refine ⟨_, cap, rfl, by omega, h2, fun _ => ⟨g, 0, rfl, fun j x hj => ?_⟩⟩
    have hj2 := (List.getElem?_eq_some_iff.1 hj).1
    rw [Nat.zero_add, cell_of_row _ _ _ _ _ _ hg, ← Array.getElem?_toList]
    have e : cur.toList[j]? = (cur.toList.take (n * 1))[j]? := by rw [List.getElem?_take_of_lt (by omega)]
    rw [e, h4]
    simp [vn, hj]
/-- What Under tells. -/
def UnEnd (l : List Nat) (W : World) (e : Ending) (W' : World) : Prop := ∃ a c, e = .returned (.slice a l.length c) ∧ l.length ≤ c ∧ c ≤ maxLen ∧ Pl W' a l ∧ Below W.heap.size W W'
def unI (K : List Int) (i : Int) : List Nat :=
  match enI K i with
  | none => []
  | some _ => un K ((K.getD i.toNat 0).toNat) (i.toNat + 1)
theorem UnEnd.none_ {W W' : World} (hb : Below W.heap.size W W') : UnEnd [] W (.returned (.slice none 0 0)) W' := ⟨none, 0, rfl, Nat.le_refl _, by unfold maxLen; omega, fun h => by simp at h, hb⟩
theorem UnEnd.own {w W : World} {v : Value} {l xs : List Nat} {n : Nat} (h : w.ownsRow W.heap.size 3 1 v n (vn xs)) (he : l = xs) (hb : Below W.heap.size W w) : UnEnd l W (.returned v) w := by
  subst he
  obtain ⟨rfl, a, c, rfl, h1, h2, h3⟩ := own_pl h
  exact ⟨a, c, rfl, h1, h2, h3, hb⟩
theorem tree_at {K : List Int} {p e : Nat} (h : eN K 1 p = some e) : ∃ y : Nat, K[p]? = some (y : Int) ∧ eN K y (p + 1) = some e ∧ p < e ∧ e ≤ K.length ∧ unI K p = un K y (p + 1) := by
  obtain ⟨d, hd⟩ := Fd.ex h
  have hl := hd.lt (by omega)
  have hle := hd.le
  obtain ⟨k, q, d1, d2, hk, h0, g1, _, g2, _⟩ := hd.inv
  obtain ⟨rfl, _⟩ := g2.inv0
  obtain ⟨y, rfl⟩ : ∃ y : Nat, k = y := ⟨k.toNat, by omega⟩
  refine ⟨y, hk, g1.ends, by omega, hle.2 (by omega), ?_⟩
  unfold unI
  rw [enI_nat, h]
  show un K _ _ = _
  rw [Int.toNat_natCast, List.getD_eq_getElem?_getD, hk, Option.getD_some, Int.toNat_natCast]
theorem infoI : (Try.prog.info? 3).map (fun i => (i.zero, i.size, i.bytes)) = some (some (.int .i64 0), 1, 8) := by kernel_rfl
set_option maxHeartbeats 3200000 in
theorem rUnder_is (a : Option Addr) (n c : Nat) (f : Nat → Nd) (i : Int) (W : World) (h : Nq W a n f) (hn : n ≤ 1000000) :
    Calls Try.prog 80 #[.slice a n c, .int .i64 i] W (UnEnd (unI (ksF f n) i) W) := by
  have KE := rEnd_is a n c f i W h hn
  cases he : enI (ksF f n) i with
  | none =>
    rw [he] at KE
    replace KE := Lib.hid KE
    unfold unI
    rw [he]
    clear he
    go_enter Try.func80, Try.ntmps80
    go_wp2_with fail
    refine KE.out.mono ?_
    rintro e w1 ⟨rfl, hb⟩
    unfold endV
    go_wp2_with fail
    go_ret
    exact .none_ hb
  | some e =>
    have h0 : ¬ i < 0 := by
      intro h0
      unfold enI at he
      rw [if_pos h0] at he
      cases he
    obtain ⟨p, rfl⟩ : ∃ p : Nat, i = p := ⟨i.toNat, by omega⟩
    rw [he] at KE
    replace KE := Lib.hid KE
    rw [enI_nat] at he
    obtain ⟨y, hk, he2, hpe, hen, hu⟩ := tree_at he
    rw [ks_len] at hen
    have hlt : p < n := by omega
    rw [ks_at hlt] at hk
    injection hk with hk
    rw [hu]
    have hy : (y : Int) ≤ 3 := by rw [← hk]; exact (kd_le _ _).2
    have H := Lib.hid h
    obtain ⟨gb, off, rfl, hc⟩ := h.ld (by omega)
    have HC := Lib.hid (hc p hlt)
    have KK := Lib.hid (fun w => rKids_is (f p).k (f p).v (f p).a (f p).x (f p).g (f p).m (f p).c w)
    rw [hk] at KK
    have HE := Lib.hid he2
    have e1 : (p : Int) < (n : Int) := by omega
    have w3 : IntKind.i64.wrap ((p : Int) + 1) = (p : Int) + 1 := wrn (by omega) (by omega)
    clear h hc hk he2 he hu
    go_enter Try.func80, Try.ntmps80
    go_wp2_with fail
    refine KE.out.mono ?_
    rintro e' w1 ⟨rfl, hb⟩
    unfold endV
    clear KE
    go_wp2_with fail
    go_loopw [5, 8, 9] (fun bv av kv wr => ∃ (q j : Nat) (xs : List Nat), av = .int .i64 q ∧ kv = .int .i64 j ∧ j ≤ y ∧ un (ksF f n) y (p + 1) = xs ++ un (ksF f n) (y - j) q ∧ eN (ksF f n) (y - j) q = some e ∧ wr.ownsRow W.heap.size 3 1 bv j (vn xs) ∧ Below W.heap.size W wr) (fun _ _ kv _ => y - (intOf kv).toNat)
    case atStart => exact ⟨p + 1, 0, [], by go_num, rfl, by omega, rfl, HE.out, ⟨rfl, .inl ⟨rfl, rfl⟩⟩, hb⟩
    case round =>
      clear hb
      obtain ⟨q, j, xs, rfl, rfl, hj, hu, he, ho, hb⟩ := hrel
      have HU0 := Lib.hid hu
      have HQ0 := Lib.hid he
      obtain ⟨c0, c1, c2, c3, c4⟩ := HC.out.below hb HC.out.lt
      clear hu he
      go_wp2_with fail
      refine (KK.out _).mono ?_
      rintro e' w2 ⟨rfl, hb1⟩
      replace ho := own_below5 ho hb1
      replace hb := hb.trans (hb1.mono hb.size)
      have hu := HU0.out
      have he := HQ0.out
      clear c0 c1 c2 c3 c4 hb1 KK HC HU0 HQ0
      by_cases hjy : j < y
      · have e3 : (j : Int) < (y : Int) := by omega
        rw [show y - j = (y - (j + 1)) + 1 by omega] at hu he
        obtain ⟨q2, he1, he2, hq, hqe, hu2⟩ := eN_one he
        rw [hu2] at hu
        have KE := Lib.hid (fun w hw => he1 ▸ rEnd_all (some ⟨gb, off, none⟩) n c f hn _ q (Nat.le_refl _) w hw)
        have HU := Lib.hid hu
        have HE2 := Lib.hid he2
        have hsz := hb.size
        clear he hu hu2 he1 he2 HE
        obtain ⟨i0, hi, hz0, hz1, hz2⟩ := info_parts infoI
        go_wp2_with (at_builtin; refine wpList_append_own _ rfl (.tmp 31) (.tmp 33) 49 rfl W.heap.size 3 i0 (.int .i64 0) 1 8 Try.underlying49 hi hz0 hz1 hz2 rfl (by decide) _ _ _ rfl (ho.alloc _) ⟨w2.heap.size, 0, none⟩ 1 1 [.int .i64 q] rfl rfl ?c1 ?c2 ?c3 ?c4 ?c5 ?_)
        case c1 =>
          intro k u hk
          rw [Go.WideShapes.add_plain, Nat.zero_add, cell_of_row _ _ _ _ _ _ (heap_alloc_new w2 _), ← hk, ← Array.getElem?_toList]
        case c2 => intro u hu; simp at hu; rcases hu with rfl; rfl
        case c3 => unfold maxLen; omega
        case c4 => omega
        case c5 => simp; omega
        intro v' w3 hown' hgrow hnn'
        have hb' : Below W.heap.size W w3 := (hb.alloc hsz _).grown hgrow (by simp; omega) (fun k hk => (ho.lt k hk).1)
        have HO := Lib.hid hown'
        have KE2 := Lib.hid (KE.out w3 (H.out.below hb'))
        clear hgrow ho hb hnn' hown' hsz KE
        go_wp2_with fail
        refine KE2.out.mono ?_
        rintro e' w4 ⟨rfl, hb1⟩
        have HO2 := Lib.hid (own_below5 HO.out hb1)
        replace hb' := hb'.trans (hb1.mono hb'.size)
        unfold endV
        clear hb1 KE2 HO
        go_wp2_with fail
        refine ⟨⟨q2, j + 1, xs ++ [q], rfl, by go_num, by omega, by rw [List.append_assoc]; exact HU.out, HE2.out, by have := HO2.out; unfold vn at this ⊢; rw [List.map_append]; exact this, hb'⟩, by simp [intOf]; omega⟩
      · have e3 : ¬ (j : Int) < (y : Int) := by omega
        obtain rfl : j = y := by omega
        rw [Nat.sub_self] at hu
        have HU := Lib.hid hu
        clear hu he HE
        go_wp2_with fail
        go_ret
        exact .own ho (HU.out.trans (List.append_nil _)) hb
end Go.Proofs.Ytafdogcanjcbmaa
/-
  How deep a tree is: of the program.
-/
namespace Go.Proofs.Ytafdogcanjcbmaa
set_option linter.unusedVariables false
set_option linter.unusedSimpArgs false
open Go.RowKit

/-- Numbers in a row. -/
def vi (l : List Int) : List Value := l.map (Value.int .i64)
def szOf : Value → Nat
  | .slice _ n _ => n
  | _ => 0
theorem vi_len (l : List Int) : (vi l).length = l.length := by simp [vi]
/-- A row of numbers that is not empty: its block. -/
theorem own_vi {w : World} {base n : Nat} {v : Value} {l : List Int} (h : w.ownsRow base 3 1 v n (vi l)) (hn : 0 < n) : ∃ g cap, v = .slice (some ⟨g, 0, none⟩) n cap ∧ base ≤ g ∧ n ≤ cap ∧ cap ≤ maxLen ∧ l.length = n ∧ (∀ j x, l[j]? = some x → w.cell? ⟨g, j, none⟩ = some (.int .i64 x)) ∧ ∀ j, w.frozen? ⟨g, j, none⟩ = false := by
  have hl : l.length = n := by have := h.1; rw [vi_len, Nat.mul_one] at this; exact this
  rcases h.2 with ⟨_, h0⟩ | ⟨g, cap, cur, rfl, h0, hg, h1, h2, h3, h4⟩
  · omega
  · refine ⟨g, cap, rfl, h0, h1, h2, hl, fun j x hj => ?_, fun j => h.frozenAt j⟩
    rw [h.cellAt j (by have := (List.getElem?_eq_some_iff.1 hj).1; omega)]
    simp [vi, hj]
theorem own_any {w : World} {base n e s : Nat} {v : Value} {xs : List Value} (h : w.ownsRow base e s v n xs) : ∃ a c, v = .slice a n c := by
  rcases h.2 with ⟨rfl, rfl⟩ | ⟨g, cap, _, rfl, _⟩
  · exact ⟨_, _, rfl⟩
  · exact ⟨_, _, rfl⟩
theorem own_take {w : World} {base n k g cap : Nat} {xs : List Value} (h : w.ownsRow base 3 1 (.slice (some ⟨g, 0, none⟩) n cap) n xs) (hk : k ≤ n) : w.ownsRow base 3 1 (.slice (some ⟨g, 0, none⟩) k cap) k (xs.take k) := by
  have hl := h.1
  rcases h.2 with ⟨h0, _⟩ | ⟨g', cap', cur, hv, h0, hg, h1, h2, h3, h4⟩
  · cases h0
  · injection hv with hv hn hc
    injection hv with hv
    injection hv with hv
    subst hv hc
    refine ⟨by rw [List.length_take]; omega, .inr ⟨_, _, cur, rfl, h0, hg, by omega, h2, h3, ?_⟩⟩
    rw [← h4, List.take_take, Nat.min_eq_left (by omega), Nat.mul_one]
set_option maxHeartbeats 3200000 in
theorem Depth_none (a : Option Addr) (n c : Nat) (f : Nat → Nd) (W : World) (h : Nq W a n f) (hn : n ≤ 1000000) (he : eN (ksF f n) 1 0 = none) :
    Calls Try.prog 14 #[.slice a n c] W (ValEnd (.int .i64 0) W) := by
  have KE := End_in a n c f 0 W h hn (by omega)
  rw [he] at KE
  replace KE := Lib.hid KE
  clear he
  go_enter Try.func14, Try.ntmps14
  go_wp2_with fail
  refine KE.out.mono ?_
  rintro e w1 ⟨rfl, hb⟩
  unfold endV
  go_wp2_with fail
  go_ret
  exact ⟨rfl, hb⟩
set_option maxRecDepth 10000 in
set_option maxHeartbeats 3200000 in
theorem Depth_some (a : Option Addr) (n c : Nat) (f : Nat → Nd) (e D : Nat) (W : World) (h : Nq W a n f) (hnc : n ≤ c) (hc : c ≤ maxLen) (hn : n ≤ 1000000) (he : Fd (ksF f n) 0 1 e D) :
    Calls Try.prog 14 #[.slice a n c] W (ValEnd (.int .i64 (D : Int)) W) := by
  have KE := End_in a n c f 0 W h hn (by omega)
  rw [he.ends] at KE
  replace KE := Lib.hid KE
  have hD := he.deep
  have hle := he.le
  have hen := hle.2 (by omega)
  rw [ks_len] at hen
  have hs := Lib.hid (Fin.start he)
  have H := Lib.hid h
  obtain ⟨gb, off, rfl, hcs⟩ := h.ld (by omega)
  have HC := Lib.hid hcs
  have KK := Lib.hid (fun j w => Kids_is (f j).k (f j).v (f j).a (f j).x (f j).g (f j).m (f j).c w)
  clear h hcs he
  go_enter Try.func14, Try.ntmps14
  go_wp2_with fail
  refine KE.out.mono ?_
  rintro e' w1 ⟨rfl, hb⟩
  unfold endV
  clear KE
  go_wp2_with fail
  go_loopw [5, 6, 20] (fun dv av kv wr => ∃ (i x m d : Nat) (r : List Nat), dv = .int .i64 x ∧ kv = .int .i64 i ∧ i ≤ e ∧ Fin (ksF f n) (m :: r) i e d ∧ D = max x d ∧ r.length ≤ x ∧ (r = [] ∨ 1 ≤ m) ∧ wr.ownsRow W.heap.size 3 1 av r.length (vi (mm (m :: r))) ∧ Below W.heap.size W wr) (fun _ _ kv _ => e - (intOf kv).toNat)
  case atStart => exact ⟨0, 0, 1, D, [], rfl, rfl, by omega, hs.out, by omega, by simp, .inl rfl, ⟨rfl, .inl ⟨rfl, rfl⟩⟩, hb⟩
  case round =>
    clear hb hs
    obtain ⟨i, x, m, d, r, rfl, rfl, hi, hF, hx, hr, hm, ho, hb⟩ := hrel
    by_cases hlt : i < e
    · have e2 : (i : Int) < (e : Int) := by omega
      obtain ⟨m, rfl⟩ := hF.more hm hlt
      obtain ⟨k, hk, hF2, hrd, _⟩ := hF.push
      rw [ks_at (by omega)] at hk
      injection hk with hk
      have HK := Lib.hid (fun w => hk ▸ KK.out i w)
      obtain ⟨c0, c1, c2, c3, c4⟩ := (HC.out i (by omega)).below hb (HC.out i (by omega)).lt
      have HF := Lib.hid hF2
      have hsz := hb.size
      have hB := Bd.new wr (f i).k (f i).v (f i).a (f i).x (f i).g (f i).m (f i).c
      have b0 := hB.c0
      have b1 := hB.c1
      have b2 := hB.c2
      have b3 := hB.c3
      have b4 := hB.c4
      have hb2 := Lib.hid (hb.alloc hsz (.cells #[.int .i64 (f i).k, .string (f i).v, .string (f i).a, .string (f i).x, .slice (f i).g (f i).m (f i).c] 34))
      have HO := Lib.hid (ho.alloc (.cells #[.int .i64 (f i).k, .string (f i).v, .string (f i).a, .string (f i).x, .slice (f i).g (f i).m (f i).c] 34))
      clear hk hF hF2 hB hb ho hm hsz KK
      go_wp2_with fail
      refine (HK.out _).mono ?_
      rintro e' w2 ⟨rfl, hb1⟩
      have ho := own_below5 HO.out hb1
      have hb := hb2.out.trans (hb1.mono hb2.out.size)
      have hsz := hb.size
      clear b0 b1 b2 b3 b4 c0 c1 c2 c3 c4 hb1 hb2 HO HK
      obtain ⟨i0, hi0, hz0, hz1, hz2⟩ := info_parts infoI
      go_wp2_with (at_builtin; refine wpList_append_own _ rfl (.tmp 24) (.tmp 27) 49 rfl W.heap.size 3 i0 (.int .i64 0) 1 8 Try.underlying49 hi0 hz0 hz1 hz2 rfl (by decide) _ _ _ rfl (ho.alloc _) ⟨w2.heap.size, 0, none⟩ 1 1 [.int .i64 (k : Int)] rfl rfl ?c1 ?c2 ?c3 ?c4 ?c5 ?_)
      case c1 =>
        intro j u hj
        rw [Go.WideShapes.add_plain, Nat.zero_add, cell_of_row _ _ _ _ _ _ (heap_alloc_new w2 _), ← hj, ← Array.getElem?_toList]
      case c2 => intro u hu; simp at hu; rcases hu with rfl; rfl
      case c3 => unfold maxLen; omega
      case c4 => omega
      case c5 => simp; omega
      intro v' w3 hown' hgrow hnn'
      have hb' : Below W.heap.size W w3 := (hb.alloc hsz _).grown hgrow (by simp; omega) (fun k hk => (ho.lt k hk).1)
      have hrow : w3.ownsRow W.heap.size 3 1 v' (r.length + 1) (vi (mm (k :: m :: r))) := by
        rw [mm_push]
        unfold vi at hown' ⊢
        rw [List.map_append]
        exact hown'
      clear hgrow ho hb hnn' hown' hsz
      obtain ⟨g, cap, rfl, hg, hcap, hcm, hlen, hcell, hfz⟩ := own_vi hrow (by omega)
      obtain ⟨x2, hx2⟩ : ∃ x2 : Nat, x2 = max x (r.length + 1) := ⟨_, rfl⟩
      have HF3 := Lib.hid HF.out
      have HO3 := Lib.hid hrow
      clear hcell hfz hlen hrow HF
      go_wp2_with fail
      all_goals
        go_loopw [6] (fun av wr => ∃ (t d' : Nat) (r' : List Nat), Fin (ksF f n) (t :: r') (i + 1) e d' ∧ D = max x2 d' ∧ r'.length ≤ x2 ∧ wr.ownsRow W.heap.size 3 1 av r'.length (vi (mm (t :: r'))) ∧ Below W.heap.size W wr) (fun av _ => szOf av)
        case atStart => exact ⟨k, d, m :: r, HF3.out, by omega, by simp; omega, HO3.out, hb'⟩
        case round =>
          clear hb' HF3 HO3 hrd hx hr
          obtain ⟨t, d', r', hF, hx', hr', ho, hb⟩ := hrel
          rcases r' with _ | ⟨m', r'⟩
          · obtain ⟨a', c', rfl⟩ := own_any ho
            have HF := Lib.hid hF
            have HO := Lib.hid ho
            clear hF ho
            go_wp2_with fail
            refine ⟨⟨i + 1, x2, t, d', [], by congr 1; omega, by go_num, by omega, HF.out, hx', by simp, .inl rfl, HO.out, hb⟩, by simp [intOf]; omega⟩
          · obtain ⟨q, hq⟩ : ∃ q, q = r'.length := ⟨_, rfl⟩
            have hl : (m' :: r').length = q + 1 := by rw [hq]; rfl
            rw [hl] at ho hr'
            obtain ⟨g2, cap2, rfl, hg2, hcap2, hcm2, hlen2, hcell2, hfz2⟩ := own_vi ho (by omega)
            have ctop := hcell2 q (t : Int) (by rw [hq]; exact mm_top t m' r')
            by_cases ht : t = 0
            · subst ht
              obtain ⟨d2, hF2, hx3⟩ := hF.pop (x := x2) (by rw [hl]; omega) hx'
              have hm2 := hF2.head_le
              have htk := own_take ho (k := q) (by omega)
              rw [show (vi (mm (0 :: m' :: r'))).take q = vi (pl (m' :: r')).reverse by unfold vi; rw [← List.map_take, hq, mm_take]] at htk
              have HF := Lib.hid hF2
              have HX := Lib.hid hx3
              rcases r' with _ | ⟨a, r'⟩
              · obtain rfl : q = 0 := hq
                have HO := Lib.hid htk
                clear hF ho hcell2 hfz2 hl hF2 hx3 hm2 htk hx'
                go_wp2_with fail
                refine ⟨⟨m', d2, [], HF.out, HX.out, by simp, HO.out, hb⟩, by simp [szOf]⟩
              · obtain ⟨p, hp⟩ : ∃ p, p = r'.length := ⟨_, rfl⟩
                obtain rfl : q = p + 1 := by rw [hq, hp]; rfl
                obtain ⟨hp1, hp2⟩ := pl_last m' a r'
                rw [← hp] at hp1 hp2
                obtain ⟨g3, cap3, hv, -, -, -, -, hcell3, -⟩ := own_vi htk (by omega)
                cases hv
                have cp := hcell3 p _ hp1
                have fp := htk.frozenAt p
                have hst := (htk.stored p (.int .i64 (m' : Int))).1
                rw [show (vi (pl (m' :: a :: r')).reverse).set p (.int .i64 (m' : Int)) = vi (mm (m' :: a :: r')) by unfold vi; rw [← hp2, List.map_set]] at hst
                have HO := Lib.hid hst
                have hb3 : Below W.heap.size W (wr.setCell ⟨g2, p, none⟩ (.int .i64 (m' : Int))) := hb.setCell hg2 _
                have HP := Lib.hid hp
                have w5 : IntKind.i64.wrap (m' : Int) = (m' : Int) := wrn (by omega) (by omega)
                have w7 : IntKind.i64.wrap (p : Int) = (p : Int) := wrn (by omega) (by omega)
                have w6 : IntKind.i64.wrap ((p : Int) + 1) = (p : Int) + 1 := wrn (by omega) (by omega)
                clear hF ho hcell2 hfz2 hl hF2 hx3 hm2 htk hx' hcell3 hp1 hp2 hst hp hq
                go_wp2_with fail
                refine ⟨⟨m', d2, a :: r', HF.out, HX.out, by rw [show (a :: r').length = p + 1 by rw [HP.out]; rfl]; omega, by rw [show (a :: r').length = p + 1 by rw [HP.out]; rfl]; exact HO.out, hb3⟩, by simp [szOf]⟩
            · have e3 : ((t : Int) == 0) = false := beq_eq_false_iff_ne.2 (by omega)
              have HF := Lib.hid hF
              have HO := Lib.hid ho
              have HQ := Lib.hid hq
              clear hF ho hcell2 hfz2 hl hq
              go_wp2_with fail
              refine ⟨⟨i + 1, x2, t, d', m' :: r', by congr 1; omega, by go_num, by omega, HF.out, hx', by rw [show (m' :: r').length = q + 1 by rw [HQ.out]; rfl]; omega, .inr (by omega), by rw [show (m' :: r').length = q + 1 by rw [HQ.out]; rfl]; exact HO.out, hb⟩, by simp [intOf]; omega⟩
    · have e2 : ¬ (i : Int) < (e : Int) := by omega
      obtain rfl : i = e := by omega
      have h0 := hF.done hm
      subst h0
      obtain rfl : D = x := by omega
      clear hF ho hx hr hD
      go_wp2_with fail
      go_ret
      exact ⟨rfl, hb⟩
end Go.Proofs.Ytafdogcanjcbmaa
/-
  How deep a tree is: of the reference.
-/
namespace Go.Proofs.Ytafdogcanjcbmaa
set_option linter.unusedVariables false
set_option linter.unusedSimpArgs false
open Go.RowKit

theorem drop_one {α : Type} {l r : List α} {k : Nat} {x : α} (h : x :: r = l.drop k) : l[k]? = some x ∧ r = l.drop (k + 1) := by
  have h1 : (l.drop k)[0]? = some x := by rw [← h]; rfl
  rw [List.getElem?_drop, Nat.add_zero] at h1
  refine ⟨h1, ?_⟩
  rw [← List.drop_drop, ← h]; rfl
set_option maxHeartbeats 3200000 in
theorem rdeep_all (a : Option Addr) (n c : Nat) (f : Nat → Nd) (hn : n ≤ 1000000) : ∀ N p, n - p ≤ N → ∀ (e D : Nat) (W : World), Nq W a n f → Fd (ksF f n) p 1 e D →
    Calls Try.prog 59 #[.slice a n c, .int .i64 (p : Int)] W (ValEnd (.int .i64 (D : Int)) W) := by
  intro N
  induction N with
  | zero =>
    intro p hp e D W h hF
    have := hF.lt (by omega)
    rw [ks_len] at this
    omega
  | succ N ih =>
    intro p hp e D W h hF
    have hlt := hF.lt (by omega)
    rw [ks_len] at hlt
    obtain ⟨y, hk, he2, hpe, hen, hu⟩ := tree_at hF.ends
    rw [ks_len] at hen
    obtain ⟨k, q, d1, d2, hk2, h0, g1, _, g2, hD⟩ := hF.inv
    obtain ⟨rfl, rfl⟩ := g2.inv0
    rw [hk] at hk2
    injection hk2 with hk2
    subst hk2
    rw [Int.toNat_natCast] at g1
    have hul := g1.un_len
    have hd1 := g1.deep
    have hD2 : D = 1 + d1 := by omega
    have hy : y ≤ 1000000 := by have := g1.le.1; omega
    have hd1' : d1 ≤ 1000000 := by omega
    have KU := rUnder_is a n c f p W h hn
    rw [hu] at KU
    have HG := Lib.hid g1
    obtain ⟨u, hu2⟩ : ∃ u, u = un (ksF f n) y (p + 1) := ⟨_, rfl⟩
    rw [← hu2] at KU hul
    have HU := Lib.hid hu2
    have IH := Lib.hid ih
    have H := Lib.hid h
    replace KU := Lib.hid KU
    clear hpe hen h0 hd1 hF hk he2 hu g1 g2 h ih hu2 hD
    go_enter Try.func59, Try.ntmps59
    go_wp2_with fail
    refine KU.out.mono ?_
    rintro e' w1 ⟨a2, c2, rfl, _, _, hpl, hb⟩
    rw [hul]
    have HP := Lib.hid hpl
    clear hpl KU
    go_wp2_with fail
    go_loopw [5, 7] (fun mv jv wr => ∃ (j q x dl : Nat), mv = .int .i64 x ∧ jv = .int .i64 j ∧ j ≤ y ∧ p < q ∧ x ≤ 1000000 ∧ Fd (ksF f n) q (y - j) e dl ∧ d1 = max x dl ∧ un (ksF f n) (y - j) q = u.drop j ∧ Below W.heap.size W wr ∧ Below w1.heap.size w1 wr) (fun _ jv _ => y - (intOf jv).toNat)
    case atStart => exact ⟨0, p + 1, 0, d1, rfl, rfl, by omega, by omega, by omega, HG.out, by omega, by rw [HU.out]; rfl, hb, Below.refl _ _⟩
    case round =>
      clear hb
      obtain ⟨j, q, x, dl, rfl, rfl, hj, hq, hx, hF, hdl, hun, hb, hbb⟩ := hrel
      by_cases hjy : j < y
      · have e3 : (j : Int) < (y : Int) := by omega
        rw [show y - j = (y - (j + 1)) + 1 by omega] at hF hun
        obtain ⟨k, q2, d3, d4, _, _, g1, g2, g3, hd⟩ := hF.inv
        rw [un_cons g2.ends] at hun
        obtain ⟨hun1, hun2⟩ := drop_one hun
        obtain ⟨b, off, rfl, hc⟩ := HP.out (by rw [hul]; omega)
        have cj := hc j q hun1
        have cell := (hbb.cell (World.block_lt_of_cell? w1 _ cj)).trans cj
        have KD := Lib.hid (fun w hw => IH.out q (by omega) q2 (1 + d3) w hw g2)
        have hl2 := g2.le
        have hl2' := hl2.2 (by have := g2.lt (by omega); omega)
        rw [ks_len] at hl2'
        have hdp := g2.deep
        obtain ⟨z, hz⟩ : ∃ z, z = max x (1 + d3) := ⟨_, rfl⟩
        have hz1 : z ≤ 1000000 := by omega
        have hz2 : d1 = max z d4 := by omega
        have hz3 : (x : Int) < 1 + (d3 : Int) → z = 1 + d3 := by omega
        have hz4 : 1 + (d3 : Int) ≤ (x : Int) → z = x := by omega
        have hpq : p < q2 := by omega
        have wj : IntKind.i64.wrap ((j : Int) + 1) = (j : Int) + 1 := wrn (by omega) (by omega)
        have HZ2 := Lib.hid hz2
        have HG3 := Lib.hid g3
        have HUN := Lib.hid hun2
        clear hc cj hF hun hun1 hun2 g1 g2 g3 HG HU hl2 hl2' hdp hz hz2 hdl hd
        go_wp2_with fail
        refine (KD.out _ (H.out.below hb)).mono ?_
        rintro e' w2 ⟨rfl, hb1⟩
        have hb2 := hb.trans (hb1.mono hb.size)
        have hbb2 := hbb.trans (hb1.mono hbb.size)
        clear KD hb1 cell hb hbb
        go_wp2_with fail
        all_goals
          refine ⟨⟨j + 1, q2, z, d4, by congr 1; omega, by go_num, hjy, hpq, hz1, HG3.out, HZ2.out, HUN.out, hb2, hbb2⟩, by simp [intOf]; omega⟩
      · have e3 : ¬ (j : Int) < (y : Int) := by omega
        obtain rfl : j = y := by omega
        rw [Nat.sub_self] at hF
        obtain ⟨_, rfl⟩ := hF.inv0
        obtain rfl : d1 = x := by omega
        have w1 : IntKind.i64.wrap (1 + (d1 : Int)) = 1 + (d1 : Int) := wrn (by omega) (by omega)
        subst hD2
        clear hF hdl hun HG
        go_wp2_with fail
        go_ret
        exact ⟨by congr 1, hb⟩
theorem rDepth_none (a : Option Addr) (n c : Nat) (f : Nat → Nd) (W : World) (h : Nq W a n f) (hn : n ≤ 1000000) (he : eN (ksF f n) 1 0 = none) :
    Calls Try.prog 36 #[.slice a n c] W (ValEnd (.int .i64 0) W) := by
  have KE := rEnd_all a n c f hn _ 0 (Nat.le_refl _) W h
  rw [he] at KE
  replace KE := Lib.hid KE
  clear he
  go_enter Try.func36, Try.ntmps36
  go_wp2_with fail
  refine KE.out.mono ?_
  rintro e w1 ⟨rfl, hb⟩
  unfold endV
  go_wp2_with fail
  go_ret
  exact ⟨rfl, hb⟩
theorem rDepth_some (a : Option Addr) (n c : Nat) (f : Nat → Nd) (e D : Nat) (W : World) (h : Nq W a n f) (hn : n ≤ 1000000) (he : Fd (ksF f n) 0 1 e D) :
    Calls Try.prog 36 #[.slice a n c] W (ValEnd (.int .i64 (D : Int)) W) := by
  have KE := rEnd_all a n c f hn _ 0 (Nat.le_refl _) W h
  rw [he.ends] at KE
  replace KE := Lib.hid KE
  have KD := Lib.hid (fun w hw => rdeep_all a n c f hn _ 0 (Nat.le_refl _) e D w hw he)
  have H := Lib.hid h
  clear he h
  go_enter Try.func36, Try.ntmps36
  go_wp2_with fail
  refine KE.out.mono ?_
  rintro e w1 ⟨rfl, hb⟩
  unfold endV
  go_wp2_with fail
  refine (KD.out _ (H.out.below hb)).mono ?_
  rintro e w2 ⟨rfl, hb1⟩
  replace hb := hb.trans (hb1.mono hb.size)
  go_wp2_with fail
  go_ret
  exact ⟨rfl, hb⟩
end Go.Proofs.Ytafdogcanjcbmaa

import Derived.Test.YtljkmdmbndjngaaGreatMaa
import Derived.Test.YtljkmdmbndjngaaGreatProg
import Derived.Laws.AppendOwn
import Derived.WideShapes
import Derived.Lib.Hide
import Derived.WalkKit
import Derived.WalkSpells
import Derived.WalkLawsBesides
import Derived.Lib.Slices
import Derived.BigCall
import Derived.BigGuard
import Derived.Test.YtljkmdmbndjngaaGreatMac
import Derived.Maps.Own
import Derived.Deep.RegionHeld3
/-
  Nodes in memory: a node's five cells, slices of nodes read by a function, parts of them, rows of the call's own.
-/
namespace Go.Proofs.YtljkmdmbndjngaaGreat
set_option linter.unusedVariables false
set_option linter.unusedSimpArgs false
open Go.RowKit

def ValEnd (v : Value) (W : World) (e : Ending) (W' : World) : Prop := e = .returned v ∧ Below W.heap.size W W'
/-- A slice of strings, read. -/
def St (W : World) (a : Option Addr) (n : Nat) (l : List ByteArray) : Prop :=
  l.length = n ∧ (0 < n → ∃ b off, a = some ⟨b, off, none⟩ ∧ ∀ j, j < n → W.cell? ⟨b, off + j, none⟩ = some (.string (l.getD j ByteArray.empty)))
theorem St.below {W W' : World} {a : Option Addr} {n : Nat} {l : List ByteArray} (h : St W a n l) (hb : Below W.heap.size W W') : St W' a n l := by
  refine ⟨h.1, fun hn => ?_⟩
  obtain ⟨b, off, e, hc⟩ := h.2 hn
  exact ⟨b, off, e, fun j hj => (hb.cell (show (⟨b, off + j, none⟩ : Addr).block < W.heap.size from World.block_lt_of_cell? W _ (hc j hj))).trans (hc j hj)⟩
theorem St.nil (W : World) (a : Option Addr) : St W a 0 [] := ⟨rfl, fun h => by omega⟩
/-- A node: its kind, verb, adverb, name; where its numbers lie, and what they are. -/
structure Nd where
  k : Int
  v : ByteArray
  a : ByteArray
  x : ByteArray
  g : Option Addr
  m : Nat
  c : Nat
  ns : List ByteArray
def Nd.cells (d : Nd) : List Value := [.int .i64 d.k, .string d.v, .string d.a, .string d.x, .slice d.g d.m d.c]
def Nd.val (d : Nd) : Value := .agg #[.int .i64 d.k, .string d.v, .string d.a, .string d.x, .slice d.g d.m d.c]
/-- What a node has in memory: its numbers; and nothing is too large. -/
structure Nd.on (d : Nd) (W : World) : Prop where
  st : St W d.g d.m d.ns
  mc : d.m ≤ d.c
  cm : d.c ≤ maxLen
  k0 : -9223372036854775808 ≤ d.k
  k1 : d.k ≤ 9223372036854775807
  vz : d.v.size ≤ maxLen
  az : d.a.size ≤ maxLen
  xz : d.x.size ≤ maxLen
  nz : ∀ s ∈ d.ns, s.size ≤ maxLen
theorem Nd.on.below {d : Nd} {W W' : World} (h : d.on W) (hb : Below W.heap.size W W') : d.on W' := { h with st := h.st.below hb }
theorem Nd.on.nl {d : Nd} {W : World} (h : d.on W) : d.ns.length = d.m := h.st.1
/-- A node's five cells. -/
structure Ld (W : World) (b o : Nat) (d : Nd) : Prop where
  c0 : W.cell? ⟨b, o, none⟩ = some (.int .i64 d.k)
  c1 : W.cell? ⟨b, o + 1, none⟩ = some (.string d.v)
  c2 : W.cell? ⟨b, o + 2, none⟩ = some (.string d.a)
  c3 : W.cell? ⟨b, o + 3, none⟩ = some (.string d.x)
  c4 : W.cell? ⟨b, o + 4, none⟩ = some (.slice d.g d.m d.c)
theorem Ld.lt {W : World} {b o : Nat} {d : Nd} (h : Ld W b o d) : b < W.heap.size := World.block_lt_of_cell? W _ h.c0
theorem Ld.below {W W' : World} {b o : Nat} {d : Nd} (h : Ld W b o d) {B : Nat} (hb : Below B W W') (hB : b < B) : Ld W' b o d :=
  ⟨(hb.cell (show (⟨b, o, none⟩ : Addr).block < B from hB)).trans h.c0, (hb.cell (show (⟨b, o + 1, none⟩ : Addr).block < B from hB)).trans h.c1, (hb.cell (show (⟨b, o + 2, none⟩ : Addr).block < B from hB)).trans h.c2, (hb.cell (show (⟨b, o + 3, none⟩ : Addr).block < B from hB)).trans h.c3, (hb.cell (show (⟨b, o + 4, none⟩ : Addr).block < B from hB)).trans h.c4⟩
/-- A slice of nodes, read by a function. -/
structure Nq (W : World) (a : Option Addr) (n : Nat) (f : Nat → Nd) : Prop where
  ld : 0 < n → ∃ b off, a = some ⟨b, off, none⟩ ∧ ∀ j, j < n → Ld W b (off + j * 5) (f j)
  on : ∀ j, j < n → (f j).on W
theorem Nq.below {W W' : World} {a : Option Addr} {n : Nat} {f : Nat → Nd} (h : Nq W a n f) (hb : Below W.heap.size W W') : Nq W' a n f := by
  refine ⟨fun hn => ?_, fun j hj => (h.on j hj).below hb⟩
  obtain ⟨b, off, e, hc⟩ := h.ld hn
  exact ⟨b, off, e, fun j hj => (hc j hj).below hb (hc j hj).lt⟩
theorem Nq.nil (W : World) (a : Option Addr) (f : Nat → Nd) : Nq W a 0 f := ⟨fun h => by omega, fun j h => by omega⟩
theorem Nq.less {W : World} {a : Option Addr} {n m : Nat} {f : Nat → Nd} (h : Nq W a n f) (hm : m ≤ n) : Nq W a m f := by
  refine ⟨fun h0 => ?_, fun j hj => h.on j (by omega)⟩
  obtain ⟨b, off, e, hc⟩ := h.ld (by omega)
  exact ⟨b, off, e, fun j hj => hc j (by omega)⟩
theorem Nq.same {W : World} {a : Option Addr} {n : Nat} {f g : Nat → Nd} (h : Nq W a n f) (hg : ∀ j, j < n → f j = g j) : Nq W a n g := by
  refine ⟨fun h0 => ?_, fun j hj => hg j hj ▸ h.on j hj⟩
  obtain ⟨b, off, e, hc⟩ := h.ld h0
  exact ⟨b, off, e, fun j hj => hg j hj ▸ hc j hj⟩
/-- A part of a slice of nodes. -/
theorem Nq.part {W : World} {b off n p q : Nat} {f : Nat → Nd} (h : Nq W (some ⟨b, off, none⟩) n f) (hp : p ≤ q) (hq : q ≤ n) : Nq W (some ⟨b, off + p * 5, none⟩) (q - p) (fun j => f (p + j)) := by
  refine ⟨fun h0 => ⟨b, _, rfl, fun j hj => ?_⟩, fun j hj => h.on _ (by omega)⟩
  obtain ⟨b', off', e, hc⟩ := h.ld (by omega)
  injection e with e
  injection e with e1 e2
  subst e1 e2
  have := hc (p + j) (by omega)
  rwa [Nat.add_mul, ← Nat.add_assoc] at this
/-- How many trees are below a node. -/
def kd (k : Int) (v : ByteArray) : Int :=
  if k = 1 ∨ k = 2 then 0
  else if k = 3 then (if v.toList = [123] then 2 else 1)
  else if k = 4 then (if v.toList = [123] then 3 else 2)
  else if k = 5 ∨ k = 7 then 1
  else if k = 6 ∨ k = 8 then 2
  else -1
theorem kd_le (k : Int) (v : ByteArray) : -1 ≤ kd k v ∧ kd k v ≤ 3 := by
  unfold kd
  repeat' split
  all_goals omega
/-- Of the first n nodes, how many trees are below each. -/
def ksF (f : Nat → Nd) (n : Nat) : List Int := (List.range n).map fun j => kd (f j).k (f j).v
theorem ks_len (f : Nat → Nd) (n : Nat) : (ksF f n).length = n := by simp [ksF]
theorem ks_at {f : Nat → Nd} {n j : Nat} (h : j < n) : (ksF f n)[j]? = some (kd (f j).k (f j).v) := by simp [ksF, h]
/-- The cells of the first k nodes in a row. -/
def nvs (f : Nat → Nd) : Nat → List Value
  | 0 => []
  | k + 1 => nvs f k ++ (f k).cells
theorem nvs_len (f : Nat → Nd) : ∀ k, (nvs f k).length = k * 5
  | 0 => by simp [nvs]
  | k + 1 => by
    show (nvs f k ++ _).length = _
    rw [List.length_append, nvs_len f k]; simp [Nd.cells]; omega
theorem nvs_get (f : Nat → Nd) : ∀ k j i, j < k → i < 5 → (nvs f k)[j * 5 + i]? = (f j).cells[i]?
  | 0, j, i, h, _ => by omega
  | k + 1, j, i, h, hi => by
    have hl := nvs_len f k
    show (nvs f k ++ _)[j * 5 + i]? = _
    by_cases hj : j < k
    · rw [List.getElem?_append_left (by omega)]
      exact nvs_get f k j i hj hi
    · obtain rfl : j = k := by omega
      rw [List.getElem?_append_right (by omega), hl, Nat.add_sub_cancel_left]
theorem nvs_same {f g : Nat → Nd} : ∀ k, (∀ j, j < k → f j = g j) → nvs f k = nvs g k
  | 0, _ => rfl
  | k + 1, h => by
    show nvs f k ++ _ = nvs g k ++ _
    rw [nvs_same k (fun j hj => h j (by omega)), h k (by omega)]
theorem infoN : (Tryz.prog.info? 37).map (fun i => (i.zero, i.size, i.bytes)) = some (some (.agg #[.int .i64 0, .string ⟨#[]⟩, .string ⟨#[]⟩, .string ⟨#[]⟩, .slice none 0 0]), 5, 80) := by kernel_rfl
theorem own_lds {w : World} {base n : Nat} {v : Value} {f : Nat → Nd} (h : w.ownsRow base 37 5 v n (nvs f n)) : ∃ a c, v = .slice a n c ∧ n ≤ c ∧ c ≤ maxLen ∧ (0 < n → ∃ b off, a = some ⟨b, off, none⟩ ∧ base ≤ b ∧ ∀ j, j < n → Ld w b (off + j * 5) (f j)) := by
  rcases h.2 with ⟨rfl, rfl⟩ | ⟨g, cap, cur, rfl, h0, hg, h1, h2, h3, h4⟩
  · exact ⟨none, 0, rfl, Nat.le_refl _, by unfold maxLen; omega, fun h => by omega⟩
  · refine ⟨_, cap, rfl, by omega, h2, fun _ => ⟨g, 0, rfl, h0, fun j hj => ?_⟩⟩
    have hc : ∀ i, i < 5 → w.cell? ⟨g, j * 5 + i, none⟩ = (f j).cells[i]? := by
      intro i hi
      rw [cell_of_row _ _ _ _ _ _ hg, ← nvs_get f n j i hj hi, ← h4, List.getElem?_take_of_lt (by omega), Array.getElem?_toList]
    rw [Nat.zero_add]
    exact ⟨hc 0 (by omega), hc 1 (by omega), hc 2 (by omega), hc 3 (by omega), hc 4 (by omega)⟩
theorem own_nq {w : World} {base n : Nat} {v : Value} {f : Nat → Nd} (h : w.ownsRow base 37 5 v n (nvs f n)) (ho : ∀ j, j < n → (f j).on w) : ∃ a c, v = .slice a n c ∧ n ≤ c ∧ c ≤ maxLen ∧ Nq w a n f := by
  obtain ⟨a, c, rfl, h1, h2, h3⟩ := own_lds h
  refine ⟨a, c, rfl, h1, h2, fun hn => ?_, ho⟩
  obtain ⟨b, off, e, _, hc⟩ := h3 hn
  exact ⟨b, off, e, hc⟩
theorem own_below5 {w w' : World} {B n e : Nat} {v : Value} {xs : List Value} {s : Nat} (h : w.ownsRow B e s v n xs) (hb : Below w.heap.size w w') : w'.ownsRow B e s v n xs := by
  refine ⟨h.1, ?_⟩
  rcases h.2 with h | ⟨g, cap, cur, hv, h1, h2, h3⟩
  · exact .inl h
  · exact .inr ⟨g, cap, cur, hv, h1, (hb.block g (Array.getElem?_eq_some_iff.1 h2).1).trans h2, h3⟩
end Go.Proofs.YtljkmdmbndjngaaGreat
/-
  How many trees are below a node: of the program, and of the reference.
-/
namespace Go.Proofs.YtljkmdmbndjngaaGreat
set_option linter.unusedVariables false
set_option linter.unusedSimpArgs false
open Go.RowKit

/-- A box with a node in it. -/
def Bd (W : World) (i : Nat) (k : Int) (v a x : ByteArray) (g : Option Addr) (m c : Nat) : Prop := W.heap[i]? = some (.cells #[.int .i64 k, .string v, .string a, .string x, .slice g m c] 37 (0, 0))
section
variable {W W' : World} {i m c : Nat} {k : Int} {v a x : ByteArray} {g : Option Addr}
theorem Bd.lt (h : Bd W i k v a x g m c) : i < W.heap.size := (Array.getElem?_eq_some_iff.1 h).1
theorem Bd.c0 (h : Bd W i k v a x g m c) : W.cell? ⟨i, 0, none⟩ = some (.int .i64 k) := by rw [cell_of_row _ _ 0 _ _ _ h]; rfl
theorem Bd.c1 (h : Bd W i k v a x g m c) : W.cell? ⟨i, 1, none⟩ = some (.string v) := by rw [cell_of_row _ _ 1 _ _ _ h]; rfl
theorem Bd.c2 (h : Bd W i k v a x g m c) : W.cell? ⟨i, 2, none⟩ = some (.string a) := by rw [cell_of_row _ _ 2 _ _ _ h]; rfl
theorem Bd.c3 (h : Bd W i k v a x g m c) : W.cell? ⟨i, 3, none⟩ = some (.string x) := by rw [cell_of_row _ _ 3 _ _ _ h]; rfl
theorem Bd.c4 (h : Bd W i k v a x g m c) : W.cell? ⟨i, 4, none⟩ = some (.slice g m c) := by rw [cell_of_row _ _ 4 _ _ _ h]; rfl
theorem Bd.f (h : Bd W i k v a x g m c) (j : Nat) : W.frozen? ⟨i, j, none⟩ = false := frozen_of_row _ _ j _ _ h
theorem Bd.below (h : Bd W i k v a x g m c) {B : Nat} (hb : Below B W W') (hg : i < B) : Bd W' i k v a x g m c := (hb.block i hg).trans h
theorem Bd.on (h : Bd W i k v a x g m c) (hb : Below W.heap.size W W') : Bd W' i k v a x g m c := (hb.block i h.lt).trans h
theorem Bd.alloc (h : Bd W i k v a x g m c) (o : Obj) : Bd (W.alloc o) i k v a x g m c := (Below.heap_alloc W o i h.lt).trans h
theorem Bd.new (W : World) (k : Int) (v a x : ByteArray) (g : Option Addr) (m c : Nat) : Bd (W.alloc (.cells #[.int .i64 k, .string v, .string a, .string x, .slice g m c] 37)) W.heap.size k v a x g m c := heap_alloc_new W _
theorem box_below (W : World) (o : Obj) : Below W.heap.size W (W.alloc o) := (Below.refl _ W).alloc (Nat.le_refl _) o
end
set_option maxHeartbeats 1600000 in
theorem Kids_is (k : Int) (v a x : ByteArray) (g : Option Addr) (m c : Nat) (W : World) :
    Calls Tryz.prog 41 #[.agg #[.int .i64 k, .string v, .string a, .string x, .slice g m c]] W (ValEnd (.int .i64 (kd k v)) W) := by
  have hB := Bd.new W k v a x g m c
  have c0 := hB.c0
  have c1 := hB.c1
  have hb := Lib.hid (box_below W (.cells #[.int .i64 k, .string v, .string a, .string x, .slice g m c] 37))
  clear hB
  go_enter Tryz.func41, Tryz.ntmps41
  go_wp2_with fail
  all_goals
    go_ret
    exact ⟨by simp_all [kd], hb.out⟩
theorem kd_out {k : Int} (v : ByteArray) (h : k < 1 ∨ 8 < k) : kd k v = -1 := by
  unfold kd
  rw [if_neg (by omega), if_neg (by omega), if_neg (by omega), if_neg (by omega), if_neg (by omega)]
set_option maxHeartbeats 1600000 in
theorem rKids_is (k : Int) (v a x : ByteArray) (g : Option Addr) (m c : Nat) (W : World) :
    Calls Tryz.prog 51 #[.agg #[.int .i64 k, .string v, .string a, .string x, .slice g m c]] W (ValEnd (.int .i64 (kd k v)) W) := by
  have hB := Bd.new W k v a x g m c
  obtain ⟨W1, hW1⟩ : ∃ W1, W1 = W.alloc (.cells #[.int .i64 k, .string v, .string a, .string x, .slice g m c] 37) := ⟨_, rfl⟩
  have hB1 := (hW1 ▸ hB).alloc (.cells #[.int .i64 (-1), .int .i64 0, .int .i64 0, .int .i64 1, .int .i64 2, .int .i64 1, .int .i64 2, .int .i64 1, .int .i64 2] 3)
  rw [hW1] at hB1
  have c0 := hB1.c0
  have c1 := hB1.c1
  have hb := Lib.hid ((box_below W (.cells #[.int .i64 k, .string v, .string a, .string x, .slice g m c] 37)).alloc (by simp) (.cells #[.int .i64 (-1), .int .i64 0, .int .i64 0, .int .i64 1, .int .i64 2, .int .i64 1, .int .i64 2, .int .i64 1, .int .i64 2] 3))
  clear hB hW1 hB1 W1
  by_cases h1 : k < 1
  · go_enter Tryz.func51, Tryz.ntmps51
    go_wp2_with fail
    all_goals
      go_ret
      exact ⟨by rw [kd_out v (by omega)]; rfl, hb.out⟩
  by_cases h8 : 8 < k
  · go_enter Tryz.func51, Tryz.ntmps51
    go_wp2_with fail
    all_goals
      go_ret
      exact ⟨by rw [kd_out v (by omega)]; rfl, hb.out⟩
  have hk : k = 1 ∨ k = 2 ∨ k = 3 ∨ k = 4 ∨ k = 5 ∨ k = 6 ∨ k = 7 ∨ k = 8 := by omega
  clear h1 h8
  rcases hk with rfl | rfl | rfl | rfl | rfl | rfl | rfl | rfl
  all_goals
    go_enter Tryz.func51, Tryz.ntmps51
    go_wp2_with fail
    all_goals
      go_ret
      exact ⟨by simp_all [kd], hb.out⟩
end Go.Proofs.YtljkmdmbndjngaaGreat
/-
  Where a tree ends: of the program, and of the reference.
-/
namespace Go.Proofs.YtljkmdmbndjngaaGreat
set_option linter.unusedVariables false
set_option linter.unusedSimpArgs false
open Go.RowKit

theorem wrn {x : Int} (h1 : -9223372036854775808 ≤ x) (h2 : x ≤ 9223372036854775807) : IntKind.i64.wrap x = x := IntWalk.i64_in _ (by omega)
/-- What End tells. -/
def endV : Option Nat → Value
  | some e => .tuple #[.int .i64 (e : Int), .bool true]
  | none => .tuple #[.int .i64 0, .bool false]
theorem End_neg (a : Option Addr) (n c : Nat) (i : Int) (hi : i < 0) (W : World) : Calls Tryz.prog 17 #[.slice a n c, .int .i64 i] W (ValEnd (endV none) W) := by
  go_enter Tryz.func17, Tryz.ntmps17
  go_wp2_with fail
  go_loopw [1, 6] (fun iv mv wr => iv = .int .i64 i ∧ mv = .int .i64 1 ∧ wr = W) (fun _ _ _ => 0)
  case atStart => exact ⟨rfl, rfl, rfl⟩
  case round =>
    obtain ⟨rfl, rfl, rfl⟩ := hrel
    go_wp2_with fail
    go_ret2
    exact ⟨rfl, Below.refl _ _⟩
set_option maxHeartbeats 1600000 in
theorem End_in (a : Option Addr) (n c : Nat) (f : Nat → Nd) (p : Nat) (W : World) (h : Nq W a n f) (hn : n ≤ 1000000) (hp : p ≤ 9223372036854775807) :
    Calls Tryz.prog 17 #[.slice a n c, .int .i64 (p : Int)] W (ValEnd (endV (eN (ksF f n) 1 p)) W) := by
  obtain ⟨r, hr⟩ : ∃ r, r = eN (ksF f n) 1 p := ⟨_, rfl⟩
  rw [← hr]
  have HR := Lib.hid hr
  have H := Lib.hid h
  clear h hr
  go_enter Tryz.func17, Tryz.ntmps17
  go_wp2_with fail
  go_loopw [1, 6] (fun iv mv wr => ∃ q m : Nat, iv = .int .i64 q ∧ mv = .int .i64 m ∧ p ≤ q ∧ (p < q → q ≤ n) ∧ m ≤ 1 + 3 * (q - p) ∧ (p = q → m = 1) ∧ eN (ksF f n) m q = r ∧ Below W.heap.size W wr) (fun iv _ _ => n - (intOf iv).toNat)
  case atStart => exact ⟨p, 1, rfl, rfl, Nat.le_refl _, fun h => by omega, by omega, fun _ => rfl, HR.out.symm, Below.refl _ _⟩
  case round =>
    obtain ⟨q, m, rfl, rfl, hq, hqn, hm, hm1, he, hb⟩ := hrel
    by_cases h0 : m = 0
    · subst h0
      have e0 : ¬ (0 : Int) < ((0 : Nat) : Int) := by omega
      rw [eN_zero] at he
      subst he
      clear hq hqn hm hm1 HR H
      go_wp2_with fail
      go_ret2
      exact ⟨rfl, hb⟩
    · have e0 : (0 : Int) < (m : Int) := by omega
      have e1 : ¬ (q : Int) < 0 := by omega
      obtain ⟨m, rfl⟩ : ∃ m', m = m' + 1 := ⟨m - 1, by omega⟩
      by_cases hlt : q < n
      · have e2 : ¬ (n : Int) ≤ (q : Int) := by omega
        obtain ⟨gb, off, rfl, hc⟩ := H.out.ld (by omega)
        obtain ⟨c0, c1, c2, c3, c4⟩ := (hc q hlt).below hb (hc q hlt).lt
        rw [eN_at (ks_at hlt)] at he
        have hk := kd_le (f q).k (f q).v
        have HE := Lib.hid he
        have KK := Lib.hid (fun w => Kids_is (f q).k (f q).v (f q).a (f q).x (f q).g (f q).m (f q).c w)
        obtain ⟨z, hz⟩ : ∃ z, z = kd (f q).k (f q).v := ⟨_, rfl⟩
        rw [← hz] at KK hk HE
        clear he hc hz HR
        go_wp2_with fail
        refine (KK.out _).mono ?_
        rintro e w1 ⟨rfl, hb1⟩
        replace hb := hb.trans (hb1.mono hb.size)
        clear c0 c1 c2 c3 c4 hb1 KK
        by_cases hz0 : z < 0
        · obtain rfl : r = none := by have := HE.out; rw [if_pos hz0] at this; exact this.symm
          clear HE
          go_wp2_with fail
          go_ret2
          exact ⟨rfl, hb⟩
        · have := HE.out
          rw [if_neg hz0] at this
          have HE2 := Lib.hid this
          have w1 : IntKind.i64.wrap (z - 1) = z - 1 := wrn (by omega) (by omega)
          have w2 : IntKind.i64.wrap ((m : Int) + 1 + (z - 1)) = (m : Int) + 1 + (z - 1) := wrn (by omega) (by omega)
          have w3 : IntKind.i64.wrap ((q : Int) + 1) = (q : Int) + 1 := wrn (by omega) (by omega)
          clear this HE
          go_wp2_with fail
          refine ⟨⟨q + 1, m + z.toNat, by go_num, ?_, by omega, fun _ => by omega, by omega, fun h => by omega, HE2.out, hb⟩, by simp [intOf]; omega⟩
          congr 1
          omega
      · have e2 : (n : Int) ≤ (q : Int) := by omega
        rw [eN_out (by rw [ks_len]; omega)] at he
        subst he
        clear hq hqn hm hm1 HR H
        go_wp2_with fail
        go_ret2
        exact ⟨rfl, hb⟩
theorem rEnd_neg (a : Option Addr) (n c : Nat) (i : Int) (hi : i < 0) (W : World) : Calls Tryz.prog 30 #[.slice a n c, .int .i64 i] W (ValEnd (endV none) W) := by
  go_enter Tryz.func30, Tryz.ntmps30
  go_wp2_with fail
  go_ret2
  exact ⟨rfl, Below.refl _ _⟩
theorem rEnd_out (a : Option Addr) (n c p : Nat) (hp : n ≤ p) (W : World) : Calls Tryz.prog 30 #[.slice a n c, .int .i64 (p : Int)] W (ValEnd (endV none) W) := by
  have e1 : ¬ (p : Int) < 0 := by omega
  have e2 : (n : Int) ≤ (p : Int) := by omega
  go_enter Tryz.func30, Tryz.ntmps30
  go_wp2_with fail
  go_ret2
  exact ⟨rfl, Below.refl _ _⟩
set_option maxHeartbeats 3200000 in
theorem rEnd_all (a : Option Addr) (n c : Nat) (f : Nat → Nd) (hn : n ≤ 1000000) : ∀ N p, n - p ≤ N → ∀ W, Nq W a n f →
    Calls Tryz.prog 30 #[.slice a n c, .int .i64 (p : Int)] W (ValEnd (endV (eN (ksF f n) 1 p)) W) := by
  intro N
  induction N with
  | zero =>
    intro p hp W h
    rw [eN_out (by rw [ks_len]; omega)]
    exact rEnd_out a n c p (by omega) W
  | succ N ih =>
    intro p hp W h
    by_cases hlt : p < n
    · have e1 : ¬ (p : Int) < 0 := by omega
      have e2 : ¬ (n : Int) ≤ (p : Int) := by omega
      have H := Lib.hid h
      have IH := Lib.hid ih
      obtain ⟨gb, off, rfl, hc⟩ := h.ld (by omega)
      have HC := Lib.hid (hc p hlt)
      obtain ⟨c0, c1, c2, c3, c4⟩ := hc p hlt
      have hk := kd_le (f p).k (f p).v
      have he := eN_at (m := 0) (ks_at (f := f) hlt)
      rw [Nat.zero_add] at he
      have KK := Lib.hid (fun w => rKids_is (f p).k (f p).v (f p).a (f p).x (f p).g (f p).m (f p).c w)
      obtain ⟨z, hz⟩ : ∃ z, z = kd (f p).k (f p).v := ⟨_, rfl⟩
      rw [← hz] at KK hk he
      rw [he]
      clear ih h hc hz he
      by_cases hz0 : z < 0
      · rw [if_pos hz0]
        go_enter Tryz.func30, Tryz.ntmps30
        go_wp2_with fail
        refine (KK.out _).mono ?_
        rintro e w1 ⟨rfl, hb⟩
        clear c0 c1 c2 c3 c4
        go_wp2_with fail
        go_ret2
        exact ⟨rfl, hb⟩
      · rw [if_neg hz0]
        obtain ⟨y, rfl⟩ : ∃ y : Nat, z = y := ⟨z.toNat, by omega⟩
        have w3 : IntKind.i64.wrap ((p : Int) + 1) = (p : Int) + 1 := wrn (by omega) (by omega)
        rw [Nat.zero_add, Int.toNat_natCast]
        obtain ⟨r, hr⟩ : ∃ r, r = eN (ksF f n) y (p + 1) := ⟨_, rfl⟩
        rw [← hr]
        have HR := Lib.hid hr
        clear hr
        go_enter Tryz.func30, Tryz.ntmps30
        go_wp2_with fail
        refine (KK.out _).mono ?_
        rintro e w1 ⟨rfl, hb⟩
        clear c0 c1 c2 c3 c4
        go_wp2_with fail
        go_loopw [6, 7] (fun av kv wr => ∃ q j : Nat, av = .int .i64 q ∧ kv = .int .i64 j ∧ p < q ∧ j ≤ y ∧ eN (ksF f n) (y - j) q = r ∧ Below W.heap.size W wr) (fun _ kv _ => y - (intOf kv).toNat)
        case atStart => exact ⟨p + 1, 0, by go_num, rfl, by omega, by omega, HR.out.symm, hb⟩
        case round =>
          obtain ⟨q, j, rfl, rfl, hq, hj, he, hb⟩ := hrel
          obtain ⟨c0, c1, c2, c3, c4⟩ := HC.out.below hb HC.out.lt
          have HQ := Lib.hid he
          clear he
          go_wp2_with fail
          refine (KK.out _).mono ?_
          rintro e w2 ⟨rfl, hb1⟩
          replace hb := hb.trans (hb1.mono hb.size)
          clear c0 c1 c2 c3 c4 hb1
          by_cases hjy : j < y
          · have e3 : (j : Int) < (y : Int) := by omega
            have KE := IH.out q (by omega) w2 (H.out.below hb)
            have he := HQ.out
            rw [show y - j = 1 + (y - (j + 1)) by omega, eN_sum] at he
            cases hr1 : eN (ksF f n) 1 q with
            | none =>
              rw [hr1] at he KE
              obtain rfl : r = none := he.symm
              have KE2 := Lib.hid KE
              clear KE he hr1
              go_wp2_with fail
              refine KE2.out.mono ?_
              rintro e w3 ⟨rfl, hb1⟩
              replace hb := hb.trans (hb1.mono hb.size)
              unfold endV
              go_wp2_with fail
              go_ret2
              exact ⟨rfl, hb⟩
            | some q2 =>
              rw [hr1] at he KE
              have KE2 := Lib.hid KE
              have HE := Lib.hid he
              have h2 : p < q2 := by
                obtain ⟨d, hd⟩ := Fd.ex hr1
                have := hd.le.1
                omega
              clear KE he hr1
              go_wp2_with fail
              refine KE2.out.mono ?_
              rintro e w3 ⟨rfl, hb1⟩
              replace hb := hb.trans (hb1.mono hb.size)
              unfold endV
              go_wp2_with fail
              refine ⟨⟨q2, j + 1, rfl, by go_num, h2, by omega, HE.out, hb⟩, by simp [intOf]; omega⟩
          · have e3 : ¬ (j : Int) < (y : Int) := by omega
            obtain rfl : j = y := by omega
            have he := HQ.out
            rw [Nat.sub_self, eN_zero] at he
            subst he
            go_wp2_with fail
            go_ret2
            exact ⟨rfl, hb⟩
    · rw [eN_out (by rw [ks_len]; omega)]
      exact rEnd_out a n c p (by omega) W
/-- Where the tree at a place ends. -/
def enI (K : List Int) (i : Int) : Option Nat := if i < 0 then none else eN K 1 i.toNat
theorem enI_nat (K : List Int) (p : Nat) : enI K (p : Int) = eN K 1 p := by
  unfold enI
  rw [if_neg (by omega), Int.toNat_natCast]
theorem End_is (a : Option Addr) (n c : Nat) (f : Nat → Nd) (i : Int) (W : World) (h : Nq W a n f) (hn : n ≤ 1000000) (hi : i ≤ 9223372036854775807) :
    Calls Tryz.prog 17 #[.slice a n c, .int .i64 i] W (ValEnd (endV (enI (ksF f n) i)) W) := by
  by_cases h0 : i < 0
  · unfold enI
    rw [if_pos h0]
    exact End_neg a n c i h0 W
  · obtain ⟨p, rfl⟩ : ∃ p : Nat, i = p := ⟨i.toNat, by omega⟩
    rw [enI_nat]
    exact End_in a n c f p W h hn (by omega)
theorem rEnd_is (a : Option Addr) (n c : Nat) (f : Nat → Nd) (i : Int) (W : World) (h : Nq W a n f) (hn : n ≤ 1000000) :
    Calls Tryz.prog 30 #[.slice a n c, .int .i64 i] W (ValEnd (endV (enI (ksF f n) i)) W) := by
  by_cases h0 : i < 0
  · unfold enI
    rw [if_pos h0]
    exact rEnd_neg a n c i h0 W
  · obtain ⟨p, rfl⟩ : ∃ p : Nat, i = p := ⟨i.toNat, by omega⟩
    rw [enI_nat]
    exact rEnd_all a n c f hn _ p (Nat.le_refl _) W h
end Go.Proofs.YtljkmdmbndjngaaGreat
/-
  Where the trees below a node begin: of the program, and of the reference; whether two lists of places are the same.
-/
namespace Go.Proofs.YtljkmdmbndjngaaGreat
set_option linter.unusedVariables false
set_option linter.unusedSimpArgs false
open Go.RowKit

theorem eN_one {K : List Int} {m p e : Nat} (h : eN K (m + 1) p = some e) : ∃ q, eN K 1 p = some q ∧ eN K m q = some e ∧ p < q ∧ q ≤ e ∧ un K (m + 1) p = p :: un K m q := by
  rw [Nat.add_comm, eN_sum, Option.bind_eq_some_iff] at h
  obtain ⟨q, h1, h2⟩ := h
  obtain ⟨d1, g1⟩ := Fd.ex h1
  obtain ⟨d2, g2⟩ := Fd.ex h2
  have := g1.le.1
  have := g2.le.1
  exact ⟨q, h1, h2, by omega, by omega, un_cons h1⟩
/-- Places in a row. -/
def vn (l : List Nat) : List Value := l.map fun x : Nat => Value.int .i64 (x : Int)
theorem vn_len (l : List Nat) : (vn l).length = l.length := by simp [vn]
/-- A slice of places, read. -/
def Pl (W : World) (a : Option Addr) (l : List Nat) : Prop := 0 < l.length → ∃ b off, a = some ⟨b, off, none⟩ ∧ ∀ (j x : Nat), l[j]? = some x → W.cell? ⟨b, off + j, none⟩ = some (.int .i64 (x : Int))
theorem Pl.below {W W' : World} {a : Option Addr} {l : List Nat} (h : Pl W a l) (hb : Below W.heap.size W W') : Pl W' a l := by
  intro hn
  obtain ⟨b, off, e, hc⟩ := h hn
  exact ⟨b, off, e, fun j x hj => (hb.cell (show (⟨b, off + j, none⟩ : Addr).block < W.heap.size from World.block_lt_of_cell? W _ (hc j x hj))).trans (hc j x hj)⟩
theorem own_pl {w : World} {base : Nat} {v : Value} {l : List Nat} {n : Nat} (h : w.ownsRow base 3 1 v n (vn l)) : l.length = n ∧ ∃ a c, v = .slice a n c ∧ n ≤ c ∧ c ≤ maxLen ∧ Pl w a l := by
  have hl : l.length = n := by have := h.1; rw [vn_len, Nat.mul_one] at this; exact this
  refine ⟨hl, ?_⟩
  rcases h.2 with ⟨rfl, rfl⟩ | ⟨g, cap, cur, rfl, h0, hg, h1, h2, h3, h4⟩
  · exact ⟨none, 0, rfl, Nat.le_refl _, by unfold maxLen; omega, fun h => by omega⟩
  · refine ⟨_, cap, rfl, by omega, h2, fun _ => ⟨g, 0, rfl, fun j x hj => ?_⟩⟩
    have hj2 := (List.getElem?_eq_some_iff.1 hj).1
    rw [Nat.zero_add, cell_of_row _ _ _ _ _ _ hg, ← Array.getElem?_toList]
    have e : cur.toList[j]? = (cur.toList.take (n * 1))[j]? := by rw [List.getElem?_take_of_lt (by omega)]
    rw [e, h4]
    simp [vn, hj]
/-- What Under tells. -/
def UnEnd (l : List Nat) (W : World) (e : Ending) (W' : World) : Prop := ∃ a c, e = .returned (.slice a l.length c) ∧ l.length ≤ c ∧ c ≤ maxLen ∧ Pl W' a l ∧ Below W.heap.size W W'
def unI (K : List Int) (i : Int) : List Nat :=
  match enI K i with
  | none => []
  | some _ => un K ((K.getD i.toNat 0).toNat) (i.toNat + 1)
theorem UnEnd.none_ {W W' : World} (hb : Below W.heap.size W W') : UnEnd [] W (.returned (.slice none 0 0)) W' := ⟨none, 0, rfl, Nat.le_refl _, by unfold maxLen; omega, fun h => by simp at h, hb⟩
theorem UnEnd.own {w W : World} {v : Value} {l xs : List Nat} {n : Nat} (h : w.ownsRow W.heap.size 3 1 v n (vn xs)) (he : l = xs) (hb : Below W.heap.size W w) : UnEnd l W (.returned v) w := by
  subst he
  obtain ⟨rfl, a, c, rfl, h1, h2, h3⟩ := own_pl h
  exact ⟨a, c, rfl, h1, h2, h3, hb⟩
theorem tree_at {K : List Int} {p e : Nat} (h : eN K 1 p = some e) : ∃ y : Nat, K[p]? = some (y : Int) ∧ eN K y (p + 1) = some e ∧ p < e ∧ e ≤ K.length ∧ unI K p = un K y (p + 1) := by
  obtain ⟨d, hd⟩ := Fd.ex h
  have hl := hd.lt (by omega)
  have hle := hd.le
  obtain ⟨k, q, d1, d2, hk, h0, g1, _, g2, _⟩ := hd.inv
  obtain ⟨rfl, _⟩ := g2.inv0
  obtain ⟨y, rfl⟩ : ∃ y : Nat, k = y := ⟨k.toNat, by omega⟩
  refine ⟨y, hk, g1.ends, by omega, hle.2 (by omega), ?_⟩
  unfold unI
  rw [enI_nat, h]
  show un K _ _ = _
  rw [Int.toNat_natCast, List.getD_eq_getElem?_getD, hk, Option.getD_some, Int.toNat_natCast]
theorem infoI : (Tryz.prog.info? 3).map (fun i => (i.zero, i.size, i.bytes)) = some (some (.int .i64 0), 1, 8) := by kernel_rfl
set_option maxHeartbeats 3200000 in
theorem Under_is (a : Option Addr) (n c : Nat) (f : Nat → Nd) (i : Int) (W : World) (h : Nq W a n f) (hn : n ≤ 1000000) (hi : i ≤ 9223372036854775807) :
    Calls Tryz.prog 29 #[.slice a n c, .int .i64 i] W (UnEnd (unI (ksF f n) i) W) := by
  have KE := End_is a n c f i W h hn hi
  cases he : enI (ksF f n) i with
  | none =>
    rw [he] at KE
    replace KE := Lib.hid KE
    unfold unI
    rw [he]
    clear he
    go_enter Tryz.func29, Tryz.ntmps29
    go_wp2_with fail
    refine KE.out.mono ?_
    rintro e w1 ⟨rfl, hb⟩
    unfold endV
    go_wp2_with fail
    go_ret
    exact .none_ hb
  | some e =>
    have h0 : ¬ i < 0 := by
      intro h0
      unfold enI at he
      rw [if_pos h0] at he
      cases he
    obtain ⟨p, rfl⟩ : ∃ p : Nat, i = p := ⟨i.toNat, by omega⟩
    rw [he] at KE
    replace KE := Lib.hid KE
    rw [enI_nat] at he
    obtain ⟨y, hk, he2, hpe, hen, hu⟩ := tree_at he
    rw [ks_len] at hen
    have hlt : p < n := by omega
    rw [ks_at hlt] at hk
    injection hk with hk
    rw [hu]
    have hy : (y : Int) ≤ 3 := by rw [← hk]; exact (kd_le _ _).2
    have H := Lib.hid h
    obtain ⟨gb, off, rfl, hc⟩ := h.ld (by omega)
    have HC := Lib.hid (hc p hlt)
    have KK := Lib.hid (fun w => Kids_is (f p).k (f p).v (f p).a (f p).x (f p).g (f p).m (f p).c w)
    rw [hk] at KK
    have HE := Lib.hid he2
    have e1 : (p : Int) < (n : Int) := by omega
    have w3 : IntKind.i64.wrap ((p : Int) + 1) = (p : Int) + 1 := wrn (by omega) (by omega)
    clear h hc hk he2 he hu
    go_enter Tryz.func29, Tryz.ntmps29
    go_wp2_with fail
    refine KE.out.mono ?_
    rintro e' w1 ⟨rfl, hb⟩
    obtain ⟨c0, c1, c2, c3, c4⟩ := HC.out.below hb HC.out.lt
    unfold endV
    clear KE
    go_wp2_with fail
    refine (KK.out _).mono ?_
    rintro e' w2 ⟨rfl, hb1⟩
    replace hb := hb.trans (hb1.mono hb.size)
    clear c0 c1 c2 c3 c4 hb1 KK HC
    go_wp2_with fail
    go_loopw [7, 8, 24] (fun bv av kv wr => ∃ (q j : Nat) (xs : List Nat), av = .int .i64 q ∧ kv = .int .i64 j ∧ j ≤ y ∧ un (ksF f n) y (p + 1) = xs ++ un (ksF f n) (y - j) q ∧ eN (ksF f n) (y - j) q = some e ∧ wr.ownsRow W.heap.size 3 1 bv j (vn xs) ∧ Below W.heap.size W wr) (fun _ _ kv _ => y - (intOf kv).toNat)
    case atStart => exact ⟨p + 1, 0, [], by go_num, rfl, by omega, rfl, HE.out, ⟨rfl, .inl ⟨rfl, rfl⟩⟩, hb⟩
    case round =>
      clear hb
      obtain ⟨q, j, xs, rfl, rfl, hj, hu, he, ho, hb⟩ := hrel
      by_cases hjy : j < y
      · have e3 : (j : Int) < (y : Int) := by omega
        rw [show y - j = (y - (j + 1)) + 1 by omega] at hu he
        obtain ⟨q2, he1, he2, hq, hqe, hu2⟩ := eN_one he
        rw [hu2] at hu
        have KE := Lib.hid (fun w hw => he1 ▸ End_in (some ⟨gb, off, none⟩) n c f q w hw hn (by omega))
        have HU := Lib.hid hu
        have HE2 := Lib.hid he2
        have hsz := hb.size
        clear he hu hu2 he1 he2 HE
        obtain ⟨i0, hi, hz0, hz1, hz2⟩ := info_parts infoI
        go_wp2_with (at_builtin; refine wpList_append_own _ rfl (.tmp 26) (.tmp 28) 54 rfl W.heap.size 3 i0 (.int .i64 0) 1 8 Tryz.underlying54 hi hz0 hz1 hz2 rfl (by decide) _ _ _ rfl (ho.alloc _) ⟨wr.heap.size, 0, none⟩ 1 1 [.int .i64 q] rfl rfl ?c1 ?c2 ?c3 ?c4 ?c5 ?_)
        case c1 =>
          intro k u hk
          rw [Go.WideShapes.add_plain, Nat.zero_add, cell_of_row _ _ _ _ _ _ (heap_alloc_new wr _), ← hk, ← Array.getElem?_toList]
        case c2 => intro u hu; simp at hu; rcases hu with rfl; rfl
        case c3 => unfold maxLen; omega
        case c4 => omega
        case c5 => simp; omega
        intro v' w3 hown' hgrow hnn'
        have hb' : Below W.heap.size W w3 := (hb.alloc hsz _).grown hgrow (by simp; omega) (fun k hk => (ho.lt k hk).1)
        have HO := Lib.hid hown'
        have KE2 := Lib.hid (KE.out w3 (H.out.below hb'))
        clear hgrow ho hb hnn' hown' hsz KE
        go_wp2_with fail
        refine KE2.out.mono ?_
        rintro e' w4 ⟨rfl, hb1⟩
        have HO2 := Lib.hid (own_below5 HO.out hb1)
        replace hb' := hb'.trans (hb1.mono hb'.size)
        unfold endV
        clear hb1 KE2 HO
        go_wp2_with fail
        refine ⟨⟨q2, j + 1, xs ++ [q], rfl, by go_num, by omega, by rw [List.append_assoc]; exact HU.out, HE2.out, by have := HO2.out; unfold vn at this ⊢; rw [List.map_append]; exact this, hb'⟩, by simp [intOf]; omega⟩
      · have e3 : ¬ (j : Int) < (y : Int) := by omega
        obtain rfl : j = y := by omega
        rw [Nat.sub_self] at hu
        have HU := Lib.hid hu
        clear hu he HE
        go_wp2_with fail
        go_ret
        exact .own ho (HU.out.trans (List.append_nil _)) hb
set_option maxHeartbeats 3200000 in
theorem rUnder_is (a : Option Addr) (n c : Nat) (f : Nat → Nd) (i : Int) (W : World) (h : Nq W a n f) (hn : n ≤ 1000000) :
    Calls Tryz.prog 33 #[.slice a n c, .int .i64 i] W (UnEnd (unI (ksF f n) i) W) := by
  have KE := rEnd_is a n c f i W h hn
  cases he : enI (ksF f n) i with
  | none =>
    rw [he] at KE
    replace KE := Lib.hid KE
    unfold unI
    rw [he]
    clear he
    go_enter Tryz.func33, Tryz.ntmps33
    go_wp2_with fail
    refine KE.out.mono ?_
    rintro e w1 ⟨rfl, hb⟩
    unfold endV
    go_wp2_with fail
    go_ret
    exact .none_ hb
  | some e =>
    have h0 : ¬ i < 0 := by
      intro h0
      unfold enI at he
      rw [if_pos h0] at he
      cases he
    obtain ⟨p, rfl⟩ : ∃ p : Nat, i = p := ⟨i.toNat, by omega⟩
    rw [he] at KE
    replace KE := Lib.hid KE
    rw [enI_nat] at he
    obtain ⟨y, hk, he2, hpe, hen, hu⟩ := tree_at he
    rw [ks_len] at hen
    have hlt : p < n := by omega
    rw [ks_at hlt] at hk
    injection hk with hk
    rw [hu]
    have hy : (y : Int) ≤ 3 := by rw [← hk]; exact (kd_le _ _).2
    have H := Lib.hid h
    obtain ⟨gb, off, rfl, hc⟩ := h.ld (by omega)
    have HC := Lib.hid (hc p hlt)
    have KK := Lib.hid (fun w => rKids_is (f p).k (f p).v (f p).a (f p).x (f p).g (f p).m (f p).c w)
    rw [hk] at KK
    have HE := Lib.hid he2
    have e1 : (p : Int) < (n : Int) := by omega
    have w3 : IntKind.i64.wrap ((p : Int) + 1) = (p : Int) + 1 := wrn (by omega) (by omega)
    clear h hc hk he2 he hu
    go_enter Tryz.func33, Tryz.ntmps33
    go_wp2_with fail
    refine KE.out.mono ?_
    rintro e' w1 ⟨rfl, hb⟩
    unfold endV
    clear KE
    go_wp2_with fail
    go_loopw [5, 8, 9] (fun bv av kv wr => ∃ (q j : Nat) (xs : List Nat), av = .int .i64 q ∧ kv = .int .i64 j ∧ j ≤ y ∧ un (ksF f n) y (p + 1) = xs ++ un (ksF f n) (y - j) q ∧ eN (ksF f n) (y - j) q = some e ∧ wr.ownsRow W.heap.size 3 1 bv j (vn xs) ∧ Below W.heap.size W wr) (fun _ _ kv _ => y - (intOf kv).toNat)
    case atStart => exact ⟨p + 1, 0, [], by go_num, rfl, by omega, rfl, HE.out, ⟨rfl, .inl ⟨rfl, rfl⟩⟩, hb⟩
    case round =>
      clear hb
      obtain ⟨q, j, xs, rfl, rfl, hj, hu, he, ho, hb⟩ := hrel
      have HU0 := Lib.hid hu
      have HQ0 := Lib.hid he
      obtain ⟨c0, c1, c2, c3, c4⟩ := HC.out.below hb HC.out.lt
      clear hu he
      go_wp2_with fail
      refine (KK.out _).mono ?_
      rintro e' w2 ⟨rfl, hb1⟩
      replace ho := own_below5 ho hb1
      replace hb := hb.trans (hb1.mono hb.size)
      have hu := HU0.out
      have he := HQ0.out
      clear c0 c1 c2 c3 c4 hb1 KK HC HU0 HQ0
      by_cases hjy : j < y
      · have e3 : (j : Int) < (y : Int) := by omega
        rw [show y - j = (y - (j + 1)) + 1 by omega] at hu he
        obtain ⟨q2, he1, he2, hq, hqe, hu2⟩ := eN_one he
        rw [hu2] at hu
        have KE := Lib.hid (fun w hw => he1 ▸ rEnd_all (some ⟨gb, off, none⟩) n c f hn _ q (Nat.le_refl _) w hw)
        have HU := Lib.hid hu
        have HE2 := Lib.hid he2
        have hsz := hb.size
        clear he hu hu2 he1 he2 HE
        obtain ⟨i0, hi, hz0, hz1, hz2⟩ := info_parts infoI
        go_wp2_with (at_builtin; refine wpList_append_own _ rfl (.tmp 31) (.tmp 33) 54 rfl W.heap.size 3 i0 (.int .i64 0) 1 8 Tryz.underlying54 hi hz0 hz1 hz2 rfl (by decide) _ _ _ rfl (ho.alloc _) ⟨w2.heap.size, 0, none⟩ 1 1 [.int .i64 q] rfl rfl ?c1 ?c2 ?c3 ?c4 ?c5 ?_)
        case c1 =>
          intro k u hk
          rw [Go.WideShapes.add_plain, Nat.zero_add, cell_of_row _ _ _ _ _ _ (heap_alloc_new w2 _), ← hk, ← Array.getElem?_toList]
        case c2 => intro u hu; simp at hu; rcases hu with rfl; rfl
        case c3 => unfold maxLen; omega
        case c4 => omega
        case c5 => simp; omega
        intro v' w3 hown' hgrow hnn'
        have hb' : Below W.heap.size W w3 := (hb.alloc hsz _).grown hgrow (by simp; omega) (fun k hk => (ho.lt k hk).1)
        have HO := Lib.hid hown'
        have KE2 := Lib.hid (KE.out w3 (H.out.below hb'))
        clear hgrow ho hb hnn' hown' hsz KE
        go_wp2_with fail
        refine KE2.out.mono ?_
        rintro e' w4 ⟨rfl, hb1⟩
        have HO2 := Lib.hid (own_below5 HO.out hb1)
        replace hb' := hb'.trans (hb1.mono hb'.size)
        unfold endV
        clear hb1 KE2 HO
        go_wp2_with fail
        refine ⟨⟨q2, j + 1, xs ++ [q], rfl, by go_num, by omega, by rw [List.append_assoc]; exact HU.out, HE2.out, by have := HO2.out; unfold vn at this ⊢; rw [List.map_append]; exact this, hb'⟩, by simp [intOf]; omega⟩
      · have e3 : ¬ (j : Int) < (y : Int) := by omega
        obtain rfl : j = y := by omega
        rw [Nat.sub_self] at hu
        have HU := Lib.hid hu
        clear hu he HE
        go_wp2_with fail
        go_ret
        exact .own ho (HU.out.trans (List.append_nil _)) hb
end Go.Proofs.YtljkmdmbndjngaaGreat
/-
  A map from numbers to functions, in memory: one entry more, an entry read; what prints tells.
-/
namespace Go.Proofs.YtljkmdmbndjngaaGreat
set_option linter.unusedVariables false
set_option linter.unusedSimpArgs false
open Go.RowKit Go.Maps Go.MapKept
open Go.ChangeMaps (setBlock heap_setBlock_same heap_setBlock_other)

/-- Block b is a map with these entries, in this order. -/
def Tq (W : World) (b : Nat) (l : List (Int × Value)) : Prop := ∃ es clock, W.heap[b]? = some (.map es clock) ∧ es.toList.map (fun e => (e.key, e.val)) = l.map (fun p => (Value.int .i64 p.1, p.2))
theorem Tq.lt {W : World} {b : Nat} {l : List (Int × Value)} (h : Tq W b l) : b < W.heap.size := by
  obtain ⟨es, clock, hb, _⟩ := h
  exact (Array.getElem?_eq_some_iff.1 hb).1
theorem Tq.below {W W' : World} {b : Nat} {l : List (Int × Value)} (h : Tq W b l) (hb : Below W.heap.size W W') : Tq W' b l := by
  have hlt := h.lt
  obtain ⟨es, clock, he, hm⟩ := h
  exact ⟨es, clock, (hb.block b hlt).trans he, hm⟩
theorem Tq.made (W : World) : Tq (W.alloc (.map #[] 0)) W.heap.size [] := ⟨#[], 0, (MapKept.heap_alloc W _).1, rfl⟩
theorem Tq.mem {es : Array MapEntry} {l : List (Int × Value)} (h : es.toList.map (fun e => (e.key, e.val)) = l.map (fun p => (Value.int .i64 p.1, p.2))) {e : MapEntry} (he : e ∈ es.toList) : ∃ p ∈ l, e.key = .int .i64 p.1 ∧ e.val = p.2 := by
  have g : (e.key, e.val) ∈ es.toList.map (fun e => (e.key, e.val)) := List.mem_map.2 ⟨e, he, rfl⟩
  rw [h] at g
  obtain ⟨p, hp, e1⟩ := List.mem_map.1 g
  injection e1 with e1 e2
  exact ⟨p, hp, e1.symm, e2.symm⟩
theorem Tq.put {P : Program} {w : World} {t k e : TypeId} {b : Nat} {l : List (Int × Value)} (ht : P.underlying t = some (.map k e)) (hk : P.underlying k = some (.int .i64)) (h : Tq w b l) {x : Int} (hw : (Lit.int .i64 x).wf = true) (v : Value)
    (hl : ∀ p ∈ l, (Lit.int .i64 p.1).wf = true) (hx : ∀ p ∈ l, p.1 ≠ x) : ∃ w', (Instr.mapUpdate t (.map (some b)) (.int .i64 x) v).run P w = .ok () w' ∧ Tq w' b (l ++ [(x, v)]) ∧ w.grownBy w' (some b) := by
  obtain ⟨es, clock, hb, hm⟩ := h
  have K := int_keyed hk
  have hkey := keyOf_int_mk hk hw
  rcases K.find w hkey es.toList (fun y hy => by
    obtain ⟨p, hp, e1, _⟩ := Tq.mem hm hy
    exact ⟨_, by rw [e1]; exact keyOf_int_mk hk (hl p hp)⟩) with ⟨h1, h2⟩ | ⟨j, e0, h1, h2, h3⟩
  · refine ⟨setBlock w b (.map (es.push ⟨.int .i64 x, v, clock⟩) (clock + 1)), ?_, ⟨_, _, heap_setBlock_same hb _, ?_⟩, ⟨rfl, rfl, rfl, by simp [setBlock], fun i _ hi => heap_setBlock_other hb _ (fun e => hi (by rw [e]))⟩⟩
    · simp [Instr.mapUpdate, run_underlying ht, MapKept.run_getObj_map hb, K.check w false hkey, h1, MapKept.run_setObj_map _ hb, Result.andThen, setBlock]
    · rw [Array.toList_push, List.map_append, List.map_append, hm]; rfl
  · exfalso
    obtain ⟨p, hp, e1, _⟩ := Tq.mem hm (List.mem_of_getElem? h2)
    rw [h3] at e1
    injection e1 with _ e1
    exact hx p hp e1.symm
theorem Tq.look {P : Program} {w : World} {t k e : TypeId} {b : Nat} {l : List (Int × Value)} (ht : P.underlying t = some (.map k e)) (hk : P.underlying k = some (.int .i64)) (h : Tq w b l) {x : Int} (hw : (Lit.int .i64 x).wf = true) {v : Value}
    (hl : ∀ p ∈ l, (Lit.int .i64 p.1).wf = true) (hm : (x, v) ∈ l) (hu : ∀ p ∈ l, p.1 = x → p.2 = v) : (Instr.lookup t (.map (some b)) (.int .i64 x) false).run P w = .ok v w := by
  obtain ⟨es, clock, hb, he⟩ := h
  have K := int_keyed hk
  have hkey := keyOf_int_mk hk hw
  rcases K.find w hkey es.toList (fun y hy => by
    obtain ⟨p, hp, e1, _⟩ := Tq.mem he hy
    exact ⟨_, by rw [e1]; exact keyOf_int_mk hk (hl p hp)⟩) with ⟨h1, h2⟩ | ⟨j, e0, h1, h2, h3⟩
  · exfalso
    have g : ((Value.int .i64 x, v) : Value × Value) ∈ l.map (fun p => (Value.int .i64 p.1, p.2)) := List.mem_map.2 ⟨_, hm, rfl⟩
    rw [← he] at g
    obtain ⟨y, hy, e1⟩ := List.mem_map.1 g
    injection e1 with e1 _
    exact h2 y hy e1
  · obtain ⟨p, hp, e1, e2⟩ := Tq.mem he (List.mem_of_getElem? h2)
    rw [h3] at e1
    injection e1 with _ e1
    have hv : e0.val = v := e2.trans (hu p hp e1.symm)
    simp [Instr.lookup, run_underlying ht, MapKept.run_getObj_map hb, K.check w _ hkey, h1, Result.andThen, hv]
/-- An entry of a map's literal, at the operation. -/
theorem wpList_ins {P : Program} (w : World) {ops : Array Oper} {rest : List Oper} {o : Oper} {a : Act} {Q : Exit → Act → World → Prop}
    (hg : o.guard = none) (m x v : Operand) (t : TypeId) (hop : o.op = Op.insert t m x v) (k e : TypeId) (ht : P.underlying t = some (.map k e)) (hk : P.underlying k = some (.int .i64)) (b : Nat) (l : List (Int × Value))
    (hm : a.eval m = .map (some b)) (h : Tq w b l) (z : Int) (u : Value) (hx : a.eval x = .int .i64 z) (hv : a.eval v = u) (hw : (Lit.int .i64 z).wf = true) (hl : ∀ p ∈ l, (Lit.int .i64 p.1).wf = true) (hne : ∀ p ∈ l, p.1 ≠ z)
    (hK : ∀ w', Tq w' b (l ++ [(z, u)]) → w.grownBy w' (some b) → wpList P ops Q rest (a.put o.dst undef) w') : wpList P ops Q (o :: rest) a w := by
  refine wpList_plain hg fun K' hK' => ?_
  obtain ⟨w', hrun, r1, r2⟩ := h.put ht hk hw u hl hne
  unfold Oper.wp
  simp [execOp, hop, hm, hx, hv, hrun, Result.andThen]
  exact hK' _ _ (hK w' r1 r2)
/-- How nodes of each kind are printed. -/
def FL : List (Int × Value) := [(1, .func (.func 21) #[] #[]), (2, .func (.func 22) #[] #[]), (3, .func (.func 23) #[] #[]), (4, .func (.func 24) #[] #[]),
  (5, .func (.func 25) #[] #[]), (6, .func (.func 26) #[] #[]), (7, .func (.func 27) #[] #[]), (8, .func (.func 28) #[] #[])]
theorem below_grown {B b : Nat} {w0 w w' : World} (h : Below B w0 w) (hg : w.grownBy w' (some b)) (hB : B ≤ b) (hs : B ≤ w.heap.size) : Below B w0 w' :=
  ⟨hg.os.trans h.os, hg.tape.trans h.tape, hg.output.trans h.output, Nat.le_trans h.size hg.size, fun i hi => (hg.block i (by omega) (fun e => by injection e with e; omega)).trans (h.block i hi)⟩
set_option maxHeartbeats 1600000 in
set_option maxRecDepth 100000 in
theorem prints_is (W : World) : Calls Tryz.prog 11 #[] W fun e W' => ∃ b, e = .returned (.map (some b)) ∧ W.heap.size ≤ b ∧ Tq W' b FL ∧ Below W.heap.size W W' := by
  have hmm := @run_makeMap Tryz.prog
  have hT := Tq.made W
  have hB : Below W.heap.size W (W.alloc (.map #[] 0)) := (Below.refl _ _).alloc (Nat.le_refl _) _
  go_enter Tryz.func11, Tryz.ntmps11
  go_wp2_with (first
    | (refine wpList_ins _ rfl _ _ _ 38 rfl 3 52 Tryz.underlying38 Tryz.underlying3 W.heap.size [] rfl hT 1 (.func (.func 21) #[] #[]) rfl rfl (by decide) (by simp; try decide) (by simp) ?_; clear hT; intro w1 hT hg; replace hB := below_grown hB hg (Nat.le_refl _) hB.size; clear hg)
    | (refine wpList_ins _ rfl _ _ _ 38 rfl 3 52 Tryz.underlying38 Tryz.underlying3 W.heap.size [(1, .func (.func 21) #[] #[])] rfl hT 2 (.func (.func 22) #[] #[]) rfl rfl (by decide) (by simp; try decide) (by simp) ?_; clear hT; intro w1 hT hg; replace hB := below_grown hB hg (Nat.le_refl _) hB.size; clear hg)
    | (refine wpList_ins _ rfl _ _ _ 38 rfl 3 52 Tryz.underlying38 Tryz.underlying3 W.heap.size [(1, .func (.func 21) #[] #[]), (2, .func (.func 22) #[] #[])] rfl hT 3 (.func (.func 23) #[] #[]) rfl rfl (by decide) (by simp; try decide) (by simp) ?_; clear hT; intro w1 hT hg; replace hB := below_grown hB hg (Nat.le_refl _) hB.size; clear hg)
    | (refine wpList_ins _ rfl _ _ _ 38 rfl 3 52 Tryz.underlying38 Tryz.underlying3 W.heap.size [(1, .func (.func 21) #[] #[]), (2, .func (.func 22) #[] #[]), (3, .func (.func 23) #[] #[])] rfl hT 4 (.func (.func 24) #[] #[]) rfl rfl (by decide) (by simp; try decide) (by simp) ?_; clear hT; intro w1 hT hg; replace hB := below_grown hB hg (Nat.le_refl _) hB.size; clear hg)
    | (refine wpList_ins _ rfl _ _ _ 38 rfl 3 52 Tryz.underlying38 Tryz.underlying3 W.heap.size [(1, .func (.func 21) #[] #[]), (2, .func (.func 22) #[] #[]), (3, .func (.func 23) #[] #[]), (4, .func (.func 24) #[] #[])] rfl hT 5 (.func (.func 25) #[] #[]) rfl rfl (by decide) (by simp; try decide) (by simp) ?_; clear hT; intro w1 hT hg; replace hB := below_grown hB hg (Nat.le_refl _) hB.size; clear hg)
    | (refine wpList_ins _ rfl _ _ _ 38 rfl 3 52 Tryz.underlying38 Tryz.underlying3 W.heap.size [(1, .func (.func 21) #[] #[]), (2, .func (.func 22) #[] #[]), (3, .func (.func 23) #[] #[]), (4, .func (.func 24) #[] #[]), (5, .func (.func 25) #[] #[])] rfl hT 6 (.func (.func 26) #[] #[]) rfl rfl (by decide) (by simp; try decide) (by simp) ?_; clear hT; intro w1 hT hg; replace hB := below_grown hB hg (Nat.le_refl _) hB.size; clear hg)
    | (refine wpList_ins _ rfl _ _ _ 38 rfl 3 52 Tryz.underlying38 Tryz.underlying3 W.heap.size [(1, .func (.func 21) #[] #[]), (2, .func (.func 22) #[] #[]), (3, .func (.func 23) #[] #[]), (4, .func (.func 24) #[] #[]), (5, .func (.func 25) #[] #[]), (6, .func (.func 26) #[] #[])] rfl hT 7 (.func (.func 27) #[] #[]) rfl rfl (by decide) (by simp; try decide) (by simp) ?_; clear hT; intro w1 hT hg; replace hB := below_grown hB hg (Nat.le_refl _) hB.size; clear hg)
    | (refine wpList_ins _ rfl _ _ _ 38 rfl 3 52 Tryz.underlying38 Tryz.underlying3 W.heap.size [(1, .func (.func 21) #[] #[]), (2, .func (.func 22) #[] #[]), (3, .func (.func 23) #[] #[]), (4, .func (.func 24) #[] #[]), (5, .func (.func 25) #[] #[]), (6, .func (.func 26) #[] #[]), (7, .func (.func 27) #[] #[])] rfl hT 8 (.func (.func 28) #[] #[]) rfl rfl (by decide) (by simp; try decide) (by simp) ?_; clear hT; intro w1 hT hg; replace hB := below_grown hB hg (Nat.le_refl _) hB.size; clear hg)
    | fail)
  go_ret
  exact ⟨_, rfl, Nat.le_refl _, hT, hB⟩
end Go.Proofs.YtljkmdmbndjngaaGreat

/-
  Nodes in memory: a node's five cells, slices of nodes read by a function, parts of them, rows of the call's own.
-/
import Derived.Test.YtiopemimancliaaYa
import Derived.Test.YtiopemimancliaaProg
import Derived.Laws.AppendOwn
import Derived.WideShapes
import Derived.Lib.Hide
import Derived.WalkKit
import Derived.WalkSpells
import Derived.WalkLawsBesides
import Derived.Lib.Slices
import Derived.BigCall
import Derived.BigGuard
namespace Go.Proofs.Ytiopemimancliaa
open Go.RowKit

def ValEnd (v : Value) (W : World) (e : Ending) (W' : World) : Prop := e = .returned v ∧ Below W.heap.size W W'
/-- A slice of strings, read. -/
def St (W : World) (a : Option Addr) (n : Nat) (l : List ByteArray) : Prop :=
  l.length = n ∧ (0 < n → ∃ b off, a = some ⟨b, off, none⟩ ∧ ∀ j, j < n → W.cell? ⟨b, off + j, none⟩ = some (.string (l.getD j ByteArray.empty)))
theorem St.below {W W' : World} {a : Option Addr} {n : Nat} {l : List ByteArray} (h : St W a n l) (hb : Below W.heap.size W W') : St W' a n l := by
  refine ⟨h.1, fun hn => ?_⟩
  obtain ⟨b, off, e, hc⟩ := h.2 hn
  exact ⟨b, off, e, fun j hj => (hb.cell (show (⟨b, off + j, none⟩ : Addr).block < W.heap.size from World.block_lt_of_cell? W _ (hc j hj))).trans (hc j hj)⟩
theorem St.nil (W : World) (a : Option Addr) : St W a 0 [] := ⟨rfl, fun h => by omega⟩
/-- A node: its kind, verb, adverb, name; where its numbers lie, and what they are. -/
structure Nd where
  k : Int
  v : ByteArray
  a : ByteArray
  x : ByteArray
  g : Option Addr
  m : Nat
  c : Nat
  ns : List ByteArray
def Nd.cells (d : Nd) : List Value := [.int .i64 d.k, .string d.v, .string d.a, .string d.x, .slice d.g d.m d.c]
def Nd.val (d : Nd) : Value := .agg #[.int .i64 d.k, .string d.v, .string d.a, .string d.x, .slice d.g d.m d.c]
/-- What a node has in memory: its numbers; and nothing is too large. -/
structure Nd.on (d : Nd) (W : World) : Prop where
  st : St W d.g d.m d.ns
  mc : d.m ≤ d.c
  cm : d.c ≤ maxLen
  k0 : -9223372036854775808 ≤ d.k
  k1 : d.k ≤ 9223372036854775807
  vz : d.v.size ≤ maxLen
  az : d.a.size ≤ maxLen
  xz : d.x.size ≤ maxLen
  nz : ∀ s ∈ d.ns, s.size ≤ maxLen
theorem Nd.on.below {d : Nd} {W W' : World} (h : d.on W) (hb : Below W.heap.size W W') : d.on W' := { h with st := h.st.below hb }
theorem Nd.on.nl {d : Nd} {W : World} (h : d.on W) : d.ns.length = d.m := h.st.1
/-- A node's five cells. -/
structure Ld (W : World) (b o : Nat) (d : Nd) : Prop where
  c0 : W.cell? ⟨b, o, none⟩ = some (.int .i64 d.k)
  c1 : W.cell? ⟨b, o + 1, none⟩ = some (.string d.v)
  c2 : W.cell? ⟨b, o + 2, none⟩ = some (.string d.a)
  c3 : W.cell? ⟨b, o + 3, none⟩ = some (.string d.x)
  c4 : W.cell? ⟨b, o + 4, none⟩ = some (.slice d.g d.m d.c)
theorem Ld.lt {W : World} {b o : Nat} {d : Nd} (h : Ld W b o d) : b < W.heap.size := World.block_lt_of_cell? W _ h.c0
theorem Ld.below {W W' : World} {b o : Nat} {d : Nd} (h : Ld W b o d) {B : Nat} (hb : Below B W W') (hB : b < B) : Ld W' b o d :=
  ⟨(hb.cell (show (⟨b, o, none⟩ : Addr).block < B from hB)).trans h.c0, (hb.cell (show (⟨b, o + 1, none⟩ : Addr).block < B from hB)).trans h.c1, (hb.cell (show (⟨b, o + 2, none⟩ : Addr).block < B from hB)).trans h.c2, (hb.cell (show (⟨b, o + 3, none⟩ : Addr).block < B from hB)).trans h.c3, (hb.cell (show (⟨b, o + 4, none⟩ : Addr).block < B from hB)).trans h.c4⟩
/-- A slice of nodes, read by a function. -/
structure Nq (W : World) (a : Option Addr) (n : Nat) (f : Nat → Nd) : Prop where
  ld : 0 < n → ∃ b off, a = some ⟨b, off, none⟩ ∧ ∀ j, j < n → Ld W b (off + j * 5) (f j)
  on : ∀ j, j < n → (f j).on W
theorem Nq.below {W W' : World} {a : Option Addr} {n : Nat} {f : Nat → Nd} (h : Nq W a n f) (hb : Below W.heap.size W W') : Nq W' a n f := by
  refine ⟨fun hn => ?_, fun j hj => (h.on j hj).below hb⟩
  obtain ⟨b, off, e, hc⟩ := h.ld hn
  exact ⟨b, off, e, fun j hj => (hc j hj).below hb (hc j hj).lt⟩
theorem Nq.nil (W : World) (a : Option Addr) (f : Nat → Nd) : Nq W a 0 f := ⟨fun h => by omega, fun j h => by omega⟩
theorem Nq.less {W : World} {a : Option Addr} {n m : Nat} {f : Nat → Nd} (h : Nq W a n f) (hm : m ≤ n) : Nq W a m f := by
  refine ⟨fun h0 => ?_, fun j hj => h.on j (by omega)⟩
  obtain ⟨b, off, e, hc⟩ := h.ld (by omega)
  exact ⟨b, off, e, fun j hj => hc j (by omega)⟩
theorem Nq.same {W : World} {a : Option Addr} {n : Nat} {f g : Nat → Nd} (h : Nq W a n f) (hg : ∀ j, j < n → f j = g j) : Nq W a n g := by
  refine ⟨fun h0 => ?_, fun j hj => hg j hj ▸ h.on j hj⟩
  obtain ⟨b, off, e, hc⟩ := h.ld h0
  exact ⟨b, off, e, fun j hj => hg j hj ▸ hc j hj⟩
/-- A part of a slice of nodes. -/
theorem Nq.part {W : World} {b off n p q : Nat} {f : Nat → Nd} (h : Nq W (some ⟨b, off, none⟩) n f) (hp : p ≤ q) (hq : q ≤ n) : Nq W (some ⟨b, off + p * 5, none⟩) (q - p) (fun j => f (p + j)) := by
  refine ⟨fun h0 => ⟨b, _, rfl, fun j hj => ?_⟩, fun j hj => h.on _ (by omega)⟩
  obtain ⟨b', off', e, hc⟩ := h.ld (by omega)
  injection e with e
  injection e with e1 e2
  subst e1 e2
  have := hc (p + j) (by omega)
  rwa [Nat.add_mul, ← Nat.add_assoc] at this
/-- How many trees are below a node. -/
def kd (k : Int) (v : ByteArray) : Int :=
  if k = 1 ∨ k = 2 then 0
  else if k = 3 then (if v.toList = [123] then 2 else 1)
  else if k = 4 then (if v.toList = [123] then 3 else 2)
  else if k = 5 ∨ k = 7 then 1
  else if k = 6 ∨ k = 8 then 2
  else -1
theorem kd_le (k : Int) (v : ByteArray) : -1 ≤ kd k v ∧ kd k v ≤ 3 := by
  unfold kd
  repeat' split
  all_goals omega
/-- Of the first n nodes, how many trees are below each. -/
def ksF (f : Nat → Nd) (n : Nat) : List Int := (List.range n).map fun j => kd (f j).k (f j).v
theorem ks_len (f : Nat → Nd) (n : Nat) : (ksF f n).length = n := by simp [ksF]
theorem ks_at {f : Nat → Nd} {n j : Nat} (h : j < n) : (ksF f n)[j]? = some (kd (f j).k (f j).v) := by simp [ksF, h]
/-- The cells of the first k nodes in a row. -/
def nvs (f : Nat → Nd) : Nat → List Value
  | 0 => []
  | k + 1 => nvs f k ++ (f k).cells
theorem nvs_len (f : Nat → Nd) : ∀ k, (nvs f k).length = k * 5
  | 0 => by simp [nvs]
  | k + 1 => by
    show (nvs f k ++ _).length = _
    rw [List.length_append, nvs_len f k]; simp [Nd.cells]; omega
theorem nvs_get (f : Nat → Nd) : ∀ k j i, j < k → i < 5 → (nvs f k)[j * 5 + i]? = (f j).cells[i]?
  | 0, j, i, h, _ => by omega
  | k + 1, j, i, h, hi => by
    have hl := nvs_len f k
    show (nvs f k ++ _)[j * 5 + i]? = _
    by_cases hj : j < k
    · rw [List.getElem?_append_left (by omega)]
      exact nvs_get f k j i hj hi
    · obtain rfl : j = k := by omega
      rw [List.getElem?_append_right (by omega), hl, Nat.add_sub_cancel_left]
theorem nvs_same {f g : Nat → Nd} : ∀ k, (∀ j, j < k → f j = g j) → nvs f k = nvs g k
  | 0, _ => rfl
  | k + 1, h => by
    show nvs f k ++ _ = nvs g k ++ _
    rw [nvs_same k (fun j hj => h j (by omega)), h k (by omega)]
theorem infoN : (Try.prog.info? 25).map (fun i => (i.zero, i.size, i.bytes)) = some (some (.agg #[.int .i64 0, .string ⟨#[]⟩, .string ⟨#[]⟩, .string ⟨#[]⟩, .slice none 0 0]), 5, 80) := by kernel_rfl
theorem own_lds {w : World} {base n : Nat} {v : Value} {f : Nat → Nd} (h : w.ownsRow base 25 5 v n (nvs f n)) : ∃ a c, v = .slice a n c ∧ n ≤ c ∧ c ≤ maxLen ∧ (0 < n → ∃ b off, a = some ⟨b, off, none⟩ ∧ base ≤ b ∧ ∀ j, j < n → Ld w b (off + j * 5) (f j)) := by
  rcases h.2 with ⟨rfl, rfl⟩ | ⟨g, cap, cur, rfl, h0, hg, h1, h2, h3, h4⟩
  · exact ⟨none, 0, rfl, Nat.le_refl _, by unfold maxLen; omega, fun h => by omega⟩
  · refine ⟨_, cap, rfl, by omega, h2, fun _ => ⟨g, 0, rfl, h0, fun j hj => ?_⟩⟩
    have hc : ∀ i, i < 5 → w.cell? ⟨g, j * 5 + i, none⟩ = (f j).cells[i]? := by
      intro i hi
      rw [cell_of_row _ _ _ _ _ _ hg, ← nvs_get f n j i hj hi, ← h4, List.getElem?_take_of_lt (by omega), Array.getElem?_toList]
    rw [Nat.zero_add]
    exact ⟨hc 0 (by omega), hc 1 (by omega), hc 2 (by omega), hc 3 (by omega), hc 4 (by omega)⟩
theorem own_nq {w : World} {base n : Nat} {v : Value} {f : Nat → Nd} (h : w.ownsRow base 25 5 v n (nvs f n)) (ho : ∀ j, j < n → (f j).on w) : ∃ a c, v = .slice a n c ∧ n ≤ c ∧ c ≤ maxLen ∧ Nq w a n f := by
  obtain ⟨a, c, rfl, h1, h2, h3⟩ := own_lds h
  refine ⟨a, c, rfl, h1, h2, fun hn => ?_, ho⟩
  obtain ⟨b, off, e, _, hc⟩ := h3 hn
  exact ⟨b, off, e, hc⟩
theorem own_below5 {w w' : World} {B n e : Nat} {v : Value} {xs : List Value} {s : Nat} (h : w.ownsRow B e s v n xs) (hb : Below w.heap.size w w') : w'.ownsRow B e s v n xs := by
  refine ⟨h.1, ?_⟩
  rcases h.2 with h | ⟨g, cap, cur, hv, h1, h2, h3⟩
  · exact .inl h
  · exact .inr ⟨g, cap, cur, hv, h1, (hb.block g (Array.getElem?_eq_some_iff.1 h2).1).trans h2, h3⟩
end Go.Proofs.Ytiopemimancliaa

/-
  Rows of parts in memory.
-/
import Derived.Test.YtiopemimancliaaLe
import Derived.Laws.AppendOwn
import Derived.WideShapes
namespace Go.Proofs.Ytiopemimancliaa
open Go.RowKit

/-- A part in memory: kind, text, place. -/
structure Rt where
  k : Int
  x : ByteArray
  p : Int
def Rt.cells (r : Rt) : List Value := [.int .i64 r.k, .string r.x, .int .i64 r.p]
/-- A slice of parts, read by a function. -/
def Qs (W : World) (a : Option Addr) (n : Nat) (f : Nat → Rt) : Prop := 0 < n → ∃ b off, a = some ⟨b, off, none⟩ ∧ ∀ j, j < n → W.cell? ⟨b, off + j * 3, none⟩ = some (.int .i64 (f j).k) ∧ W.cell? ⟨b, off + j * 3 + 1, none⟩ = some (.string (f j).x) ∧ W.cell? ⟨b, off + j * 3 + 2, none⟩ = some (.int .i64 (f j).p)
theorem Qs.below {W W' : World} {a : Option Addr} {n : Nat} {f : Nat → Rt} (h : Qs W a n f) (hb : Below W.heap.size W W') : Qs W' a n f := by
  intro hn
  obtain ⟨b, off, e, hc⟩ := h hn
  refine ⟨b, off, e, fun j hj => ⟨?_, ?_, ?_⟩⟩
  · exact (hb.cell (show (⟨b, off + j * 3, none⟩ : Addr).block < W.heap.size from World.block_lt_of_cell? W _ (hc j hj).1)).trans (hc j hj).1
  · exact (hb.cell (show (⟨b, off + j * 3 + 1, none⟩ : Addr).block < W.heap.size from World.block_lt_of_cell? W _ (hc j hj).2.1)).trans (hc j hj).2.1
  · exact (hb.cell (show (⟨b, off + j * 3 + 2, none⟩ : Addr).block < W.heap.size from World.block_lt_of_cell? W _ (hc j hj).2.2)).trans (hc j hj).2.2
theorem Qs.less {W : World} {a : Option Addr} {n m : Nat} {f : Nat → Rt} (h : Qs W a n f) (hm : m ≤ n) : Qs W a m f := by
  intro h0
  obtain ⟨b, off, e, hc⟩ := h (by omega)
  exact ⟨b, off, e, fun j hj => hc j (by omega)⟩
theorem Qs.same {W : World} {a : Option Addr} {n : Nat} {f g : Nat → Rt} (h : Qs W a n f) (hg : ∀ j, j < n → f j = g j) : Qs W a n g := by
  intro h0
  obtain ⟨b, off, e, hc⟩ := h h0
  exact ⟨b, off, e, fun j hj => by rw [← hg j hj]; exact hc j hj⟩
/-- The cells of the first k parts in a row. -/
def rvs (f : Nat → Rt) : Nat → List Value
  | 0 => []
  | k + 1 => rvs f k ++ (f k).cells
theorem rvs_len (f : Nat → Rt) : ∀ k, (rvs f k).length = k * 3
  | 0 => by simp [rvs]
  | k + 1 => by
    show (rvs f k ++ _).length = _
    rw [List.length_append, rvs_len f k]; simp [Rt.cells]; omega
theorem rvs_get (f : Nat → Rt) : ∀ k j, j < k → (rvs f k)[j * 3]? = some (.int .i64 (f j).k) ∧ (rvs f k)[j * 3 + 1]? = some (.string (f j).x) ∧ (rvs f k)[j * 3 + 2]? = some (.int .i64 (f j).p)
  | 0, j, h => by omega
  | k + 1, j, h => by
    have hl := rvs_len f k
    show (rvs f k ++ _)[j * 3]? = _ ∧ (rvs f k ++ _)[j * 3 + 1]? = _ ∧ (rvs f k ++ _)[j * 3 + 2]? = _
    by_cases hj : j < k
    · rw [List.getElem?_append_left (by omega), List.getElem?_append_left (by omega), List.getElem?_append_left (by omega)]
      exact rvs_get f k j hj
    · obtain rfl : j = k := by omega
      rw [List.getElem?_append_right (by omega), List.getElem?_append_right (by omega), List.getElem?_append_right (by omega), hl, Nat.sub_self, show j * 3 + 1 - j * 3 = 1 by omega, show j * 3 + 2 - j * 3 = 2 by omega]
      exact ⟨rfl, rfl, rfl⟩
theorem owns_qs {w : World} {base n : Nat} {v : Value} {f : Nat → Rt} (h : w.ownsRow base 57 3 v n (rvs f n)) : ∃ a c, v = .slice a n c ∧ n ≤ c ∧ Qs w a n f := by
  rcases h.2 with ⟨rfl, rfl⟩ | ⟨g, cap, cur, rfl, _, hg, h1, h2, h3, h4⟩
  · exact ⟨none, 0, rfl, Nat.le_refl _, fun h => by omega⟩
  · refine ⟨_, cap, rfl, by omega, fun _ => ⟨g, 0, rfl, fun j hj => ?_⟩⟩
    have hc := rvs_get f n j hj
    rw [← h4, List.getElem?_take_of_lt (by omega), List.getElem?_take_of_lt (by omega), List.getElem?_take_of_lt (by omega), Array.getElem?_toList, Array.getElem?_toList, Array.getElem?_toList] at hc
    rw [Nat.zero_add]
    exact ⟨by rw [cell_of_row _ _ _ _ _ _ hg]; exact hc.1, by rw [cell_of_row _ _ _ _ _ _ hg]; exact hc.2.1, by rw [cell_of_row _ _ _ _ _ _ hg]; exact hc.2.2⟩
theorem own_below3 {w w' : World} {B n e : Nat} {v : Value} {xs : List Value} (h : w.ownsRow B e 3 v n xs) (hb : Below w.heap.size w w') : w'.ownsRow B e 3 v n xs := by
  refine ⟨h.1, ?_⟩
  rcases h.2 with h | ⟨g, cap, cur, hv, h1, h2, h3⟩
  · exact .inl h
  · exact .inr ⟨g, cap, cur, hv, h1, (hb.block g (Array.getElem?_eq_some_iff.1 h2).1).trans h2, h3⟩
theorem infoT : (Try.prog.info? 57).map (fun i => (i.zero, i.size, i.bytes)) = some (some (.agg #[.int .i64 0, .string ⟨#[]⟩, .int .i64 0]), 3, 32) := by kernel_rfl
/-- A line's parts in memory. -/
def rtk (ts : List Tk) (j : Nat) : Rt := match ts[j]? with | some t => ⟨t.kind, tx t.text, t.at_⟩ | none => ⟨0, ⟨#[]⟩, 0⟩
theorem rtk_at {ts : List Tk} {j : Nat} {t : Tk} (h : ts[j]? = some t) : rtk ts j = ⟨t.kind, tx t.text, t.at_⟩ := by unfold rtk; rw [h]
theorem drop_cons {α : Type} {l r : List α} {k : Nat} {x : α} (h : l.drop k = x :: r) : l[k]? = some x ∧ r = l.drop (k + 1) ∧ k < l.length := by
  have h1 : (l.drop k)[0]? = some x := by rw [h]; rfl
  rw [List.getElem?_drop, Nat.add_zero] at h1
  refine ⟨h1, ?_, (List.getElem?_eq_some_iff.1 h1).1⟩
  rw [← List.drop_drop, h]; rfl
/-- What Lex tells: the parts; or the place of an error; or that the line is too long. -/
def LexOk (ts : List Tk) (W : World) (e : Ending) (W' : World) : Prop := ∃ a c, e = .returned (.tuple #[.slice a ts.length c, .int .i64 0, .int .i64 0]) ∧ ts.length ≤ c ∧ Qs W' a ts.length (rtk ts) ∧ Below W.heap.size W W'
def LexBad (q : Nat) (W : World) (e : Ending) (W' : World) : Prop := e = .returned (.tuple #[.slice none 0 0, .int .i64 q, .int .i64 2]) ∧ Below W.heap.size W W'
def LexBig (W : World) (e : Ending) (W' : World) : Prop := e = .returned (.tuple #[.slice none 0 0, .int .i64 0, .int .i64 8]) ∧ Below W.heap.size W W'
def LexEnd (ts : List Tk) (e : Option Nat) (W : World) : Ending → World → Prop := match e with
  | none => LexOk ts W
  | some q => LexBad q W
theorem LexEnd.ok {ts : List Tk} {W W' : World} {a : Option Addr} {c : Nat} (hc : ts.length ≤ c) (h : Qs W' a ts.length (rtk ts)) (hb : Below W.heap.size W W') : LexEnd ts none W (.returned (.tuple #[.slice a ts.length c, .int .i64 0, .int .i64 0])) W' := ⟨a, c, rfl, hc, h, hb⟩
theorem LexEnd.bad {ts : List Tk} {q : Nat} {W W' : World} (hb : Below W.heap.size W W') : LexEnd ts (some q) W (.returned (.tuple #[.slice none 0 0, .int .i64 q, .int .i64 2])) W' := ⟨rfl, hb⟩
theorem big_is (s : ByteArray) (h : 256 < s.size) (hs : s.size ≤ 9223372036854775807) (W : World) : Calls Try.prog 41 #[.string s] W (LexBig W) := by
  have h1 : (256 : Int) < (s.size : Int) := by omega
  go_enter Try.func41, Try.ntmps41
  go_wp2_with fail
  go_step3
  go_wp2_with fail
  go_ret3
  exact ⟨rfl, Below.refl _ _⟩
theorem rbig_is (s : ByteArray) (h : 256 < s.size) (hs : s.size ≤ 9223372036854775807) (W : World) : Calls Try.prog 43 #[.string s] W (LexBig W) := by
  have h1 : (256 : Int) < (s.size : Int) := by omega
  go_enter Try.func43, Try.ntmps43
  go_wp2_with fail
  go_ret3
  exact ⟨rfl, Below.refl _ _⟩
end Go.Proofs.Ytiopemimancliaa

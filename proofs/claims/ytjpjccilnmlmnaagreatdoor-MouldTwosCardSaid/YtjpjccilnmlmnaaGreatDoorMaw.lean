import Derived.Test.YtjpjccilnmlmnaaGreatDoorMau
import Derived.Test.YtjpjccilnmlmnaaGreatDoorMav
/-
  slices.Reverse of a slice of the call's own; val.Int; mould's part and counts.
-/
namespace Go.Proofs.YtjpjccilnmlmnaaGreatDoor
set_option linter.unusedVariables false
set_option linter.unusedSimpArgs false
open Go.RowKit

/-! ### slices.Reverse -/
theorem Reverse_o {W : World} {B : Nat} {a : Option Addr} {n c : Nat} {l : List Int} (h : W.ownsRow B 3 1 (.slice a n c) n (valsI l)) (hn : n ≤ 1000000) :
    Calls Tryz.prog 43 #[.slice a n c] W fun e w' => e = .returned (.tuple #[]) ∧ w'.ownsRow B 3 1 (.slice a n c) n (valsI l.reverse) ∧ W.grownBy w' (Value.ownBlock (.slice a n c)) := by
  have hl : l.length = n := by have := h.1; simpa [valsI] using this
  by_cases h0 : n = 0
  · subst h0
    obtain rfl := List.length_eq_zero_iff.1 hl
    refine (Tryz.slices_Reverse_int_empty a c W).mono ?_
    rintro e w ⟨rfl, rfl⟩
    exact ⟨rfl, h, World.grownBy.refl _ _⟩
  · rcases h.2 with ⟨_, e⟩ | ⟨g, cap, cur, e, hB, hg, h1, h2, h3, h4⟩
    · omega
    injection e with e1 e2 e3
    subst e1 e3 hl
    have hcur : ∀ j, j < l.length → cur[j]? = some (.int .i64 (l.getD j 0)) := by
      intro j hj
      have h5 := congrArg (fun x : List Value => x[j]?) h4
      simp only [List.getElem?_take_of_lt (show j < l.length * 1 by omega), Array.getElem?_toList] at h5
      rw [h5]
      simp [valsI, List.getD_eq_getElem?_getD, List.getElem?_eq_getElem hj]
    have hgetB : ∀ (m : List Int) (j : Nat), j < m.length → m.toArray[j]! = m.getD j 0 := by
      intro m j hj
      rw [getElem!_pos _ j (by simpa using hj)]
      simp [List.getD_eq_getElem?_getD, List.getElem?_eq_getElem hj]
    have hH : Go.Sort.Holds (Value.int .i64) W g 0 l.toArray := by
      intro j hj
      have hj' : j < l.length := by simpa using hj
      refine ⟨?_, frozen_of_row _ _ _ _ _ hg⟩
      rw [Nat.zero_add, cell_of_row _ _ j _ _ _ hg, hcur j hj', hgetB l j hj']
    refine (Tryz.slices_Reverse_int g 0 c l W hH (by omega)).mono ?_
    rintro e w ⟨rfl, N, rfl⟩
    refine ⟨rfl, ⟨by simp [valsI], .inr ⟨g, c, Go.Sort.putCells (Value.int .i64) 0 l.reverse.toArray cur, rfl, hB, ?_, h1, h2, by simp [Go.Sort.putCells, h3], ?_⟩⟩, ⟨rfl, rfl, rfl, by simp, fun k hk hne => ?_⟩⟩
    · have hg' : (Go.Sort.ahead W N).heap[g]? = some (.cells cur 3 (0, 0)) := hg
      simp [Go.Sort.putRow, Go.Sort.mapBlock, Array.getElem?_modify, hg, Go.Sort.onCells]
    · apply List.ext_getElem?
      intro j
      by_cases hj : j < l.length
      · rw [List.getElem?_take_of_lt (by omega), Array.getElem?_toList, Go.Sort.putCells, Array.getElem?_mapIdx, hcur j hj, Option.map_some, if_pos ⟨by omega, by simpa using hj⟩, Nat.sub_zero, hgetB _ j (by simpa using hj)]
        show some (Value.int .i64 (l.reverse.getD j 0)) = (l.reverse.map (Value.int .i64))[j]?
        rw [List.getElem?_map, List.getD_eq_getElem?_getD, List.getElem?_eq_getElem (show j < l.reverse.length by simpa using hj)]
        rfl
      · rw [List.getElem?_eq_none (by rw [List.length_take]; omega), List.getElem?_eq_none (by simp [valsI]; omega)]
    · have hne' : g ≠ k := by intro e; exact hne (by rw [e]; rfl)
      simp [Go.Sort.putRow, Go.Sort.mapBlock, Array.getElem?_modify, hne', Go.Sort.ahead]

/-! ### val.Int -/
set_option maxRecDepth 10000 in
theorem VInt_bad {a b : Option Addr} {n c m d : Nat} (W : World) (hb : n ≠ 0 ∨ m ≠ 1) : Calls Tryz.prog 31 #[.agg #[.slice a n c, .slice b m d]] W (NearEnd 0 3 W) := by
  have hb0 : Below W.heap.size W (W.alloc (.cells #[.slice a n c, .slice b m d] 25)) := (Below.refl _ _).alloc (Nat.le_refl _) _
  by_cases h0 : n = 0
  · subst h0
    have h1 : (m : Int) ≠ 1 := by omega
    clear hb
    go_enter Tryz.func31, Tryz.ntmps31
    go_wp2_with fail
    go_ret2
    exact ⟨rfl, hb0⟩
  · have h1 : (0 : Int) < (n : Int) := by omega
    clear hb h0
    go_enter Tryz.func31, Tryz.ntmps31
    go_wp2_with fail
    go_ret2
    exact ⟨rfl, hb0⟩
set_option maxRecDepth 10000 in
theorem VInt_at (a : Option Addr) (c g off d : Nat) (s : ByteArray) (x e : Int) (W : World) (hc : W.cell? ⟨g, off, none⟩ = some (.string s)) (hn : ∀ w, Below W.heap.size W w → Calls Tryz.prog 66 #[.string s] w (NearEnd x e w)) :
    Calls Tryz.prog 31 #[.agg #[.slice a 0 c, .slice (some ⟨g, off, none⟩) 1 d]] W (NearEnd x e W) := by
  have K := Lib.hid hn
  clear hn
  have hb0 : Below W.heap.size W (W.alloc (.cells #[.slice a 0 c, .slice (some ⟨g, off, none⟩) 1 d] 25)) := (Below.refl _ _).alloc (Nat.le_refl _) _
  have hc1 := (hb0.cell (p := ⟨g, off, none⟩) (World.block_lt_of_cell? W _ hc)).trans hc
  go_enter Tryz.func31, Tryz.ntmps31
  go_wp2_with fail
  refine (K.out _ hb0).mono ?_
  rintro x w1 ⟨rfl, hb⟩
  go_wp2_with fail
  go_ret2
  exact ⟨rfl, hb0.trans (hb.mono hb0.size)⟩
/-- near of a number's text. -/
theorem near_S {x : Int} (hl : x.natAbs < lim) (W : World) (hW : WT W) : Calls Tryz.prog 66 #[.string (S x)] W (NearEnd (if nearM x then x else 0) (if nearM x then 0 else 5) W) := by
  have hi := Int_opt (s := S x) (o := some x) ⟨rfl, hl⟩ W hW.err
  cases hf : nearM x
  · refine near_no (S x) _ _ W hi ?_
    unfold intO
    dsimp only
    by_cases h : I64 x
    · rw [if_pos h]; exact .inr hf
    · rw [if_neg h]; exact .inl rfl
  · have h := nearM_yes.1 hf
    have h64 : I64 x := by unfold I64; omega
    unfold intO at hi
    dsimp only at hi
    rw [if_pos h64] at hi
    exact near_yes (S x) x W hi hf
section
variable {W : World} {a b : Option Addr} {n c m d : Nat} {l : List Int} {es : List ByteArray} {q : Ar}
theorem VInt_av (h : Av W a n c b m d l es (some q)) (hW : WT W) : Calls Tryz.prog 31 #[.agg #[.slice a n c, .slice b m d]] W (NearEnd (inM q).1 (inM q).2 W) := by
  have hl := h.v.s.1
  have hq := h.fst
  have hm := h.mlen.1
  by_cases hb : n = 0 ∧ m = 1
  · obtain ⟨rfl, rfl⟩ := hb
    obtain ⟨q1, q2⟩ := q
    simp only at hq hm
    obtain rfl : q1 = [] := by rw [hq]; exact List.length_eq_zero_iff.1 hl
    obtain ⟨x, rfl⟩ := List.length_eq_one_iff.1 hm.symm
    have hx := h.i.2.2.2 x (by simp)
    have he : es = [S x] := h.i.2.1
    subst he
    obtain ⟨g, off, rfl, hc⟩ := h.v.t.2 (by omega)
    have e : inM ([], [x]) = (if nearM x then x else 0, if nearM x then 0 else 5) := by
      unfold inM
      rw [if_neg (by simp)]
      show (if nearM x = true then (x, (0 : Int)) else (0, 5)) = _
      split <;> rfl
    rw [e]
    exact VInt_at a c g off d (S x) _ _ W (hc 0 (by omega)) fun w hw => near_S hx w (hW.below hw)
  · have e : inM q = (0, 3) := by
      unfold inM
      rw [if_pos]
      rcases Nat.eq_zero_or_pos n with h0 | h0
      · exact .inr (by omega)
      · refine .inl fun e => ?_
        rw [hq] at e
        rw [e] at hl
        simp at hl
        omega
    rw [e]
    exact VInt_bad W (by omega)
end
end Go.Proofs.YtjpjccilnmlmnaaGreatDoor

import Derived.Test.YtlhbejeninjmoaaGreatDoorMau
/-
  The reference's Same of an array and itself; the document's example at the head of all statements.
-/
namespace Go.Proofs.YtlhbejeninjmoaaGreatDoor
set_option linter.unusedVariables false
set_option linter.unusedSimpArgs false
open Go.RowKit

theorem St.row {w : World} {g : Nat} {l : List ByteArray} {t : TypeId} {fr : Nat × Nat} (h : w.heap[g]? = some (.cells (l.map Value.string).toArray t fr)) : St w (some ⟨g, 0, none⟩) l.length l := by
  refine ⟨rfl, fun _ => ⟨g, 0, rfl, fun j hj => ?_⟩⟩
  rw [Nat.zero_add, cell_of_row w g j _ _ _ h]
  simp [List.getD_eq_getElem?_getD, List.getElem?_eq_getElem hj]
theorem Sl.row {w : World} {g : Nat} {l : List Int} {t : TypeId} {fr : Nat × Nat} (h : w.heap[g]? = some (.cells (l.map (Value.int .i64)).toArray t fr)) : Sl w (some ⟨g, 0, none⟩) l.length l := by
  refine ⟨rfl, fun _ => ⟨g, 0, rfl, fun j hj => ?_⟩⟩
  rw [Nat.zero_add, cell_of_row w g j _ _ _ h]
  simp [List.getD_eq_getElem?_getD, List.getElem?_eq_getElem hj]
theorem Bx.drewN {W : World} {a b : Option Addr} {g n c m d : Nat} (h : Bx W g a n c b m d) (q : Nat) : Bx (W.drewN q) g a n c b m d := h
theorem below_drewN {B : Nat} {a w : World} (h : Below B a w) (n : Nat) : Below B a (w.drewN n) := ⟨h.os, h.tape, h.output, h.size, h.block⟩

/-! ### The reference's Same -/
set_option maxRecDepth 10000 in
set_option maxHeartbeats 800000 in
theorem rVSame_yes {a1 b1 a2 b2 : Option Addr} {n c1 m d1 c2 d2 : Nat} {l : List Int} {es : List ByteArray} (W : World) (h1 : Vl W a1 n b1 m l es) (h2 : Vl W a2 n b2 m l es) (q1 : n ≤ 1000000) :
    Calls Tryz.prog 15 #[.agg #[.slice a1 n c1, .slice b1 m d1], .agg #[.slice a2 n c2, .slice b2 m d2]] W (BoolEnd true W) := by
  have K1 := Lib.hid (fun w (hb : Below W.heap.size W w) => rSame_is a1 a2 n c1 n c2 l l w (h1.s.below hb) (h2.s.below hb) q1 q1 true (beq_self_eq_true l).symm)
  have r1 := h1.mm
  have HT1 := Lib.hid h1.t
  have HT2 := Lib.hid h2.t
  clear h1 h2 q1
  have hA := (Bx.new W a1 n c1 b1 m d1).alloc (.cells #[.slice a2 n c2, .slice b2 m d2] 25)
  have hB := Bx.two W (.cells #[.slice a1 n c1, .slice b1 m d1] 25) a2 n c2 b2 m d2
  have hb0 : Below W.heap.size W ((W.alloc (.cells #[.slice a1 n c1, .slice b1 m d1] 25)).alloc (.cells #[.slice a2 n c2, .slice b2 m d2] 25)) := ((Below.refl _ _).alloc (Nat.le_refl _) _).alloc (by simp) _
  go_enter Tryz.func15, Tryz.ntmps15
  go_wp2_with fail
  refine (K1.out _ hb0).mono ?_
  rintro x w1 ⟨rfl, hd1⟩
  have hA1 := hA.below hd1.below hA.lt
  have hB1 := hB.below hd1.below hB.lt
  have hb1 := hb0.trans (hd1.below.mono hb0.size)
  clear hA hB hb0 hd1
  have x1 := hA1.c1
  have x2 := hB1.c1
  go_wp2_with fail
  go_loopw [5] (fun i wr => ∃ q : Nat, i = .int .i64 q ∧ q ≤ m ∧ Bx wr W.heap.size a1 n c1 b1 m d1 ∧ Bx wr (W.heap.size + 1) a2 n c2 b2 m d2 ∧ Below W.heap.size W wr) (fun i _ => m - (intOf i).toNat)
  case atStart => exact ⟨0, rfl, by omega, hA1, hB1, hb1⟩
  case round =>
    obtain ⟨q, rfl, hq, hA2, hB2, hb⟩ := hrel
    clear x1 x2
    have x1 := hA2.c1
    have x2 := hB2.c1
    by_cases hlt : q < m
    · have e2 : (q : Int) < (m : Int) := by omega
      obtain ⟨bb, o1, rfl, hc1⟩ := HT1.out.2 (by omega)
      obtain ⟨bb2, o2, rfl, hc2⟩ := HT2.out.2 (by omega)
      have hk1 := (hb.cell (p := ⟨bb, o1 + q, none⟩) (World.block_lt_of_cell? W _ (hc1 q hlt))).trans (hc1 q hlt)
      have hk2 := (hb.cell (p := ⟨bb2, o2 + q, none⟩) (World.block_lt_of_cell? W _ (hc2 q hlt))).trans (hc2 q hlt)
      clear hc1 hc2
      generalize es.getD q ByteArray.empty = s at hk1 hk2
      go_wp2_with fail
      go_quiet (fail)
      go_wp2_with fail
      go_roundw
      case rel => exact ⟨q + 1, by go_num, by omega, hA2.drewN _, hB2.drewN _, below_drewN hb _⟩
      case measure => simp [intOf]; omega
    · have e2 : ¬ (q : Int) < (m : Int) := by omega
      go_wp2_with fail
      go_ret
      exact ⟨rfl, hb⟩
end Go.Proofs.YtlhbejeninjmoaaGreatDoor

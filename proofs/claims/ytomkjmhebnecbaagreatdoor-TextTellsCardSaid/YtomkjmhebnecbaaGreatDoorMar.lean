import Derived.Test.YtomkjmhebnecbaaGreatDoorProg
import Derived.Test.YtomkjmhebnecbaaGreatDoorMal
import Derived.Test.YtomkjmhebnecbaaGreatDoorMaq
import Derived.Shelf.Abstract
import Derived.Shelf.RegionOpen
import Derived.WalkKit
import Derived.OwnWalkIn
import Derived.TacticsInMore
import Derived.LoopNIn
import Derived.LoopIn
import Derived.Lib.Hide
import Derived.Lib.Bytealg
/-
  strings.SplitSeq between blanks: its iterator gives a text's pieces, one by one.
-/
namespace Go.Proofs.YtomkjmhebnecbaaGreatDoor
set_option linter.unusedVariables false
set_option linter.unusedSimpArgs false
open Go.RowKit Go.Shelf

attribute [local go_sem] Oper.semAt_some
theorem idx_free {a : List UInt8} (h : ∀ c ∈ a, c ≠ 32) : Lib.indexByte a 32 = -1 := by
  induction a with
  | nil => rfl
  | cons x a ih =>
    have hx : (x == 32) = false := beq_false_of_ne (h x (by simp))
    unfold Lib.indexByte
    rw [hx, ih fun c hc => h c (by simp [hc])]
    rfl
theorem idx_at {a : List UInt8} (h : ∀ c ∈ a, c ≠ 32) (r : List UInt8) : Lib.indexByte (a ++ 32 :: r) 32 = (a.length : Int) := by
  induction a with
  | nil => rfl
  | cons x a ih =>
    have hx : (x == 32) = false := beq_false_of_ne (h x (by simp))
    rw [List.cons_append]
    unfold Lib.indexByte
    rw [hx, ih fun c hc => h c (by simp [hc])]
    have h1 : ((a.length : Int) == -1) = false := beq_false_of_ne (by omega)
    simp [h1]
theorem tx_take (a r : List UInt8) : (tx (a ++ r)).extract 0 a.length = tx a := bytes_ext (by
  rw [extract_list, tx_list, tx_list]
  simp)
theorem tx_behind (a r : List UInt8) : (tx (a ++ 32 :: r)).extract (a.length + 1) (a.length + (r.length + 1)) = tx r := bytes_ext (by
  rw [extract_list, tx_list, tx_list, show a ++ 32 :: r = (a ++ [32]) ++ r by simp, show a.length + 1 = (a ++ [32]).length by simp, List.drop_left, List.take_of_length_le (by simp; omega)])
/-- What is left of the text that the iterator has in its block. -/
def leftT (B : Nat) (W : World) : Nat := match W.cell? ⟨B, 0, none⟩ with
  | some (.string s) => s.size
  | _ => 0
theorem left_is {B : Nat} {W : World} {s : ByteArray} (h : W.cell? ⟨B, 0, none⟩ = some (.string s)) : leftT B W = s.size := by unfold leftT; rw [h]
/-- The iterator's three blocks. -/
def SpB (W : World) (B : Nat) (s : List UInt8) : Prop := Boxed W B 9 (.string (tx s)) ∧ Boxed W (B + 1) 9 (.string ⟨#[32]⟩) ∧ Boxed W (B + 2) 3 (.int .i64 0)
def SpK (B : Nat) (X Y : World) : Prop := ∀ b, B ≤ b → b < B + 3 → Y.heap[b]? = X.heap[b]?
theorem SpB.kept {X Y : World} {B : Nat} {s : List UInt8} (h : SpB X B s) (k : SpK B X Y) : SpB Y B s :=
  ⟨(k B (by omega) (by omega)).trans h.1, (k (B + 1) (by omega) (by omega)).trans h.2.1, (k (B + 2) (by omega) (by omega)).trans h.2.2⟩
theorem boxed_far {W : World} {B C : Nat} {t : TypeId} {v : Value} (h : Boxed W B t v) (hne : B ≠ C) (u : Value) : Boxed (W.setCell ⟨C, 0, none⟩ u) B t v := (Below.heap_setCell W ⟨C, 0, none⟩ u B hne).trans h
theorem SpB.set {W : World} {B : Nat} {s : List UInt8} (h : SpB W B s) (r : List UInt8) : SpB (W.setCell ⟨B, 0, none⟩ (.string (tx r))) B r :=
  ⟨h.1.set _, boxed_far h.2.1 (by omega) _, boxed_far h.2.2 (by omega) _⟩
theorem SpB.drew {W : World} {B : Nat} {s : List UInt8} (h : SpB W B s) : SpB W.drew B s := h
def encP (ps : List (List UInt8)) (k : Nat) : Array Value := #[.string (tx (ps.getD k []))]
theorem drop_cons {ps : List (List UInt8)} {k : Nat} {a : List UInt8} {ws : List (List UInt8)} (h : ps.drop k = a :: ws) : k < ps.length ∧ ps.getD k [] = a ∧ ps.drop (k + 1) = ws := by
  have hk : k < ps.length := by
    by_cases hk : k < ps.length
    · exact hk
    · rw [List.drop_eq_nil_of_le (by omega)] at h; cases h
  rw [List.drop_eq_getElem_cons hk] at h
  injection h with h1 h2
  exact ⟨hk, by rw [List.getD_eq_getElem?_getD, List.getElem?_eq_getElem hk]; exact h1, h2⟩
def IdxIs : Prop := ∀ (s : ByteArray) (w : World), Calls Tryz.prog 97 #[.string s, .string ⟨#[32]⟩] w fun e w' => e = .returned (.int .i64 (Lib.indexByte s.data.toList 32)) ∧ w' = w
set_option maxRecDepth 100000 in
set_option maxHeartbeats 2000000 in
theorem split_gives (KI : IdxIs) (n : Nat) (s : List UInt8) (ps : List (List UInt8)) (hc : Cu s ps) (hz : s.length ≤ 140737488355327) (B : Nat) (w : World) (hB : SpB w B s) (hlt : B + 3 ≤ w.heap.size) :
    Gives Fence.wide n Tryz.prog 95 #[.pointer (some ⟨B + 1, 0, none⟩), .pointer (some ⟨B, 0, none⟩), .pointer (some ⟨B + 2, 0, none⟩)] (encP ps) B ps.length (SpK B) w := by
  intro l J Jx W hW hJ hY h0
  have hBW : SpB W B s := ⟨(hW.block B (by omega)).trans hB.1, (hW.block (B + 1) (by omega)).trans hB.2.1, (hW.block (B + 2) (by omega)).trans hB.2.2⟩
  refine callsIn_of_wp Tryz.func95 rfl trivial ?_ rfl
  simp only [Tryz.ntmps95, List.size_toArray, List.length_cons, List.length_nil, Nat.reduceAdd, Nat.reduceSub, Array.replicate_succ, Array.replicate_zero, List.push_toArray, List.append_toArray, List.nil_append, List.cons_append]
  have c1 := hBW.2.1.cell
  have KI2 := Lib.hid KI
  have HY := Lib.hid hY
  have HJ := Lib.hid hJ
  clear KI hY hJ hB hlt
  gi_wp2
  gi_loopw [] (fun wr => ∃ (k : Nat) (r : List UInt8), Cu r (ps.drop k) ∧ r.length ≤ s.length ∧ SpB wr B r ∧ J k wr) (fun wr => leftT B wr)
  case atStart => exact ⟨0, s, hc, Nat.le_refl _, hBW, h0⟩
  case round =>
    obtain ⟨k, r, hcu, hl, hb, hj⟩ := hrel
    have c0 := hb.1.cell
    have c1 := hb.2.1.cell
    have c2 := hb.2.2.cell
    have f0 := hb.1.frozen
    have HL := Lib.hid hl
    clear hl
    generalize hd : ps.drop k = ds at hcu
    cases hcu with
    | @last a ha =>
      obtain ⟨hk, hg, hn⟩ := drop_cons hd
      have hk1 : k + 1 = ps.length := by
        have := List.drop_eq_nil_iff.1 hn
        omega
      have hix := idx_free ha
      obtain ⟨fn, tmps, assign, body, hy, hR⟩ := HY.out k wr hk hj
      unfold encP at hy
      rw [hg] at hy
      clear hd hg hn hk
      have HB := Lib.hid hb
      clear hb
      have HH := Lib.hid hk1
      clear hk1
      gi_wp2
      refine ⟨trivial, fun h => (by cases h), (callsIn_wide.2 (KI2.out (tx r) wr)).mono ?_⟩
      rintro e w' ⟨rfl, rfl⟩
      rw [tx_list, hix]
      gi_wp2
      refine ⟨fun h => (by cases h), hR.mono ?_⟩
      rintro e W3 (⟨rfl, hJ3, hk3⟩ | ⟨rfl, hJx3⟩)
      · gi_wp2
        go_end0
        exact ⟨⟨_, rfl⟩, .inl (by rw [← HH.out]; exact hJ3)⟩
      · gi_wp2
        go_end0
        exact ⟨⟨_, rfl⟩, .inr hJx3⟩
    | @more a t ws ha hcu =>
      obtain ⟨hk, hg, hn⟩ := drop_cons hd
      have hix := idx_at ha t
      obtain ⟨fn, tmps, assign, body, hy, hR⟩ := HY.out k wr hk hj
      unfold encP at hy
      rw [hg] at hy
      have ht1 := tx_take a (32 :: t)
      have ht2 := tx_behind a t
      have hsz : (tx (a ++ 32 :: t)).size = a.length + (t.length + 1) := by rw [tx_size]; simp
      have hlen : a.length + (t.length + 1) ≤ s.length := by have := HL.out; simpa using this
      have HN := Lib.hid hn
      have HC := Lib.hid hcu
      clear hd hg hn hk
      have HB := Lib.hid hb
      clear hb
      gi_wp2
      refine ⟨trivial, fun h => (by cases h), (callsIn_wide.2 (KI2.out (tx (a ++ 32 :: t)) wr)).mono ?_⟩
      rintro e w' ⟨rfl, rfl⟩
      rw [tx_list, hix]
      gi_wp2
      refine ⟨fun h => (by cases h), hR.mono ?_⟩
      rintro e W3 (⟨rfl, hJ3, hk3⟩ | ⟨rfl, hJx3⟩)
      · have hb3 := HB.out.kept hk3
        have d0 := hb3.1.cell
        have d1 := hb3.2.1.cell
        have g0 := hb3.1.frozen
        have hl3 := left_is d0
        have hl0 := left_is c0
        have hj4 := HJ.out _ _ _ hJ3 (grownBy_setCell' W3 B (.string (tx t)))
        have hb4 := Lib.hid (hb3.set t)
        clear hb3 hj c0 hJ3
        have HL3 := Lib.hid (And.intro hl3 hl0)
        clear hl3 hl0
        gi_wp2
        go_roundw
        case rel => exact ⟨k + 1, t, by rw [HN.out]; exact HC.out, by omega, hb4.out, hj4⟩
        case measure => rw [left_is hb4.out.1.cell, HL3.out.2, hsz, tx_size]; omega
      · gi_wp2
        refine bodyPost_ret (results_none rfl _ _ _) rfl ?_
        exact ⟨⟨_, rfl⟩, .inr hJx3⟩
/-- The world in which the iterator's three blocks are laid. -/
def spW3 (w : World) (s : List UInt8) : World := ((w.alloc (.cells #[.string (tx s)] 9)).alloc (.cells #[.string ⟨#[32]⟩] 9)).alloc (.cells #[.int .i64 0] 3)
theorem spW3_size (w : World) (s : List UInt8) : (spW3 w s).heap.size = w.heap.size + 3 := by unfold spW3; simp
theorem spW3_below (w : World) (s : List UInt8) : Below w.heap.size w (spW3 w s) := (((Below.refl _ w).alloc (Nat.le_refl _) _).alloc (by simp) _).alloc (by simp; omega) _
theorem spW3_is (w : World) (s : List UInt8) : SpB (spW3 w s) w.heap.size s := by
  unfold spW3
  refine ⟨((Boxed.new w _ _).alloc _).alloc _, ?_, ?_⟩
  · have := Boxed.new (w.alloc (.cells #[.string (tx s)] 9)) 9 (.string ⟨#[32]⟩)
    rw [World.size_alloc] at this
    exact this.alloc _
  · have := Boxed.new ((w.alloc (.cells #[.string (tx s)] 9)).alloc (.cells #[.string ⟨#[32]⟩] 9)) 3 (.int .i64 0)
    rw [World.size_alloc, World.size_alloc] at this
    exact this
def spF (w : World) : Value := .func (.func 95) #[] #[.pointer (some ⟨w.heap.size + 1, 0, none⟩), .pointer (some ⟨w.heap.size, 0, none⟩), .pointer (some ⟨w.heap.size + 2, 0, none⟩)]
theorem splitSeq_is (s : List UInt8) (w : World) : Calls Tryz.prog 85 #[.string (tx s), .string ⟨#[32]⟩, .int .i64 0] w fun e w' => e = .returned (spF w) ∧ spW3 w s = w' := by
  go_enter Tryz.func85, Tryz.ntmps85
  go_wp2
  go_ret
  exact ⟨rfl, rfl⟩
theorem SplitSeq_is (s : List UInt8) (w : World) : Calls Tryz.prog 68 #[.string (tx s), .string ⟨#[32]⟩] w fun e w' => e = .returned (spF w) ∧ spW3 w s = w' := by
  go_enter Tryz.func68, Tryz.ntmps68
  go_wp2_with fail
  refine (splitSeq_is s w).mono ?_
  rintro e w1 ⟨rfl, rfl⟩
  unfold spF
  go_wp2_with fail
  go_ret
  exact ⟨rfl, rfl⟩
end Go.Proofs.YtomkjmhebnecbaaGreatDoor

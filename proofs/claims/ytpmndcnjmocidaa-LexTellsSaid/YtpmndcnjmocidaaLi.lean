/-
  Join, both sides; whether two rows of parts are the same.
-/
import Derived.Test.YtpmndcnjmocidaaLh
import Derived.Test.YtpmndcnjmocidaaShelfi
import Derived.Deep.OwnRows
import Derived.Deep.QuietTactic
import Derived.BigQuiet
namespace Go.Proofs.Ytpmndcnjmocidaa
open Go.RowKit

/-- A whole row of strings of the call's own. -/
def Sr (w : World) (g n : Nat) (F : Nat → ByteArray) : Prop := w.rowIs g 9 n (fun j => Value.string (F j))
theorem infoStr : (Try.prog.info? 9).map (fun i => (i.zero, i.size, i.bytes)) = some (some (.string ⟨#[]⟩), 1, 16) := by kernel_rfl
theorem run_mks (n : Nat) (hn : n ≤ 1000000) (w : World) :
    (Instr.makeSlice 43 (.int .i64 (n : Int)) (.int .i64 (n : Int))).run Try.prog w = .ok (.slice (some ⟨w.heap.size, 0, none⟩) n n) (w.alloc (.cells (madeCells #[.string ⟨#[]⟩] n) 9)) :=
  run_make_row' 43 9 _ 16 Try.underlying43 infoStr rfl _ _ n (by omega) (by omega) w
theorem Sr.made (w : World) (n : Nat) : Sr (w.alloc (.cells (madeCells #[.string ⟨#[]⟩] n) 9)) w.heap.size n (fun _ => ⟨#[]⟩) := World.rowIs_made w _ n _
theorem Sr.cell {w : World} {g n : Nat} {F : Nat → ByteArray} (h : Sr w g n F) {i : Nat} (hi : i < n) : w.cell? ⟨g, i, none⟩ = some (.string (F i)) := World.rowIs.cell h hi
theorem Sr.frozen {w : World} {g n : Nat} {F : Nat → ByteArray} (h : Sr w g n F) (i : Nat) : w.frozen? ⟨g, i, none⟩ = false := World.rowIs.frozen h i
theorem Sr.lt {w : World} {g n : Nat} {F : Nat → ByteArray} (h : Sr w g n F) : g < w.heap.size := World.rowIs.lt h
theorem Sr.below {w w' : World} {g n : Nat} {F : Nat → ByteArray} (h : Sr w g n F) (hb : Below w.heap.size w w') : Sr w' g n F := World.rowIs.of_block h (hb.block g (World.rowIs.lt h))
theorem Sr.set {w : World} {g n : Nat} {F G : Nat → ByteArray} (h : Sr w g n F) (i : Nat) (v : ByteArray) (hG : ∀ j, j < n → (if j = i then v else F j) = G j) : Sr (w.setCell ⟨g, i, none⟩ (.string v)) g n G := by
  refine (World.rowIs.set h i _).congr fun j hj => ?_
  show (if j = i then _ else _) = Value.string (G j)
  rw [← hG j hj]
  split <;> rfl
/-- The first n texts of a row. -/
def xsF (f : Nat → Rt) (n : Nat) : List ByteArray := (List.range n).map fun j => (f j).x
def jl (f : Nat → Rt) (n : Nat) : List (List UInt8) := (xsF f n).map (·.data.toList)
theorem xsF_len (f : Nat → Rt) (n : Nat) : (xsF f n).length = n := by simp [xsF]
theorem xsF_get {f : Nat → Rt} {n j : Nat} {x : ByteArray} (h : (xsF f n)[j]? = some x) : j < n ∧ x = (f j).x := by
  obtain ⟨h1, h2⟩ := List.getElem?_eq_some_iff.1 h
  have h3 : j < n := by rwa [xsF_len] at h1
  refine ⟨h3, ?_⟩
  rw [← h2]; simp [xsF]
theorem join_is : ∀ l : List (List UInt8), Lib.join l [32] = joinT l
  | [] => rfl
  | [a] => by rw [Lib.join_one]; rfl
  | a :: b :: r => by
    rw [joinT_cons a (by simp), ← join_is (b :: r), Lib.join_cons, Lib.join_cons]
    simp [Lib.joinTail]
def StrBelow (t : List UInt8) (W : World) (e : Ending) (W' : World) : Prop := e = .returned (.string (tx t)) ∧ Below W.heap.size W W'
set_option maxHeartbeats 1600000 in
theorem Join_is (a : Option Addr) (n c : Nat) (f : Nat → Rt) (W : World) (h : Qs W a n f) (hn : n ≤ 1000) (hl : (joinT (jl f n)).length ≤ 140737488355328) :
    Calls Try.prog 16 #[.slice a n c] W (StrBelow (joinT (jl f n)) W) := by
  have H := Lib.hid h
  have HL := Lib.hid hl
  have hmk := run_mks n (by omega) W
  have hS := Sr.made W n
  have hb0 : Below W.heap.size W (W.alloc (.cells (madeCells #[.string ⟨#[]⟩] n) 9)) := (Below.refl _ _).alloc (Nat.le_refl _) _
  clear h hl
  go_enter Try.func16, Try.ntmps16
  go_wp2_with fail
  go_loopw [11] (fun iv wr => ∃ k : Nat, iv = .int .i64 k ∧ k ≤ n ∧ Sr wr W.heap.size n (fun j => if j < k then (f j).x else ⟨#[]⟩) ∧ Below W.heap.size W wr) (fun iv _ => n - (intOf iv).toNat)
  case atStart => exact ⟨0, rfl, by omega, hS, hb0⟩
  case round =>
    obtain ⟨k, rfl, hk, hs, hb⟩ := hrel
    clear hmk hS hb0
    by_cases hlt : k < n
    · have e2 : (k : Int) < (n : Int) := by omega
      obtain ⟨gb, off, rfl, hc⟩ := H.out (by omega)
      have c0 := (hb.cell (p := ⟨gb, off + k * 3, none⟩) (World.block_lt_of_cell? W _ (hc k hlt).1)).trans (hc k hlt).1
      have c1 := (hb.cell (p := ⟨gb, off + k * 3 + 1, none⟩) (World.block_lt_of_cell? W _ (hc k hlt).2.1)).trans (hc k hlt).2.1
      have c2 := (hb.cell (p := ⟨gb, off + k * 3 + 2, none⟩) (World.block_lt_of_cell? W _ (hc k hlt).2.2)).trans (hc k hlt).2.2
      have fz := hs.frozen k
      have ck := hs.cell hlt
      have hlt2 := hs.lt
      have hs2 := hs.set k (f k).x (G := fun j => if j < k + 1 then (f j).x else ⟨#[]⟩) (fun j hj => by
        by_cases h1 : j = k
        · subst h1; rw [if_pos rfl, if_pos (by omega)]
        · rw [if_neg h1]
          by_cases h2 : j < k
          · rw [if_pos h2, if_pos (by omega)]
          · rw [if_neg h2, if_neg (by omega)])
      have hb2 : Below W.heap.size W (wr.setCell ⟨W.heap.size, k, none⟩ (.string (f k).x)) := hb.setCell (Nat.le_refl _) _
      have HH := Lib.hid (And.intro hs2 hb2)
      clear hc hs2 hb2
      go_wp2_with fail
      refine ⟨⟨k + 1, by go_num, by omega, HH.out.1.below ((Below.refl _ _).alloc (Nat.le_refl _) _), HH.out.2.alloc HH.out.2.size _⟩, by simp [intOf]; omega⟩
    · have e2 : ¬ (k : Int) < (n : Int) := by omega
      obtain rfl : k = n := by omega
      by_cases h0 : k = 0
      · subst h0
        have KJ := Lib.hid (fun w => Try.strings_Join_none (some ⟨W.heap.size, 0, none⟩) 0 ⟨#[32]⟩ w)
        go_wp2_with fail
        refine (KJ.out _).mono ?_
        rintro e w1 ⟨rfl, rfl⟩
        go_wp2_with fail
        go_ret
        exact ⟨rfl, hb⟩
      · have KJ := Try.strings_Join W.heap.size 0 k (xsF f k) ⟨#[32]⟩ wr (fun j x hx => by
          obtain ⟨hj, rfl⟩ := xsF_get hx
          rw [Nat.zero_add, hs.cell hj, if_pos hj]) hs.lt (by rw [xsF_len]; omega) (by rw [xsF_len]; exact Nat.le_refl _) (by
            show (Lib.join (jl f k) [32]).length ≤ _
            rw [join_is]; exact HL.out)
        rw [xsF_len] at KJ
        replace KJ := Lib.hid KJ
        have HT := Lib.hid (show (⟨(Lib.join ((xsF f k).map (·.data.toList)) (⟨#[32]⟩ : ByteArray).data.toList).toArray⟩ : ByteArray) = tx (joinT (jl f k)) by
          rw [← join_is]; rfl)
        rw [HT.out] at KJ
        go_wp2_with fail
        refine KJ.out.mono ?_
        rintro e w1 ⟨rfl, hq⟩
        go_wp2_with fail
        go_ret
        exact ⟨rfl, hb.trans (hq.mono hb.size)⟩
theorem joinT_snoc : ∀ (l : List (List UInt8)) (x : List UInt8), l ≠ [] → joinT (l ++ [x]) = joinT l ++ 32 :: x
  | [], x, h => absurd rfl h
  | [a], x, _ => rfl
  | a :: b :: r, x, _ => by
    have := joinT_snoc (b :: r) x (by simp)
    show a ++ 32 :: joinT (b :: r ++ [x]) = (a ++ 32 :: joinT (b :: r)) ++ 32 :: x
    rw [this]; simp
theorem jl_succ (f : Nat → Rt) (k : Nat) : jl f (k + 1) = jl f k ++ [(f k).x.data.toList] := by
  unfold jl xsF
  rw [List.range_succ, List.map_append, List.map_append]; rfl
theorem jl_len (f : Nat → Rt) (k : Nat) : (jl f k).length = k := by simp [jl, xsF]
theorem jl_size {f : Nat → Rt} {n : Nat} (h : ∀ j, j < n → (f j).x.size ≤ 1000) : ∀ k, k ≤ n → (joinT (jl f k)).length ≤ 1001 * k
  | 0, _ => by simp [jl, xsF, joinT]
  | k + 1, hk => by
    have h1 := jl_size h k (by omega)
    have h2 := h k (by omega)
    have h3 : (f k).x.data.toList.length = (f k).x.size := by simp
    rw [jl_succ]
    by_cases h0 : jl f k = []
    · rw [h0]; show (f k).x.data.toList.length ≤ _; omega
    · rw [joinT_snoc _ _ h0, List.length_append, List.length_cons]; omega
/-- All texts so far, joined. -/
def Tj (f : Nat → Rt) (k : Nat) : ByteArray := tx (joinT (jl f k))
theorem Tj_one (f : Nat → Rt) : Tj f 0 ++ (f 0).x = Tj f 1 := by
  unfold Tj
  rw [jl_succ]
  show tx [] ++ _ = tx ((f 0).x.data.toList)
  rw [tx_back]
  exact bytes_ext (by rw [ByteArray.data_append, Array.toList_append]; rfl)
theorem Tj_more (f : Nat → Rt) (k : Nat) (h : 0 < k) : Tj f k ++ ⟨#[32]⟩ ++ (f k).x = Tj f (k + 1) := by
  unfold Tj
  rw [jl_succ, joinT_snoc _ _ (fun h2 => by have := jl_len f k; rw [h2] at this; simp at this; omega)]
  exact bytes_ext (by
    rw [ByteArray.data_append, Array.toList_append, ByteArray.data_append, Array.toList_append, tx_list, tx_list]
    simp)
set_option maxHeartbeats 1600000 in
theorem rJoin_is (a : Option Addr) (n c : Nat) (f : Nat → Rt) (W : World) (h : Qs W a n f) (hn : n ≤ 1000) (hl : ∀ j, j < n → (f j).x.size ≤ 1000) :
    Calls Try.prog 17 #[.slice a n c] W (StrBelow (joinT (jl f n)) W) := by
  have H := Lib.hid h
  have HL := Lib.hid hl
  have HZ := Lib.hid (fun k hk => (show (Tj f k).size ≤ 1001 * k from jl_size hl k hk))
  have HE := Lib.hid (show Tj f n = tx (joinT (jl f n)) from rfl)
  have H0 := Lib.hid (show (⟨#[]⟩ : ByteArray) = Tj f 0 from rfl)
  clear h hl
  go_enter Try.func17, Try.ntmps17
  go_wp2_with fail
  go_loop [3, 4] (fun sv iv => ∃ k : Nat, iv = .int .i64 k ∧ k ≤ n ∧ sv = .string (Tj f k)) (fun _ iv => n - (intOf iv).toNat)
  case atStart => exact ⟨0, rfl, by omega, by rw [← H0.out]⟩
  case round =>
    obtain ⟨k, rfl, hk, rfl⟩ := hrel
    by_cases hlt : k < n
    · have e2 : (k : Int) < (n : Int) := by omega
      obtain ⟨gb, off, rfl, hc⟩ := H.out (by omega)
      have c1 := (hc k hlt).2.1
      have z1 := HZ.out k hk
      have z2 := HL.out k hlt
      clear hc
      by_cases h0 : 0 < k
      · have e3 : (0 : Int) < (k : Int) := by omega
        have HX := Lib.hid (Tj_more f k h0)
        generalize Tj f k = tk at *
        have z3 : (tk ++ (⟨#[32]⟩ : ByteArray)).size ≤ 2000000 := by
          rw [ByteArray.size_append, show (⟨#[32]⟩ : ByteArray).size = 1 from rfl]; omega
        generalize (f k).x = x at *
        go_wp2_with fail
        go_round
        case rel => exact ⟨k + 1, by go_num, by omega, by rw [← HX.out]⟩
        case measure => simp [intOf]; omega
      · obtain rfl : k = 0 := by omega
        have HX := Lib.hid (Tj_one f)
        generalize Tj f 0 = tk at *
        generalize (f 0).x = x at *
        go_wp2_with fail
        go_round
        case rel => exact ⟨1, by go_num, by omega, by rw [← HX.out]⟩
        case measure => simp [intOf]; omega
    · have e2 : ¬ (k : Int) < (n : Int) := by omega
      obtain rfl : k = n := by omega
      go_wp2_with fail
      go_ret
      exact ⟨by rw [← HE.out]; rfl, Below.refl _ _⟩
theorem below_drewN {B : Nat} {a w : World} (h : Below B a w) (q : Nat) : Below B a (w.drewN q) := ⟨h.os, h.tape, h.output, h.size, h.block⟩
/-- Two rows that read alike are the same. -/
theorem Toks_is (a1 a2 : Option Addr) (n c1 c2 : Nat) (f : Nat → Rt) (W : World) (h1 : Qs W a1 n f) (h2 : Qs W a2 n f) (hn : n ≤ 9223372036854775807) :
    Calls Try.prog 15 #[.slice a1 n c1, .slice a2 n c2] W fun e W' => e = .returned (.bool true) ∧ Below W.heap.size W W' := by
  have H1 := Lib.hid h1
  have H2 := Lib.hid h2
  clear h1 h2
  go_enter Try.func15, Try.ntmps15
  go_wp2_with fail
  go_loopw [5] (fun iv wr => ∃ k : Nat, iv = .int .i64 k ∧ k ≤ n ∧ Below W.heap.size W wr) (fun iv _ => n - (intOf iv).toNat)
  case atStart => exact ⟨0, rfl, by omega, Below.refl _ _⟩
  case round =>
    obtain ⟨k, rfl, hk, hb⟩ := hrel
    by_cases hlt : k < n
    · have e2 : (k : Int) < (n : Int) := by omega
      obtain ⟨g1, o1, rfl, hc1⟩ := H1.out (by omega)
      obtain ⟨g2, o2, rfl, hc2⟩ := H2.out (by omega)
      have x0 := (hb.cell (p := ⟨g1, o1 + k * 3, none⟩) (World.block_lt_of_cell? W _ (hc1 k hlt).1)).trans (hc1 k hlt).1
      have x1 := (hb.cell (p := ⟨g1, o1 + k * 3 + 1, none⟩) (World.block_lt_of_cell? W _ (hc1 k hlt).2.1)).trans (hc1 k hlt).2.1
      have x2 := (hb.cell (p := ⟨g1, o1 + k * 3 + 2, none⟩) (World.block_lt_of_cell? W _ (hc1 k hlt).2.2)).trans (hc1 k hlt).2.2
      have y0 := (hb.cell (p := ⟨g2, o2 + k * 3, none⟩) (World.block_lt_of_cell? W _ (hc2 k hlt).1)).trans (hc2 k hlt).1
      have y1 := (hb.cell (p := ⟨g2, o2 + k * 3 + 1, none⟩) (World.block_lt_of_cell? W _ (hc2 k hlt).2.1)).trans (hc2 k hlt).2.1
      have y2 := (hb.cell (p := ⟨g2, o2 + k * 3 + 2, none⟩) (World.block_lt_of_cell? W _ (hc2 k hlt).2.2)).trans (hc2 k hlt).2.2
      clear hc1 hc2
      go_wp2_with fail
      go_quiet (fail)
      go_wp2_with fail
      go_roundw
      case rel => exact ⟨k + 1, by go_num, by omega, below_drewN hb nq⟩
      case measure => simp [intOf]; omega
    · have e2 : ¬ (k : Int) < (n : Int) := by omega
      go_wp2_with fail
      go_ret
      exact ⟨rfl, hb⟩
end Go.Proofs.Ytpmndcnjmocidaa

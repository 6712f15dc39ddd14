import Derived.Test.YtpledghphljfkaaDoorMaj
import Derived.Test.YtpledghphljfkaaDoorMal
import Derived.Deep.RegionHeld3
import Derived.Deep.DeepCutAuto
/-
  val.Ints and All of numbers that are told as texts; ValInts at every list.
-/
namespace Go.Proofs.YtpledghphljfkaaDoor
set_option linter.unusedVariables false
set_option linter.unusedSimpArgs false
open Go.RowKit

theorem run_mki (n : Nat) (hn : n ≤ 1000000) (w : World) :
    (Instr.makeSlice 22 (.int .i64 (n : Int)) (.int .i64 (n : Int))).run Tryd.prog w = .ok (.slice (some ⟨w.heap.size, 0, none⟩) n n) (w.alloc (.cells (madeCells #[.int .i64 0] n) 3)) :=
  run_make_row' 22 3 _ 8 Tryd.underlying22 infoInt1 rfl _ _ n (by omega) (by omega) w
/-- A whole row of ints of the call's own. -/
def Ir (w : World) (g n : Nat) (F : Nat → Int) : Prop := w.rowIs g 3 n (fun j => Value.int .i64 (F j))
theorem Ir.made (w : World) (n : Nat) : Ir (w.alloc (.cells (madeCells #[.int .i64 0] n) 3)) w.heap.size n (fun _ => 0) := World.rowIs_made w _ n _
theorem Ir.cell {w : World} {g n : Nat} {F : Nat → Int} (h : Ir w g n F) {i : Nat} (hi : i < n) : w.cell? ⟨g, i, none⟩ = some (.int .i64 (F i)) := World.rowIs.cell h hi
theorem Ir.frozen {w : World} {g n : Nat} {F : Nat → Int} (h : Ir w g n F) (i : Nat) : w.frozen? ⟨g, i, none⟩ = false := World.rowIs.frozen h i
theorem Ir.below {w w' : World} {g n : Nat} {F : Nat → Int} (h : Ir w g n F) (hb : Below w.heap.size w w') : Ir w' g n F := World.rowIs.of_block h (hb.block g (World.rowIs.lt h))
theorem Ir.set {w : World} {g n : Nat} {F : Nat → Int} (h : Ir w g n F) (i : Nat) (v : Int) : Ir (w.setCell ⟨g, i, none⟩ (.int .i64 v)) g n (fun j => if j = i then v else F j) := by
  refine (World.rowIs.set h i _).congr fun j _ => ?_
  show (if j = i then _ else _) = Value.int .i64 (if j = i then v else F j)
  split <;> rfl
theorem Ir.sl {w : World} {g n : Nat} {F : Nat → Int} (h : Ir w g n F) {l : List Int} (hl : l.length = n) (e : ∀ j, j < n → F j = l.getD j 0) : Sl w (some ⟨g, 0, none⟩) n l :=
  ⟨hl, fun _ => ⟨g, 0, rfl, fun j hj => by rw [Nat.zero_add, h.cell hj, e j hj]⟩⟩
theorem Sr.frozen {w : World} {g n : Nat} {F : Nat → ByteArray} (h : Sr w g n F) (i : Nat) : w.frozen? ⟨g, i, none⟩ = false := World.rowIs.frozen h i
theorem Sr.set {w : World} {g n : Nat} {F : Nat → ByteArray} (h : Sr w g n F) (i : Nat) (v : ByteArray) : Sr (w.setCell ⟨g, i, none⟩ (.string v)) g n (fun j => if j = i then v else F j) := by
  refine (World.rowIs.set h i _).congr fun j _ => ?_
  show (if j = i then _ else _) = Value.string (if j = i then v else F j)
  split <;> rfl
theorem map_getD (l : List Int) {j : Nat} (hj : j < l.length) : (l.map S).getD j ByteArray.empty = S (l.getD j 0) := by
  simp [List.getD_eq_getElem?_getD, List.getElem?_eq_getElem hj]

/-! ### Ints -/
def InEnd (n : Nat) (l : List Int) (W : World) (e : Ending) (W' : World) : Prop :=
  ∃ g1 g2, e = .returned (.agg #[.slice (some ⟨g1, 0, none⟩) 1 1, .slice (some ⟨g2, 0, none⟩) n n]) ∧ Vl W' (some ⟨g1, 0, none⟩) 1 (some ⟨g2, 0, none⟩) n [(n : Int)] (l.map S) ∧ Below W.heap.size W W'
set_option maxRecDepth 10000 in
set_option maxHeartbeats 800000 in
theorem Ints_is (a : Option Addr) (n c : Nat) (l : List Int) (W : World) (h : Sl W a n l) (hi : ∀ j, j < n → I64 (l.getD j 0)) (hn : n ≤ 1000000) (ht : WT W) :
    Calls Tryd.prog 20 #[.slice a n c] W (InEnd n l W) := by
  have HS := Lib.hid h
  have HI := Lib.hid hi
  have HW := Lib.hid ht
  have hmk := run_mks n hn
  clear h hi ht
  go_enter Tryd.func20, Tryd.ntmps20
  go_wp2_with fail
  have hA := (Bx.new W none 0 0 none 0 0).alloc (.cells (madeCells #[.string ⟨#[]⟩] n) 9)
  have hR := Sr.made (W.alloc (.cells #[.slice none 0 0, .slice none 0 0] 25)) n
  rw [show (W.alloc (.cells #[.slice none 0 0, .slice none 0 0] 25)).heap.size = W.heap.size + 1 by simp] at hR
  have hb0 : Below W.heap.size W ((W.alloc (.cells #[.slice none 0 0, .slice none 0 0] 25)).alloc (.cells (madeCells #[.string ⟨#[]⟩] n) 9)) := ((Below.refl _ _).alloc (Nat.le_refl _) _).alloc (by simp) _
  clear hmk
  go_loopw [11] (fun i wr => ∃ (k : Nat) (F : Nat → ByteArray), i = .int .i64 k ∧ k ≤ n ∧ Sr wr (W.heap.size + 1) n F ∧ Hid (∀ j, j < k → F j = S (l.getD j 0)) ∧ Bx wr W.heap.size none 0 0 none 0 0 ∧ Below W.heap.size W wr) (fun i _ => n - (intOf i).toNat)
  case atStart => exact ⟨0, _, rfl, by omega, hR, Lib.hid (fun j hj => by omega), hA, hb0⟩
  case round =>
    obtain ⟨k, F, rfl, hk, hR1, HF, hA1, hb1⟩ := hrel
    clear hA hR hb0
    by_cases hlt : k < n
    · have e2 : (k : Int) < (n : Int) := by omega
      obtain ⟨bb, off, rfl, hc⟩ := HS.out.2 (by omega)
      have hck := (hb1.cell (p := ⟨bb, off + k, none⟩) (World.block_lt_of_cell? W _ (hc k hlt))).trans (hc k hlt)
      have KO := Lib.hid (Of_any (l.getD k 0) (HI.out k hlt).1 (HI.out k hlt).2 wr (HW.out.below hb1).tab)
      obtain ⟨x, hx⟩ : ∃ x, x = l.getD k 0 := ⟨_, rfl⟩
      rw [← hx] at hck KO
      have HX := Lib.hid hx
      clear hc hx
      go_wp2_with fail
      refine KO.out.mono ?_
      rintro e w2 ⟨rfl, hb⟩
      have hA2 := hA1.below hb hA1.lt
      have hR2 := hR1.below hb
      have hb2 := hb1.trans (hb.mono hb1.size)
      have y0 := hR2.cell (i := k) hlt
      have f0 := hR2.frozen k
      clear hA1 hR1 hb1 hb hck
      have hR3 := hR2.set k (S x)
      have hA3 := hA2.setOther (p := ⟨W.heap.size + 1, k, none⟩) (show W.heap.size ≠ W.heap.size + 1 by omega) (.string (S x))
      have hb3 := hb2.setCell (p := ⟨W.heap.size + 1, k, none⟩) (show W.heap.size ≤ W.heap.size + 1 by omega) (.string (S x))
      have HF2 : Hid (∀ j, j < k + 1 → (fun j => if j = k then S x else F j) j = S (l.getD j 0)) := Lib.hid fun j hj => by
        show (if j = k then S x else F j) = _
        by_cases hjk : j = k
        · rw [if_pos hjk, hjk, HX.out]
        · rw [if_neg hjk]; exact HF.out j (by omega)
      go_wp2_with fail
      go_roundw
      case rel => exact ⟨k + 1, _, by go_num, by omega, hR3, HF2, hA3, hb3⟩
      case measure => simp [intOf]; omega
    · have e2 : ¬ (k : Int) < (n : Int) := by omega
      obtain rfl : k = n := by omega
      have hA2 := hA1.alloc (.cells #[.int .i64 k] 3)
      have y0 := hA2.c0
      have y1 := hA2.c1
      have f0 := hA2.f 0
      have f1 := hA2.f 1
      have hb2 := hb1.alloc hb1.size (.cells #[.int .i64 k] 3)
      have hS : Sl (wr.alloc (.cells #[.int .i64 k] 3)) (some ⟨wr.heap.size, 0, none⟩) 1 [(k : Int)] := Sl.row (l := [(k : Int)]) (heap_alloc_new wr _)
      have hT : St (wr.alloc (.cells #[.int .i64 k] 3)) (some ⟨W.heap.size + 1, 0, none⟩) k (l.map S) := (hR1.st (by rw [List.length_map, HS.out.1]) (fun j hj => by rw [HF.out j hj, map_getD l (by rw [HS.out.1]; exact hj)])).below ((Below.refl _ _).alloc (Nat.le_refl _) _)
      clear hA1 hR1 hb1
      go_wp2_with fail
      have hA3 := hA2.set (some ⟨wr.heap.size, 0, none⟩) 1 1 (some ⟨W.heap.size + 1, 0, none⟩) k k
      have r0 := hA3.c0
      have r1 := hA3.c1
      exact bodyPost_ret (v := .agg #[.slice (some ⟨wr.heap.size, 0, none⟩) 1 1, .slice (some ⟨W.heap.size + 1, 0, none⟩) k k]) (by simp [results, Tryd.results20, go_sem, r0, r1]) rfl ⟨_, _, rfl, ⟨hA2.sl hS _ _, hA2.st hT _ _, by omega⟩, below_made hb2 (Nat.le_refl _) _ _⟩

/-! ### All -/
def AlEnd (n : Nat) (l : List Int) (W : World) (e : Ending) (W' : World) : Prop :=
  ∃ a n' c' z, e = .returned (.tuple #[.slice a n' c', .int .i64 z]) ∧ ((l.all fine = true ∧ z = 0 ∧ n' = n ∧ Sl W' a n' l) ∨ (l.all fine = false ∧ z = 5)) ∧ Below W.heap.size W W'
theorem fine_all {l : List Int} : l.all fine = true ↔ ∀ j, j < l.length → fine (l.getD j 0) = true := by
  rw [List.all_eq_true]
  constructor
  · intro h j hj
    rw [List.getD_eq_getElem?_getD, List.getElem?_eq_getElem hj]
    exact h _ (List.getElem_mem hj)
  · intro h x hx
    obtain ⟨j, hj, rfl⟩ := List.getElem_of_mem hx
    have := h j hj
    rwa [List.getD_eq_getElem?_getD, List.getElem?_eq_getElem hj] at this
theorem fine_some {l : List Int} {j : Nat} (hj : j < l.length) (h : fine (l.getD j 0) = false) : l.all fine = false := by
  rw [← Bool.not_eq_true]
  intro hh
  rw [fine_all.1 hh j hj] at h
  cases h
set_option maxRecDepth 10000 in
set_option maxHeartbeats 800000 in
theorem All_is {a b : Option Addr} {k c n d : Nat} {s l : List Int} (W : World) (h : Vl W a k b n s (l.map S)) (hi : ∀ j, j < n → I64 (l.getD j 0)) (hn : n ≤ 1000000) :
    Calls Tryd.prog 16 #[.agg #[.slice a k c, .slice b n d]] W (AlEnd n l W) := by
  have hll : l.length = n := by have := h.t.1; rwa [List.length_map] at this
  have HL := Lib.hid hll
  have HT := Lib.hid h.t
  have HI := Lib.hid hi
  have hmk := run_mki n hn
  clear h hi hll
  go_enter Tryd.func16, Tryd.ntmps16
  have hA := (Bx.new W a k c b n d).alloc (.cells (madeCells #[.int .i64 0] n) 3)
  have x1 := hA.c1
  go_wp2_with fail
  have hR := Ir.made (W.alloc (.cells #[.slice a k c, .slice b n d] 25)) n
  rw [show (W.alloc (.cells #[.slice a k c, .slice b n d] 25)).heap.size = W.heap.size + 1 by simp] at hR
  have hb0 : Below W.heap.size W ((W.alloc (.cells #[.slice a k c, .slice b n d] 25)).alloc (.cells (madeCells #[.int .i64 0] n) 3)) := ((Below.refl _ _).alloc (Nat.le_refl _) _).alloc (by simp) _
  clear hmk x1
  go_loopw [16] (fun i wr => ∃ (q : Nat) (F : Nat → Int), i = .int .i64 q ∧ q ≤ n ∧ Ir wr (W.heap.size + 1) n F ∧ Hid (∀ j, j < q → F j = l.getD j 0 ∧ fine (l.getD j 0) = true) ∧ Below W.heap.size W wr) (fun i _ => n - (intOf i).toNat)
  case atStart => exact ⟨0, _, rfl, by omega, hR, Lib.hid (fun j hj => by omega), hb0⟩
  case round =>
    obtain ⟨q, F, rfl, hq, hR1, HF, hb1⟩ := hrel
    clear hA hR hb0
    by_cases hlt : q < n
    · have e2 : (q : Int) < (n : Int) := by omega
      obtain ⟨bb, off, rfl, hc⟩ := HT.out.2 (by omega)
      have hck := (hb1.cell (p := ⟨bb, off + q, none⟩) (World.block_lt_of_cell? W _ (hc q hlt))).trans (hc q hlt)
      rw [map_getD l (by rw [HL.out]; exact hlt)] at hck
      have hx64 := HI.out q hlt
      obtain ⟨x, hx⟩ : ∃ x, x = l.getD q 0 := ⟨_, rfl⟩
      rw [← hx] at hck hx64
      have KO := Lib.hid (Int_ok x hx64.1 hx64.2 wr)
      have HX := Lib.hid hx
      clear hc hx hx64
      generalize hs : S x = t at hck KO
      clear hs
      rcases Bool.eq_false_or_eq_true (fine x) with hf | hf
      · have KN := Lib.hid (near_yes t x wr KO.out hf)
        have HFX := Lib.hid hf
        clear hf
        go_wp2_with fail
        refine KN.out.mono ?_
        rintro e w2 ⟨rfl, hb⟩
        have hR2 := hR1.below hb
        have hb2 := hb1.trans (hb.mono hb1.size)
        have y0 := hR2.cell (i := q) hlt
        have f0 := hR2.frozen q
        clear hR1 hb1 hb hck
        have hR3 := hR2.set q x
        have hb3 := hb2.setCell (p := ⟨W.heap.size + 1, q, none⟩) (show W.heap.size ≤ W.heap.size + 1 by omega) (.int .i64 x)
        have HF2 : Hid (∀ j, j < q + 1 → (fun j => if j = q then x else F j) j = l.getD j 0 ∧ fine (l.getD j 0) = true) := Lib.hid fun j hj => by
          show (if j = q then x else F j) = _ ∧ _
          by_cases hjk : j = q
          · rw [if_pos hjk, hjk, ← HX.out]; exact ⟨rfl, HFX.out⟩
          · rw [if_neg hjk]; exact HF.out j (by omega)
        go_wp2_with fail
        go_roundw
        case rel => exact ⟨q + 1, _, by go_num, by omega, hR3, HF2, hb3⟩
        case measure => simp [intOf]; omega
      · have KN := Lib.hid (near_no t x true wr KO.out (.inr hf))
        have HN := Lib.hid (fine_some (l := l) (j := q) (by rw [HL.out]; exact hlt) (by rw [← HX.out]; exact hf))
        clear hf
        go_wp2_with fail
        refine KN.out.mono ?_
        rintro e w2 ⟨rfl, hb⟩
        have hb2 := hb1.trans (hb.mono hb1.size)
        go_wp2_with fail
        go_ret2
        exact ⟨none, 0, 0, 5, rfl, .inr ⟨HN.out, rfl⟩, hb2⟩
    · have e2 : ¬ (q : Int) < (n : Int) := by omega
      obtain rfl : q = n := by omega
      have hS : Sl wr (some ⟨W.heap.size + 1, 0, none⟩) q l := hR1.sl HL.out (fun j hj => (HF.out j hj).1)
      have HSS := Lib.hid hS
      have HAll := Lib.hid (fine_all.2 fun j hj => (HF.out j (by rw [HL.out] at hj; exact hj)).2)
      clear hS hR1
      go_wp2_with fail
      go_ret2
      exact ⟨_, _, _, 0, rfl, .inl ⟨HAll.out, rfl, rfl, HSS.out⟩, hb1⟩
end Go.Proofs.YtpledghphljfkaaDoor
/-
  slices.Reverse of a slice of the call's own; val.Int; mould's part and counts.
-/
namespace Go.Proofs.YtpledghphljfkaaDoor
set_option linter.unusedVariables false
set_option linter.unusedSimpArgs false
open Go.RowKit

/-! ### slices.Reverse -/
/-- near of a number's text. -/
theorem near_S {x : Int} (hl : x.natAbs < lim) (W : World) (hW : WT W) : Calls Tryd.prog 34 #[.string (S x)] W (NearEnd (if nearM x then x else 0) (if nearM x then 0 else 5) W) := by
  have hi := Int_opt (s := S x) (o := some x) ⟨rfl, hl⟩ W hW.err
  cases hf : nearM x
  · refine near_no (S x) _ _ W hi ?_
    unfold intO
    dsimp only
    by_cases h : I64 x
    · rw [if_pos h]; exact .inr hf
    · rw [if_neg h]; exact .inl rfl
  · have h := nearM_yes.1 hf
    have h64 : I64 x := by unfold I64; omega
    unfold intO at hi
    dsimp only at hi
    rw [if_pos h64] at hi
    exact near_yes (S x) x W hi hf
section
variable {W : World} {a b : Option Addr} {n c m d : Nat} {l : List Int} {es : List ByteArray} {q : Ar}
end
end Go.Proofs.YtpledghphljfkaaDoor
/-
  mould's part: some items of an array that has an axis.
-/
namespace Go.Proofs.YtpledghphljfkaaDoor
set_option linter.unusedVariables false
set_option linter.unusedSimpArgs false
open Go.RowKit

/-! ### part -/
def PtEnd (l : List Int) (es : List ByteArray) (W : World) (e : Ending) (W' : World) : Prop :=
  ∃ a n c b m d, e = .returned (.agg #[.slice a n c, .slice b m d]) ∧ Vl W' a n b m l es ∧ Cp n c m d ∧ Below W.heap.size W W'
section
variable {W : World} {a b : Option Addr} {n c m d : Nat} {l : List Int} {es : List ByteArray} {q : Ar}
theorem Av.cuts (h : Av W a n c b m d l es (some q)) {f t : Nat} (hft : f ≤ t) (ht : t ≤ mN l) : f * iS l m ≤ t * iS l m ∧ t * iS l m ≤ m ∧ ctM l es f t = (es.drop (f * iS l m)).take (t * iS l m - f * iS l m) := by
  obtain ⟨h1, _, _, h4⟩ := h.items
  have h5 : t * iS l m ≤ mN l * iS l m := Nat.mul_le_mul_right _ ht
  refine ⟨Nat.mul_le_mul_right _ hft, by omega, ?_⟩
  unfold ctM
  by_cases h0 : m = 0
  · have he : es = [] := List.length_eq_zero_iff.1 (h.v.t.1.trans h0)
    rw [he]
    simp
  · have e : iS l m = kI l := if_neg h0
    rw [e, ← Nat.sub_mul]
theorem kept_box {w : World} {g g' : Nat} {x y v0 v1 : Value} (hne : g ≠ g') (h : w.cell? ⟨g, 0, none⟩ = some x ∧ w.cell? ⟨g, 1, none⟩ = some y) :
    ((w.setCell ⟨g', 0, none⟩ v0).setCell ⟨g', 1, none⟩ v1).cell? ⟨g, 0, none⟩ = some x ∧ ((w.setCell ⟨g', 0, none⟩ v0).setCell ⟨g', 1, none⟩ v1).cell? ⟨g, 1, none⟩ = some y := by
  have h1 : ∀ i j : Nat, (⟨g', i, none⟩ : Addr) ≠ ⟨g, j, none⟩ := fun i j e => by injection e with e; exact hne e.symm
  rw [World.cell?_setCell_other _ _ _ _ (h1 1 0), World.cell?_setCell_other _ _ _ _ (h1 0 0), World.cell?_setCell_other _ _ _ _ (h1 1 1), World.cell?_setCell_other _ _ _ _ (h1 0 1)]
  exact h
theorem own_new1 (w : World) (x : Int) : (w.alloc (.cells #[.int .i64 x] 3)).ownsRow w.heap.size 3 1 (.slice (some ⟨w.heap.size, 0, none⟩) 1 1) 1 (valsI [x]) :=
  ⟨rfl, .inr ⟨w.heap.size, 1, #[.int .i64 x], rfl, Nat.le_refl _, heap_alloc_new w _, Nat.le_refl _, by unfold maxLen; omega, rfl, rfl⟩⟩
end
end Go.Proofs.YtpledghphljfkaaDoor
/-
  mould's counts, Take, Drop, Iota, Tally, Shape, Ravel, by their contracts.
-/
namespace Go.Proofs.YtpledghphljfkaaDoor
set_option linter.unusedVariables false
set_option linter.unusedSimpArgs false
open Go.RowKit

theorem VMay_av {W : World} {a b : Option Addr} {n c m d : Nat} {l : List Int} {es : List ByteArray} {o : Option Ar} (h : Av W a n c b m d l es o) : Calls Tryd.prog 9 #[.agg #[.slice a n c, .slice b m d]] W (BoolEnd o.isSome W) := by
  have e := VMay_is (c := c) (d := d) W h.v h.z
  rwa [h.i.may] at e
theorem live10 (W : World) (a : Option Addr) (n c : Nat) (b : Option Addr) (m d : Nat) :
    Lv (fun w => Bx w W.heap.size a n c b m d ∧ Below W.heap.size W w) (W.alloc (.cells #[.slice a n c, .slice b m d] 25)) := ⟨⟨Bx.new W a n c b m d, (Below.refl _ _).alloc (Nat.le_refl _) _⟩⟩
theorem live20 (W : World) (a : Option Addr) (n c : Nat) (b : Option Addr) (m d : Nat) (a2 : Option Addr) (n2 c2 : Nat) (b2 : Option Addr) (m2 d2 : Nat) :
    Lv (fun w => Bx w (W.heap.size + 1) a2 n2 c2 b2 m2 d2 ∧ Bx w W.heap.size a n c b m d ∧ Below W.heap.size W w) ((W.alloc (.cells #[.slice a n c, .slice b m d] 25)).alloc (.cells #[.slice a2 n2 c2, .slice b2 m2 d2] 25)) :=
  ⟨⟨Bx.two W _ _ _ _ _ _ _, (Bx.new W a n c b m d).alloc _, ((Below.refl _ _).alloc (Nat.le_refl _) _).alloc (by simp) _⟩⟩
theorem live_pt {P : World → Prop} {w : World} {f : FuncId} {args : Array Value} {l : List Int} {es : List ByteArray} (h : Lv P w) (hc : Calls Tryd.prog f args w (PtEnd l es w))
    (hs : Stb P := by repeat' (first | exact Stb.bel _ | exact Stb.bx | exact Stb.vl | refine Stb.and ?_ ?_ | exact Stb.triv)) :
    Calls Tryd.prog f args w fun e w' => ∃ a n c b m d, e = .returned (.agg #[.slice a n c, .slice b m d]) ∧ Lv P w' ∧ Vl w' a n b m l es ∧ Cp n c m d :=
  hc.mono fun _ _ ⟨a, n, c, b, m, d, h1, h2, h3, h4⟩ => ⟨a, n, c, b, m, d, h1, ⟨hs _ _ h.out h4⟩, h2, h3⟩
theorem Ints_pt (a : Option Addr) (n c : Nat) (l : List Int) (W : World) (h : Sl W a n l) (hi : ∀ j, j < n → I64 (l.getD j 0)) (hn : n ≤ 1000000) (ht : WT W) : Calls Tryd.prog 20 #[.slice a n c] W (PtEnd [(n : Int)] (l.map S) W) :=
  (Ints_is a n c l W h hi hn ht).mono fun _ _ ⟨g1, g2, h1, h2, h3⟩ => ⟨_, _, _, _, _, _, h1, h2, ⟨Nat.le_refl _, by unfold maxLen; omega, Nat.le_refl _, by unfold maxLen; omega⟩, h3⟩
set_option maxRecDepth 100000 in
set_option maxHeartbeats 3200000 in
theorem Vector_pt (a : Option Addr) (n c : Nat) (es : List ByteArray) (W : World) (h : St W a n es) (hn : n ≤ 1000000) : Calls Tryd.prog 35 #[.slice a n c] W (PtEnd [(n : Int)] es W) := by
  have K := Lib.hid (fun w (hb : Below W.heap.size W w) => CloneS_o a n c es w (h.below hb) hn)
  clear h
  have hA := Bx.new W none 0 0 none 0 0
  have hb0 : Below W.heap.size W (W.alloc (.cells #[.slice none 0 0, .slice none 0 0] 25)) := (Below.refl _ _).alloc (Nat.le_refl _) _
  go_enter Tryd.func35, Tryd.ntmps35
  go_wp2_with fail
  have hb1 := hb0.alloc hb0.size (.cells #[.int .i64 n] 3)
  refine (K.out _ hb1).mono ?_
  rintro x w1 ⟨a', c', rfl, hs, hb⟩
  have hA2 := (hA.alloc (.cells #[.int .i64 n] 3)).below hb (by simp; omega)
  have hS : Sl ((W.alloc (.cells #[.slice none 0 0, .slice none 0 0] 25)).alloc (.cells #[.int .i64 n] 3)) (some ⟨W.heap.size + 1, 0, none⟩) 1 [(n : Int)] := by
    have := Sl.row (l := [(n : Int)]) (heap_alloc_new (W.alloc (.cells #[.slice none 0 0, .slice none 0 0] 25)) (.cells #[.int .i64 n] 3))
    rw [World.size_alloc] at this
    exact this
  have hS2 := hS.below hb
  have hb2 := hb1.trans (hb.mono hb1.size)
  have y0 := hA2.c0
  have y1 := hA2.c1
  have f0 := hA2.f 0
  have f1 := hA2.f 1
  have HS := Lib.hid (And.intro hS2 hs)
  clear hS hS2 hs hA hb0 hb1 hb
  go_wp2_with fail
  have hA3 := hA2.set (some ⟨W.heap.size + 1, 0, none⟩) 1 1 a' n c'
  have r0 := hA3.c0
  have r1 := hA3.c1
  exact bodyPost_ret (v := .agg #[.slice (some ⟨W.heap.size + 1, 0, none⟩) 1 1, .slice a' n c']) (by simp [results, Tryd.results35, go_sem, r0, r1]) rfl
    ⟨_, _, _, _, _, _, rfl, ⟨hA2.sl HS.out.1 _ _, hA2.st HS.out.2.st _ _, by omega⟩, ⟨Nat.le_refl _, by unfold maxLen; omega, HS.out.2.caps.1, HS.out.2.caps.2⟩, below_made hb2 (Nat.le_refl _) _ _⟩

/-! ### counts -/
def coM : Option Ar → Option Ar → Int × Int × Int
  | some v, some w => if (inM v).2 ≠ 0 then (0, 0, (inM v).2) else if w.1 = [] then (0, 0, 3) else ((inM v).1, itV w.1, 0)
  | _, _ => (0, 0, 1)
def CoEnd (r : Int × Int × Int) (W : World) (e : Ending) (W' : World) : Prop := e = .returned (.tuple #[.int .i64 r.1, .int .i64 r.2.1, .int .i64 r.2.2]) ∧ Below W.heap.size W W'
/-- What counts tells. -/
theorem co_cases {o p : Option Ar} : (coM o p).2.2 ≠ 0 ∧ (coM o p).1 = 0 ∧ (coM o p).2.1 = 0 ∨ ∃ q r, o = some q ∧ p = some r ∧ (inM q).2 = 0 ∧ r.1 ≠ [] ∧ coM o p = ((inM q).1, itV r.1, 0) := by
  cases o with
  | none => exact .inl ⟨by simp [coM], rfl, rfl⟩
  | some q =>
  cases p with
  | none => exact .inl ⟨by simp [coM], rfl, rfl⟩
  | some r =>
  unfold coM
  dsimp only
  by_cases he : (inM q).2 = 0
  · rw [if_neg (fun h => h he)]
    by_cases h0 : r.1 = []
    · rw [if_pos h0]; exact .inl ⟨by decide, rfl, rfl⟩
    · rw [if_neg h0]; exact .inr ⟨q, r, rfl, rfl, he, h0, rfl⟩
  · rw [if_pos he]; exact .inl ⟨he, rfl, rfl⟩
theorem inM_near {v : Ar} (h : (inM v).2 = 0) : -1099511627776 ≤ (inM v).1 ∧ (inM v).1 ≤ 1099511627776 := by
  unfold inM at h ⊢
  split
  · rename_i hc; rw [if_pos hc] at h; cases h
  · rename_i hc
    rw [if_neg hc] at h
    split
    · rename_i hn; exact nearM_yes.1 hn
    · rename_i hn; rw [if_neg hn] at h; cases h
theorem ctM_map (l : List Int) (xs : List Int) (f t : Nat) : ctM l (xs.map S) f t = (ctM l xs f t).map S := by
  unfold ctM
  rw [List.map_take, List.map_drop]
theorem cu_rok {w : Ar} (h : Fits w.1 w.2) (hl : w.1 ≠ []) {f t : Nat} (hft : f ≤ t) (ht : t ≤ nI w.1) (hb : ∀ x ∈ w.2, x.natAbs < lim) : Rok (some (cuM w f t)) := by
  have h2 := cuM_fits h hl hft ht
  exact ⟨szE_may.2 h2.1, h2.2, fun x hx => hb x (List.mem_of_mem_drop (List.mem_of_mem_take hx))⟩
theorem mN_nI {l : List Int} (h : l ≠ []) : mN l = nI l := by
  unfold mN nI itV
  rw [if_neg fun e => h (List.length_eq_zero_iff.1 e)]
theorem itV_hd {l : List Int} (h : l ≠ []) : itV l = l.getD 0 0 := if_neg fun e => h (List.length_eq_zero_iff.1 e)
end Go.Proofs.YtpledghphljfkaaDoor
/-
  mould's Iota, Tally, Shape, Ravel, Reverse, by their contracts.
-/
namespace Go.Proofs.YtpledghphljfkaaDoor
set_option linter.unusedVariables false
set_option linter.unusedSimpArgs false
open Go.RowKit

theorem live_to {P : World → Prop} {w w' : World} (h : Lv P w) (hb : Below w.heap.size w w')
    (hs : Stb P := by repeat' (first | exact Stb.bel _ | exact Stb.bx | exact Stb.vl | refine Stb.and ?_ ?_ | exact Stb.triv)) : Lv P w' := ⟨hs _ _ h.out hb⟩
theorem up_len (t : Nat) : (upM t).length = t := by simp [upM]
theorem up_at {t j : Nat} (h : j < t) : (upM t).getD j 0 = (j : Int) := by simp [upM, List.getD_eq_getElem?_getD, List.getElem?_range h]
theorem up_succ (k : Nat) : valsI (upM (k + 1)) = valsI (upM k) ++ valsI [(k : Int)] := by simp [upM, valsI, List.range_succ]
theorem vec_rok {t : Nat} {xs : List Int} (ht : t ≤ 4096) (hl : xs.length = t) (hb : ∀ x ∈ xs, x.natAbs < lim) : Rok (some ([(t : Int)], xs)) := by
  refine ⟨szE_may.2 ⟨by simp, fun j hj => ?_, fun j hj => ?_, ?_⟩, by show (xs.length : Int) = (t : Int) * 1; omega, hb⟩
  · obtain rfl : j = 0 := by simpa using hj
    show (0 : Int) ≤ (t : Int); omega
  · obtain rfl : j = 0 := by simpa using hj
    show (t : Int) ≤ 1099511627776; omega
  · show (t : Int) * 1 ≤ 4096; omega
theorem small_rok {x : Int} (h : x.natAbs < 10000000000000000000000) : x.natAbs < lim := Nat.lt_of_lt_of_le h lim_big
theorem up_rok {t : Nat} (h : t ≤ 4096) : Rok (some ([(t : Int)], upM t)) := vec_rok h (up_len t) fun x hx => by
  obtain ⟨j, hj, rfl⟩ := List.mem_map.1 hx
  have := List.mem_range.1 hj
  exact small_rok (by omega)
theorem Itoa_is (n : Int) (h0 : -9223372036854775808 ≤ n) (h1 : n ≤ 9223372036854775807) (w : World) (htab : Tab w) : Calls Tryd.prog 89 #[.int .i64 n] w fun e w' => e = .returned (.string (S n)) ∧ Below w.heap.size w w' :=
  (Tryd.strconv_Itoa n h0 h1 w htab.is).mono fun e w' ⟨he, k, os, hw⟩ => ⟨he, by rw [hw]; exact Lib.below_grow _ w (Nat.le_refl _) k os⟩
end Go.Proofs.YtpledghphljfkaaDoor
/-
  mould's Reverse, Flip, by their contracts.
-/
namespace Go.Proofs.YtpledghphljfkaaDoor
set_option linter.unusedVariables false
set_option linter.unusedSimpArgs false
open Go.RowKit

/-! ### Reverse -/
theorem valsS_add (l k : List ByteArray) : valsS l ++ valsS k = valsS (l ++ k) := by unfold valsS; rw [List.map_append]
theorem live_ci {P : World → Prop} {w : World} {f : FuncId} {args : Array Value} {n : Nat} {l : List Int} (h : Lv P w) (hc : Calls Tryd.prog f args w (ClI n l w))
    (hs : Stb P := by repeat' (first | exact Stb.bel _ | exact Stb.bx | exact Stb.vl | refine Stb.and ?_ ?_ | exact Stb.triv)) :
    Calls Tryd.prog f args w fun e w' => ∃ a c, e = .returned (.slice a n c) ∧ Lv P w' ∧ OwI w w' a n c l ∧ Below w.heap.size w w' :=
  hc.mono fun _ _ ⟨a, c, h1, h2, h3⟩ => ⟨a, c, h1, ⟨hs _ _ h.out h3⟩, h2, h3⟩
section
variable {α : Type}
theorem its_none (k : Nat) : ∀ l : List Nat, its ([] : List α) k l = []
  | [] => rfl
  | i :: r => by show _ ++ its [] k r = []; rw [its_none k r]; simp
/-- The items from j on, the last one first. -/
def rvJ (es : List α) (k N j : Nat) : List α := its es k (List.range' j (N - j)).reverse
theorem rvJ_start (es : List α) (k N : Nat) : rvJ es k N N = [] := by unfold rvJ; rw [Nat.sub_self]; rfl
theorem rvJ_step (es : List α) (k : Nat) {N i : Nat} (h : i < N) : rvJ es k N i = rvJ es k N (i + 1) ++ (es.drop (i * k)).take k := by
  unfold rvJ
  rw [show N - i = (N - (i + 1)) + 1 by omega, List.range'_succ, List.reverse_cons, its_append]
  show _ ++ ((es.drop (i * k)).take k ++ its es k []) = _
  rw [show its es k [] = ([] : List α) from rfl, List.append_nil]
theorem rvJ_len {es : List α} {k N : Nat} (he : es.length = N * k) (j : Nat) (h : j ≤ N) : (rvJ es k N j).length = (N - j) * k := by
  unfold rvJ
  rw [its_length he (fun i hi => by have := List.mem_range'_1.1 (List.mem_reverse.1 hi); omega), List.length_reverse, List.length_range']
theorem rvJ_end (es : List α) (k N : Nat) : rvJ es k N 0 = rvs_ es k N := by unfold rvJ rvs_; rw [Nat.sub_zero, List.range_eq_range']
theorem rvM_is {l : List Int} {es : List α} (h : Fits l es) : rvM l es = rvJ es (iS l es.length) (mN l) 0 := by
  rw [rvJ_end]
  unfold rvM rvs_
  by_cases h0 : es = []
  · rw [if_pos (.inr h0), h0, its_none]
  · have hk : iS l es.length = kI l := if_neg fun e => h0 (List.length_eq_zero_iff.1 e)
    rw [hk]
    by_cases hl : l = []
    · subst hl
      rw [if_pos (.inl rfl)]
      have he := h.all.1
      have e1 : es.length = 1 := he
      show es = (es.drop (0 * 1)).take 1 ++ []
      rw [List.append_nil, Nat.zero_mul, List.drop_zero, List.take_of_length_le (by omega)]
    · rw [if_neg (fun g => g.elim hl h0), mN_nI hl]
end
theorem its_map (es : List Int) (k : Nat) : ∀ l : List Nat, its (es.map S) k l = (its es k l).map S
  | [] => rfl
  | i :: r => by
    show _ ++ its (es.map S) k r = (_ ++ its es k r).map S
    rw [its_map es k r, List.map_append, List.map_take, List.map_drop]
theorem rvM_map (l xs : List Int) : rvM l (xs.map S) = (rvM l xs).map S := by
  unfold rvM
  by_cases h : l = [] ∨ xs = []
  · rw [if_pos h, if_pos (by rcases h with h | h; exact .inl h; exact .inr (by rw [h]; rfl))]
  · rw [if_neg h, if_neg (by rintro (g | g); exact h (.inl g); exact h (.inr (List.map_eq_nil_iff.1 g)))]
    exact its_map _ _ _
theorem its_sub {α : Type} {es : List α} {k : Nat} : ∀ {l : List Nat} {x : α}, x ∈ its es k l → x ∈ es
  | [], _, h => by cases h
  | i :: r, x, h => by
    rcases List.mem_append.1 h with h | h
    · exact List.mem_of_mem_drop (List.mem_of_mem_take h)
    · exact its_sub h
theorem rv_rok {q : Ar} (h : Rok (some q)) (hf : Fits q.1 q.2) : Rok (some (q.1, rvM q.1 q.2)) := by
  refine ⟨h.1, by rw [show (q.1, rvM q.1 q.2).2 = rvM q.1 q.2 from rfl, rvM_length hf]; exact h.2.1, fun x hx => h.2.2 x ?_⟩
  have hx : x ∈ rvM q.1 q.2 := hx
  unfold rvM at hx
  split at hx
  · exact hx
  · exact its_sub hx
end Go.Proofs.YtpledghphljfkaaDoor
/-
  mould's Flip, by its contract.
-/
namespace Go.Proofs.YtpledghphljfkaaDoor
set_option linter.unusedVariables false
set_option linter.unusedSimpArgs false
open Go.RowKit

theorem flM_map (l xs : List Int) : flM l (xs.map S) = (flM l xs).map S := by
  unfold flM
  rw [List.map_filterMap, List.length_map]
  congr 1
  funext j
  rw [List.getElem?_map]
theorem flM_sub {α : Type} {l : List Int} {es : List α} {x : α} (h : x ∈ flM l es) : x ∈ es := by
  unfold flM at h
  obtain ⟨j, _, hj⟩ := List.mem_filterMap.1 h
  exact List.mem_of_getElem? hj
theorem fl_rok {q : Ar} (h : Rok (some q)) (hf : Fits q.1 q.2) : Rok (some (q.1.reverse, flM q.1 q.2)) :=
  ⟨szE_may.2 hf.turned.1, hf.turned.2, fun x hx => h.2.2 x (flM_sub hx)⟩
/-- Where the element stands that comes to the place of offset k. -/
theorem fl_off {l : List Int} {es : List ByteArray} (hf : Fits l es) {k : Nat} (hk : k < es.length) :
    plB l.reverse k = true ∧ plO l.reverse k = plL l.reverse k ∧ ofB l (plL l.reverse k).reverse = true ∧
      ∃ o : Nat, ofV l (plL l.reverse k).reverse = (o : Int) ∧ o < es.length ∧ (flM l es).getD k ByteArray.empty = es.getD o ByteArray.empty := by
  have ht := hf.turned
  have hp : 0 < pr l := by have := hf.2; omega
  have ha := (hf.1.pos hp).turned
  obtain ⟨h1, h2⟩ := plB_yes (szE_may.2 ht.1) (k := (k : Int)) (by omega) (by rw [pr_reverse, ← hf.2]; omega)
  obtain ⟨t1, t2⟩ := tno_range ha (k : Int)
  rw [pr_reverse, ← hf.2] at t2
  have hin := inL_turned ha (k : Int)
  rw [List.reverse_reverse] at hin
  have hb : ofB l (plL l.reverse k).reverse = true := by
    unfold ofB
    rw [decide_eq_true (szE_may.2 hf.1), decide_eq_true (by rw [List.length_reverse, plL_length, List.length_reverse]), hin]
    rfl
  have hv : ofV l (plL l.reverse k).reverse = tno l.reverse k := by
    unfold ofV
    rw [if_pos hb]
    unfold tno
    rw [List.reverse_reverse, List.length_reverse]
  refine ⟨h1, h2, hb, (tno l.reverse k).toNat, by rw [hv]; omega, by omega, ?_⟩
  rw [List.getD_eq_getElem?_getD, List.getD_eq_getElem?_getD, (flM_at hf).2 k hk]
end Go.Proofs.YtpledghphljfkaaDoor

import Derived.Test.YtjpjccilnmlmnaaGreatDoorMah
import Derived.Laws.CopyOwn
import Derived.IntWalk
/-
  val.Item: its contract at every array. Rows of strings of the call's own, and copies into them.
-/
namespace Go.Proofs.YtjpjccilnmlmnaaGreatDoor
set_option linter.unusedVariables false
set_option linter.unusedSimpArgs false
open Go.RowKit

theorem infoInt1 : (Tryz.prog.info? 3).map (fun i => (i.zero, i.size, i.bytes)) = some (some (.int .i64 0), 1, 8) := by kernel_rfl
theorem infoStr : (Tryz.prog.info? 9).map (fun i => (i.zero, i.size, i.bytes)) = some (some (.string ⟨#[]⟩), 1, 16) := by kernel_rfl
theorem infoStr1 : (Tryz.prog.info? 9).map (·.size) = some 1 := by kernel_rfl
/-- A whole row of strings of the call's own. -/
def Sr (w : World) (g n : Nat) (F : Nat → ByteArray) : Prop := w.rowIs g 9 n (fun j => Value.string (F j))
theorem Sr.made (w : World) (n : Nat) : Sr (w.alloc (.cells (madeCells #[.string ⟨#[]⟩] n) 9)) w.heap.size n (fun _ => ⟨#[]⟩) := World.rowIs_made w _ n _
theorem Sr.cell {w : World} {g n : Nat} {F : Nat → ByteArray} (h : Sr w g n F) {i : Nat} (hi : i < n) : w.cell? ⟨g, i, none⟩ = some (.string (F i)) := by
  obtain ⟨c, hg, _, hc⟩ := h
  rw [cell_of_row w g i c _ _ hg, hc i hi]
theorem Sr.lt {w : World} {g n : Nat} {F : Nat → ByteArray} (h : Sr w g n F) : g < w.heap.size := by
  obtain ⟨c, hg, _, hc⟩ := h
  exact (Array.getElem?_eq_some_iff.1 hg).1
theorem Sr.block {w w' : World} {g n : Nat} {F : Nat → ByteArray} (h : Sr w g n F) (e : w'.heap[g]? = w.heap[g]?) : Sr w' g n F := by
  obtain ⟨c, hg, h1, hc⟩ := h
  exact ⟨c, e.trans hg, h1, hc⟩
theorem Sr.below {w w' : World} {g n : Nat} {F : Nat → ByteArray} (h : Sr w g n F) (hb : Below w.heap.size w w') : Sr w' g n F := h.block (hb.block g h.lt)
theorem Sr.st {w : World} {g n : Nat} {F : Nat → ByteArray} (h : Sr w g n F) {l : List ByteArray} (hl : l.length = n) (he : ∀ j, j < n → F j = l.getD j ByteArray.empty) : St w (some ⟨g, 0, none⟩) n l :=
  ⟨hl, fun _ => ⟨g, 0, rfl, fun j hj => by rw [Nat.zero_add, h.cell hj, he j hj]⟩⟩
theorem grown_below {B g : Nat} {w w' : World} (h : w.grownBy w' (some g)) (hg : B ≤ g) (hB : B ≤ w.heap.size) : Below B w w' :=
  ⟨h.os, h.tape, h.output, h.size, fun k hk => h.block k (by omega) (by intro e; injection e with e; omega)⟩
theorem run_mks (n : Nat) (hn : n ≤ 1000000) (w : World) :
    (Instr.makeSlice 23 (.int .i64 (n : Int)) (.int .i64 (n : Int))).run Tryz.prog w = .ok (.slice (some ⟨w.heap.size, 0, none⟩) n n) (w.alloc (.cells (madeCells #[.string ⟨#[]⟩] n) 9)) :=
  run_make_row' 23 9 _ 16 Tryz.underlying23 infoStr rfl _ _ n (by omega) (by omega) w
/-- copy(d, s), d a whole row of strings of the call's own, s as long, or longer. -/
theorem wpList_copy_st {w : World} {ops : Array Oper} {rest : List Oper} {o : Oper} {a : Act} {Q : Exit → Act → World → Prop} (hgd : o.guard = none) (d s : Operand)
    (ho : o.op = .call { callee := .builtin .copy, args := #[d, s], argTypes := #[23, 23] }) (g n : Nat) (F : Nat → ByteArray) (A : Option Addr) (xs : List ByteArray) (sl sc : Nat)
    (hd : a.eval d = .slice (some ⟨g, 0, none⟩) n n) (hs : a.eval s = .slice A sl sc) (hR : Sr w g n F) (hx : xs.length = n) (hle : n ≤ sl)
    (hsrc : 0 < n → ∃ b off, A = some ⟨b, off, none⟩ ∧ ∀ j, j < n → w.cell? ⟨b, off + j, none⟩ = some (.string (xs.getD j ByteArray.empty)))
    (h : ∀ w', St w' (some ⟨g, 0, none⟩) n xs → w.grownBy w' (some g) → wpList Tryz.prog ops Q rest (a.put o.dst (goInt n)) w') : wpList Tryz.prog ops Q (o :: rest) a w := by
  by_cases h0 : n = 0
  · subst h0
    obtain rfl := List.length_eq_zero_iff.1 hx
    refine wpList_copy_nothing hgd d s _ _ ho 9 Tryz.underlying23 infoStr1 _ _ _ _ _ _ hd hs (by simp) ?_
    exact h w (St.nil _ _) (World.grownBy.refl w _)
  · obtain ⟨b, o', rfl, hcell⟩ := hsrc (by omega)
    obtain ⟨cur, hg, hsz, hc⟩ := hR
    have hlen : (xs.map Value.string).length = n := by simp [hx]
    refine wpList_copy_own hgd d s _ _ ho 9 Tryz.underlying23 infoStr1 g 0 n n ⟨b, o', none⟩ sl sc hd hs cur 9 hg (xs.map Value.string) (by rw [hlen]; exact (Nat.min_eq_right hle).symm) ?_ (by rw [hlen]; omega) (by simp [Value.oneCell']) ?_
    · intro j v hj
      simp only [List.getElem?_map, Option.map_eq_some_iff] at hj
      obtain ⟨p, hp, rfl⟩ := hj
      obtain ⟨hjl, rfl⟩ := List.getElem?_eq_some_iff.1 hp
      rw [show (⟨b, o', none⟩ : Addr).add j = ⟨b, o' + j, none⟩ by unfold Addr.add; split <;> simp_all, hcell j (by omega)]
      simp [List.getD_eq_getElem?_getD, List.getElem?_eq_getElem hjl]
    · rw [hlen]
      refine h _ ⟨hx, fun _ => ⟨g, 0, rfl, fun j hj => ?_⟩⟩ ⟨rfl, rfl, rfl, by simp [World.setRow], fun k _ hk => setRow_other w g k _ (by intro e; exact hk (by rw [e]))⟩
      show World.cell? _ ⟨g, 0 + j, none⟩ = _
      rw [show 0 + j = j from Nat.zero_add j, cell_of_row _ g j _ _ _ (setRow_heap w g _ _ _ _ hg)]
      simp [List.getElem?_append_left, hx, hj, List.getD_eq_getElem?_getD, List.getElem?_eq_getElem (show j < xs.length by omega)]

/-! ### Item -/
theorem cut_src {W w : World} {b : Option Addr} {m o e k : Nat} {es : List ByteArray} (hT : St W b m es) (hb : Below W.heap.size W w) (ho : o = k * e) (hoe : o + e ≤ m) :
    0 < e → ∃ b' off', Option.map (fun x : Addr => x.add o) b = some ⟨b', off', none⟩ ∧ ∀ j, j < e → w.cell? ⟨b', off' + j, none⟩ = some (.string ((part es e k).getD j ByteArray.empty)) := by
  intro he
  obtain ⟨bb, off, rfl, hc⟩ := (hT.below hb).2 (by omega)
  refine ⟨bb, off + o, ?_, fun j hj => ?_⟩
  · show some ((⟨bb, off, none⟩ : Addr).add o) = _
    rw [Lib.add_plain]
  · rw [part_get hj, Nat.add_assoc, hc (o + j) (by omega), ho]
theorem item_sum {q e k m : Nat} (hk : k < q) (he : m = q * e) : (k + 1) * e ≤ m ∧ k * e + e ≤ m ∧ e ≤ m := by
  have h : (k + 1) * e ≤ m := by rw [he]; exact Nat.mul_le_mul_right _ hk
  have h2 : (k + 1) * e = k * e + e := by rw [Nat.add_mul, Nat.one_mul]
  exact ⟨h, by omega, by omega⟩
theorem item_div {q e m : Nat} (hq : 0 < q) (he : m = q * e) : (m : Int) / (q : Int) = (e : Int) := by
  have h : ((q * e : Nat) : Int) = (q : Int) * (e : Int) := Int.natCast_mul q e
  rw [he, h]
  exact Int.mul_ediv_cancel_left _ (by omega)
theorem item_wrap {k e o : Nat} (ho : o = k * e) (h : o ≤ 1000000) : IntKind.i64.wrap ((k : Int) * (e : Int)) = (o : Int) := by
  have h2 : ((k * e : Nat) : Int) = (k : Int) * (e : Int) := Int.natCast_mul k e
  rw [← h2, ← ho]
  exact IntWalk.i64_in _ (by omega)
def VEnd (l : List Int) (es : List ByteArray) (W : World) (e : Ending) (W' : World) : Prop :=
  ∃ a n c b m d, e = .returned (.tuple #[.agg #[.slice a n c, .slice b m d], .bool true]) ∧ Vl W' a n b m l es ∧ n ≤ 20 ∧ Below W.heap.size W W'
def NoEnd (W : World) (e : Ending) (W' : World) : Prop :=
  e = .returned (.tuple #[.agg #[.slice none 0 0, .slice none 0 0], .bool false]) ∧ Below W.heap.size W W'
end Go.Proofs.YtjpjccilnmlmnaaGreatDoor

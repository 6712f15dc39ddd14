import Derived.Test.YtjpjccilnmlmnaaGreatDoorMas
import Derived.Test.YtjpjccilnmlmnaaGreatDoorMat
/-
  mould's helpers: a list cut with three indexes, how many elements an item has; shape.Items, Place, slices.Reverse, with what is of the call's own.
-/
namespace Go.Proofs.YtjpjccilnmlmnaaGreatDoor
set_option linter.unusedVariables false
set_option linter.unusedSimpArgs false
open Go.RowKit

/-! ### cut -/
def cutA (b : Option Addr) (f t : Nat) : Option Addr := if t = f then b else b.map (·.add f)
theorem run_cut {T e : TypeId} (ht : Tryz.prog.underlying T = some (.slice e)) (hs : ∀ w, (Go.sizeOf e).run Tryz.prog w = .ok 1 w) (a : Option Addr) (n c f t : Nat) (h1 : f ≤ t) (h2 : t ≤ c) (w : World) :
    (Instr.slice T (.slice a n c) (some (.int .i64 (f : Int))) (some (.int .i64 (t : Int))) (some (.int .i64 (t : Int)))).run Tryz.prog w = .ok (.slice (cutA a f t) (t - f) (t - f)) w := by
  simp [Instr.slice, Instr.sliceBounds, Instr.sliceBound, run_underlying ht, hs, asIntOf, h1, h2, cutA]
theorem sizeInt (w : World) : (Go.sizeOf 3).run Tryz.prog w = .ok 1 w := by
  obtain ⟨i0, hi, _, hz1, _⟩ := info_parts infoInt1
  simp [Go.sizeOf, typeInfo, hi, hz1]
theorem sizeStr (w : World) : (Go.sizeOf 9).run Tryz.prog w = .ok 1 w := by
  obtain ⟨i0, hi, _, hz1, _⟩ := info_parts infoStr
  simp [Go.sizeOf, typeInfo, hi, hz1]
def CutEnd (b : Option Addr) (f t : Nat) (W : World) (x : Ending) (W' : World) : Prop := x = .returned (.slice (cutA b f t) (t - f) (t - f)) ∧ W = W'
theorem CutS_is (b : Option Addr) (m d f t : Nat) (W : World) (h1 : f ≤ t) (h2 : t ≤ d) : Calls Tryz.prog 40 #[.slice b m d, .int .i64 f, .int .i64 t] W (CutEnd b f t W) := by
  have hr := run_cut Tryz.underlying23 sizeStr b m d f t h1 h2
  go_enter Tryz.func40, Tryz.ntmps40
  go_wp2_with fail
  go_ret
  exact ⟨rfl, rfl⟩
theorem CutI_is (b : Option Addr) (m d f t : Nat) (W : World) (h1 : f ≤ t) (h2 : t ≤ d) : Calls Tryz.prog 77 #[.slice b m d, .int .i64 f, .int .i64 t] W (CutEnd b f t W) := by
  have hr := run_cut Tryz.underlying22 sizeInt b m d f t h1 h2
  go_enter Tryz.func77, Tryz.ntmps77
  go_wp2_with fail
  go_ret
  exact ⟨rfl, rfl⟩
theorem St.cut {W : World} {b : Option Addr} {m f t : Nat} {es : List ByteArray} (h : St W b m es) (h1 : f ≤ t) (h2 : t ≤ m) : St W (cutA b f t) (t - f) ((es.drop f).take (t - f)) := by
  refine ⟨by rw [List.length_take, List.length_drop, h.1]; omega, fun hp => ?_⟩
  obtain ⟨bb, off, rfl, hc⟩ := h.2 (by omega)
  refine ⟨bb, off + f, ?_, fun j hj => ?_⟩
  · unfold cutA
    rw [if_neg (by omega)]
    show some ((⟨bb, off, none⟩ : Addr).add f) = _
    rw [Lib.add_plain]
  · rw [Nat.add_assoc, hc (f + j) (by omega)]
    simp only [List.getD_eq_getElem?_getD, List.getElem?_take_of_lt hj, List.getElem?_drop]
theorem Sl.cut {W : World} {b : Option Addr} {m f t : Nat} {l : List Int} (h : Sl W b m l) (h1 : f ≤ t) (h2 : t ≤ m) : Sl W (cutA b f t) (t - f) ((l.drop f).take (t - f)) := by
  refine ⟨by rw [List.length_take, List.length_drop, h.1]; omega, fun hp => ?_⟩
  obtain ⟨bb, off, rfl, hc⟩ := h.2 (by omega)
  refine ⟨bb, off + f, ?_, fun j hj => ?_⟩
  · unfold cutA
    rw [if_neg (by omega)]
    show some ((⟨bb, off, none⟩ : Addr).add f) = _
    rw [Lib.add_plain]
  · rw [Nat.add_assoc, hc (f + j) (by omega)]
    simp only [List.getD_eq_getElem?_getD, List.getElem?_take_of_lt hj, List.getElem?_drop]
theorem Sl.cut1 {W : World} {b : Option Addr} {m : Nat} {l : List Int} (h : Sl W b m l) (h1 : 1 ≤ m) : Sl W (cutA b 1 m) (m - 1) l.tail := by
  have := h.cut h1 (Nat.le_refl m)
  rwa [List.drop_one, List.take_of_length_le (by rw [List.length_tail, h.1]; exact Nat.le_refl _)] at this

/-! ### itemSize -/
/-- How many items, as a number; how many elements each has, if there is one. -/
def mN (l : List Int) : Nat := (itV l).toNat
def iS (l : List Int) (m : Nat) : Nat := if m = 0 then 0 else kI l
theorem Fits.all {α : Type} {l : List Int} {es : List α} (h : Fits l es) : es.length = mN l * kI l ∧ ((mN l : Nat) : Int) = itV l := by
  by_cases hl : l = []
  · subst hl
    have := h.2
    refine ⟨?_, rfl⟩
    show _ = 1 * 1
    simp [pr] at this
    omega
  · have e : itV l = l.getD 0 0 := if_neg fun h => hl (List.length_eq_zero_iff.1 h)
    have e2 : mN l = nI l := by unfold mN nI; rw [e]
    rw [e2]
    exact ⟨h.cut hl, by rw [e]; exact nI_head hl h.1⟩
theorem maM_is (l : List Int) : maM l = itV l := rfl
section
variable {W : World} {a b : Option Addr} {n c m d : Nat} {l : List Int} {es : List ByteArray} {o : Option Ar} {q : Ar}
theorem Av.items (h : Av W a n c b m d l es (some q)) : m = mN l * kI l ∧ ((mN l : Nat) : Int) = itV l ∧ mN l ≤ 1099511627776 ∧ m = mN l * iS l m := by
  have hf := h.fits
  rw [h.fst] at hf
  obtain ⟨h1, h2⟩ := hf.all
  have h3 := h.mlen.1
  have e : itV l ≤ 1099511627776 := by
    unfold itV
    split
    · omega
    · exact hf.1.le 0 (by omega)
  refine ⟨by omega, h2, by omega, ?_⟩
  unfold iS
  split
  · omega
  · omega
theorem VMany_av (h : Av W a n c b m d l es (some q)) : Calls Tryz.prog 36 #[.agg #[.slice a n c, .slice b m d]] W (IntEnd (mN l : Nat) W) := by
  rw [h.items.2.1]
  exact VMany_is W h.v (by have := h.n3; omega) h.c.nc h.c.cm
set_option maxRecDepth 10000 in
set_option maxHeartbeats 1600000 in
theorem ISize_is (h : Av W a n c b m d l es (some q)) : Calls Tryz.prog 39 #[.agg #[.slice a n c, .slice b m d]] W (IntEnd (iS l m : Nat) W) := by
  have hb0 : Below W.heap.size W (W.alloc (.cells #[.slice a n c, .slice b m d] 25)) := (Below.refl _ _).alloc (Nat.le_refl _) _
  have hA := Bx.new W a n c b m d
  by_cases h0 : m = 0
  · have e : iS l m = 0 := if_pos h0
    rw [e]
    subst h0
    clear h e
    go_enter Tryz.func39, Tryz.ntmps39
    go_wp2_with fail
    go_ret
    exact ⟨rfl, hb0⟩
  · have K := Lib.hid (fun w (hb : Below W.heap.size W w) => VMany_av (h.below hb))
    obtain ⟨h1, u1, h3, u2⟩ := h.items
    clear u1 u2
    have e : iS l m = kI l := if_neg h0
    rw [e]
    have hm := h.mlen.2.2
    have x0 := hA.c0
    have x1 := hA.c1
    have lA := hA.lt
    generalize mN l = N at *
    generalize kI l = k at *
    have hN : 0 < N := Nat.pos_of_ne_zero fun e => h0 (by rw [h1, e, Nat.zero_mul])
    have hk : k ≤ m := by rw [h1]; exact Nat.le_mul_of_pos_left k hN
    have hd : (m : Int).tdiv (N : Int) = (k : Int) := by
      rw [h1, Int.natCast_mul, Int.mul_comm, Int.mul_tdiv_cancel _ (by omega)]
    have hd2 : (m : Int) / (N : Int) = (k : Int) := item_div hN h1
    have hw : IntKind.i64.wrap ((m : Int).tdiv (N : Int)) = (k : Int) := by rw [hd]; exact IntWalk.i64_in _ (by omega)
    have hw2 : IntKind.i64.wrap ((m : Int) / (N : Int)) = (k : Int) := by rw [hd2]; exact IntWalk.i64_in _ (by omega)
    have hN0 : ((N : Int) == 0) = false := beq_eq_false_iff_ne.2 (by omega)
    have hNn : (N : Int) ≠ 0 := by omega
    have hm0 : (m : Int) ≠ 0 := by omega
    have hwN : IntKind.i64.wrap (N : Int) = (N : Int) := IntWalk.i64_in _ (by omega)
    have hwm : IntKind.i64.wrap (m : Int) = (m : Int) := IntWalk.i64_in _ (by omega)
    have hwk : IntKind.i64.wrap (k : Int) = (k : Int) := IntWalk.i64_in _ (by omega)
    have hge : (0 : Int) ≤ (m : Int) := by omega
    have HF := Lib.hid (And.intro hw (And.intro hw2 (And.intro hN0 (And.intro hNn (And.intro hwN (And.intro hwm hwk))))))
    clear hwN hwm hwk
    clear h h1 e hd hd2 hA hw hw2 hN0 hNn hk hN h3 h0
    go_enter Tryz.func39, Tryz.ntmps39
    go_wp2_with fail
    generalize hw4 : W.alloc (.cells #[.slice a n c, .slice b m d] 25) = w4 at *
    have hq : Below w4.heap.size w4 w4 := Below.refl _ _
    obtain ⟨hw, hw2, hN0, hNn, hwN, hwm, hwk⟩ := HF.out
    have K4 := Lib.hid (fun z (hz : Below w4.heap.size w4 z) => (K.out z (hb0.trans (hz.mono hb0.size))).mono fun e w' (h : _ ∧ _) => (⟨h.1, hz.trans (h.2.mono hz.size)⟩ : e = .returned (.int .i64 (N : Int)) ∧ Below w4.heap.size w4 w'))
    go_region_with (go_at_call 36; refine (K4.out _ (by first | exact hq | exact Below.drew hq)).mono ?_; rintro e wq ⟨rfl, hq2⟩; have y1 := (Below.cell (p := ⟨W.heap.size, 1, none⟩) hq2 lA).trans x1)
    all_goals
      go_wp2_with fail
      go_ret
      exact ⟨rfl, hb0.trans (hq2.mono hb0.size)⟩
end

/-! ### Items, with what is of the call's own -/
def ItO (v : Int) (n : Nat) (l : List Int) (W : World) (x : Ending) (W' : World) : Prop := ∃ a c, x = .returned (.tuple #[.int .i64 v, .slice a n c]) ∧ OwI W W' a n c l ∧ Below W.heap.size W W'
set_option maxRecDepth 10000 in
set_option maxHeartbeats 800000 in
theorem Items_o (a : Option Addr) (n c : Nat) (l : List Int) (W : World) (h : Sl W a n l) (hn : n ≤ 20) (hc : n ≤ c) (hc2 : c ≤ maxLen) :
    Calls Tryz.prog 59 #[.slice a n c] W (ItO (itV l) (n - 1) l.tail W) := by
  unfold maxLen at hc2
  by_cases h0 : n = 0
  · subst h0
    obtain rfl := List.length_eq_zero_iff.1 h.1
    clear h
    rw [show itV [] = 1 from rfl, List.tail_nil]
    go_enter Tryz.func59, Tryz.ntmps59
    go_wp2_with fail
    go_ret2
    exact ⟨none, 0, rfl, World.ownsRow_nil _ _ _ _, Below.refl _ _⟩
  · obtain ⟨b, off, rfl, hcell⟩ := h.2 (by omega)
    have HT := Lib.hid (h.tail (by omega))
    have hv : itV l = l.getD 0 0 := if_neg (by rw [h.1]; exact h0)
    rw [hv]
    have hc0 := hcell 0 (by omega)
    rw [Nat.add_zero] at hc0
    have hlt : b < W.heap.size := World.block_lt_of_cell? W _ hc0
    generalize l.getD 0 0 = v at hc0 ⊢
    clear hv hcell h
    have e1 : (n : Int) ≠ 0 := by omega
    have e2 : (0 : Int) < n := by omega
    by_cases h1 : c = 1
    · subst h1
      obtain rfl : n = 1 := by omega
      have KC := Lib.hid (fun w a c => Clone_o a (1 - 1) c l.tail w ⟨HT.out.1, fun h => by omega⟩ (by omega))
      go_enter Tryz.func59, Tryz.ntmps59
      go_wp2_with fail
      go_region_with (go_at_call 41; refine (KC.out _ _ _).mono ?_; rintro e w2 ⟨a', c', rfl, hs, hb2⟩; have hc2 : w2.cell? ⟨b, off, none⟩ = some (.int .i64 v) := (hb2.cell (p := ⟨b, off, none⟩) (by exact hlt)).trans hc0)
      all_goals
        go_wp2_with fail
        go_ret2
        exact ⟨_, _, rfl, hs, ⟨hb2.os, hb2.tape, hb2.output, hb2.size, hb2.block⟩⟩
    · have KC := Lib.hid (fun w c (hw : Below W.heap.size W w) => Clone_o _ (n - 1) c l.tail w (HT.out.below hw) (by omega))
      go_enter Tryz.func59, Tryz.ntmps59
      go_wp2_with fail
      go_region_with (go_at_call 41; refine (KC.out _ _ (by exact (Below.refl _ _).drew)).mono ?_; rintro e w2 ⟨a', c', rfl, hs, hb2⟩; have hc2 : w2.cell? ⟨b, off, none⟩ = some (.int .i64 v) := (hb2.cell (p := ⟨b, off, none⟩) (by exact hlt)).trans hc0)
      all_goals
        go_wp2_with fail
        go_ret2
        exact ⟨_, _, rfl, hs, ⟨hb2.os, hb2.tape, hb2.output, hb2.size, hb2.block⟩⟩
end Go.Proofs.YtjpjccilnmlmnaaGreatDoor

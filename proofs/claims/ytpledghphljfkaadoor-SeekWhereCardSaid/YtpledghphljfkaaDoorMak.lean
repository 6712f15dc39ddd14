import Derived.Test.YtpledghphljfkaaDoorMaj
import Derived.Maps.AppendAt
import Derived.Laws.OwnMore
import Derived.Deep.RegionLaw
/-
  append onto a row of the call's own, whatever the source (nil, empty, or not): as one step of a region that draws, and in a plain region; rows of the call's own, read.
-/
namespace Go.Proofs.YtpledghphljfkaaDoor
set_option linter.unusedVariables false
set_option linter.unusedSimpArgs false
open Go.RowKit
set_option maxRecDepth 10000

/-- A slice whose cells are these. -/
def Rd (w : World) (A : Option Addr) (m : Nat) (news : List Value) : Prop :=
  news.length = m ∧ (0 < m → ∃ b off, A = some ⟨b, off, none⟩ ∧ ∀ j u, news[j]? = some u → w.cell? ⟨b, off + j, none⟩ = some u)
def valsS (es : List ByteArray) : List Value := es.map Value.string
theorem Sl.rd {w : World} {A : Option Addr} {m : Nat} {l : List Int} (h : Sl w A m l) : Rd w A m (valsI l) := by
  refine ⟨by unfold valsI; rw [List.length_map, h.1], fun hm => ?_⟩
  obtain ⟨b, off, e, hc⟩ := h.2 hm
  refine ⟨b, off, e, fun j u hu => ?_⟩
  unfold valsI at hu
  rw [List.getElem?_map, Option.map_eq_some_iff] at hu
  obtain ⟨x, hx, rfl⟩ := hu
  obtain ⟨hlt, rfl⟩ := List.getElem?_eq_some_iff.1 hx
  rw [hc j (by rw [← h.1]; exact hlt)]
  simp [List.getD_eq_getElem?_getD, List.getElem?_eq_getElem hlt]
theorem St.rd {w : World} {A : Option Addr} {m : Nat} {l : List ByteArray} (h : St w A m l) : Rd w A m (valsS l) := by
  refine ⟨by unfold valsS; rw [List.length_map, h.1], fun hm => ?_⟩
  obtain ⟨b, off, e, hc⟩ := h.2 hm
  refine ⟨b, off, e, fun j u hu => ?_⟩
  unfold valsS at hu
  rw [List.getElem?_map, Option.map_eq_some_iff] at hu
  obtain ⟨x, hx, rfl⟩ := hu
  obtain ⟨hlt, rfl⟩ := List.getElem?_eq_some_iff.1 hx
  rw [hc j (by rw [← h.1]; exact hlt)]
  simp [List.getD_eq_getElem?_getD, List.getElem?_eq_getElem hlt]
theorem Rd.sl {w : World} {A : Option Addr} {m : Nat} {l : List Int} (h : Rd w A m (valsI l)) : Sl w A m l := by
  have hl : l.length = m := by have := h.1; unfold valsI at this; rwa [List.length_map] at this
  refine ⟨hl, fun hm => ?_⟩
  obtain ⟨b, off, e, hc⟩ := h.2 hm
  refine ⟨b, off, e, fun j hj => hc j _ ?_⟩
  unfold valsI
  simp [List.getD_eq_getElem?_getD, List.getElem?_eq_getElem (show j < l.length by omega)]
theorem Rd.st {w : World} {A : Option Addr} {m : Nat} {l : List ByteArray} (h : Rd w A m (valsS l)) : St w A m l := by
  have hl : l.length = m := by have := h.1; unfold valsS at this; rwa [List.length_map] at this
  refine ⟨hl, fun hm => ?_⟩
  obtain ⟨b, off, e, hc⟩ := h.2 hm
  refine ⟨b, off, e, fun j hj => hc j _ ?_⟩
  unfold valsS
  simp [List.getD_eq_getElem?_getD, List.getElem?_eq_getElem (show j < l.length by omega)]
theorem valsI_one (l : List Int) : ∀ u ∈ valsI l, u.oneCell' = true := by
  intro u hu
  obtain ⟨x, _, rfl⟩ := List.mem_map.1 hu
  rfl
theorem valsS_one (l : List ByteArray) : ∀ u ∈ valsS l, u.oneCell' = true := by
  intro u hu
  obtain ⟨x, _, rfl⟩ := List.mem_map.1 hu
  rfl
theorem own_form {w : World} {base n : Nat} {e : TypeId} {v : Value} {xs : List Value} (h : w.ownsRow base e 1 v n xs) : ∃ a c, v = .slice a n c := by
  rcases h.2 with ⟨rfl, rfl⟩ | ⟨g, cap, _, rfl, _⟩
  · exact ⟨_, _, rfl⟩
  · exact ⟨_, _, rfl⟩
theorem own_cells {w : World} {base n : Nat} {e : TypeId} {a : Option Addr} {c : Nat} {xs : List Value} (h : w.ownsRow base e 1 (.slice a n c) n xs) (hn : 0 < n) : ∃ g, a = some ⟨g, 0, none⟩ ∧ base ≤ g ∧ (∀ j, j < n → w.cell? ⟨g, j, none⟩ = xs[j]?) ∧ ∀ j, w.frozen? ⟨g, j, none⟩ = false := by
  obtain ⟨hl, h⟩ := h
  rw [Nat.mul_one] at hl
  rcases h with ⟨_, h0⟩ | ⟨g, cap, cur, hv, hb, hg, _, _, _, ht⟩
  · omega
  · injection hv with hv _ _
    refine ⟨g, hv, hb, fun j hj => ?_, fun j => frozen_of_row _ _ j _ _ hg⟩
    rw [Nat.mul_one] at ht
    rw [cell_of_row w g j cur _ _ hg, ← Array.getElem?_toList]
    have e : cur.toList[j]? = (cur.toList.take n)[j]? := by rw [List.getElem?_take_of_lt hj]
    rw [e, ht]
theorem own_sl {w : World} {base n : Nat} {e : TypeId} {a : Option Addr} {c : Nat} {l : List Int} (h : w.ownsRow base e 1 (.slice a n c) n (valsI l)) : Sl w a n l := by
  have hl : l.length = n := by have := h.1; unfold valsI at this; rwa [List.length_map, Nat.mul_one] at this
  refine ⟨hl, fun hn => ?_⟩
  obtain ⟨g, rfl, _, hc, _⟩ := own_cells h hn
  refine ⟨g, 0, rfl, fun j hj => ?_⟩
  rw [Nat.zero_add, hc j hj]
  unfold valsI
  simp [List.getD_eq_getElem?_getD, List.getElem?_eq_getElem (show j < l.length by omega)]
theorem own_st {w : World} {base n : Nat} {e : TypeId} {a : Option Addr} {c : Nat} {l : List ByteArray} (h : w.ownsRow base e 1 (.slice a n c) n (valsS l)) : St w a n l := by
  have hl : l.length = n := by have := h.1; unfold valsS at this; rwa [List.length_map, Nat.mul_one] at this
  refine ⟨hl, fun hn => ?_⟩
  obtain ⟨g, rfl, _, hc, _⟩ := own_cells h hn
  refine ⟨g, 0, rfl, fun j hj => ?_⟩
  rw [Nat.zero_add, hc j hj]
  unfold valsS
  simp [List.getD_eq_getElem?_getD, List.getElem?_eq_getElem (show j < l.length by omega)]

section
variable {w : World}
theorem run_append_void (base : Nat) (t ty e : TypeId) (i : TypeInfo) (ht : Tryd.prog.underlying t = some (.slice e)) (hi : Tryd.prog.info? e = some i)
    (v : Value) (n : Nat) (xs : List Value) (hown : w.ownsRow base e 1 v n xs) (c : Nat) : (Builtin.append_ #[t, t] ty #[v, .slice none 0 c]).run Tryd.prog w = .ok v w := by
  rcases hown.2 with ⟨rfl, rfl⟩ | ⟨g, cap, cur, rfl, _, _, hnc, _⟩
  · simp [Builtin.append_, run_underlying ht, sizeOf, typeInfo, hi, Builtin.lenOf, Builtin.firstCells]
  · simp [Builtin.append_, run_underlying ht, sizeOf, typeInfo, hi, Builtin.lenOf, Builtin.firstCells, hnc, storeCells]
theorem run_append_rd (base : Nat) (t ty e : TypeId) (i : TypeInfo) (z : Value) (bytes : Nat) (ht : Tryd.prog.underlying t = some (.slice e)) (hi : Tryd.prog.info? e = some i) (hz : i.zero = some z)
    (hsize : i.size = 1) (hby : i.bytes = bytes) (hzs : z.cells.size = 1) (hbb : bytes ≤ 100)
    (v : Value) (n : Nat) (xs : List Value) (hown : w.ownsRow base e 1 v n xs) (A : Option Addr) (m c : Nat) (news : List Value) (hr : Rd w A m news) (h1 : ∀ u ∈ news, u.oneCell' = true)
    (hnm : n + m ≤ 1000000) (hbase : base ≤ w.heap.size) :
    ∃ av cv w', (Builtin.append_ #[t, t] ty #[v, .slice A m c]).run Tryd.prog w = .ok (.slice av (n + m) cv) w' ∧ w'.ownsRow base e 1 (.slice av (n + m) cv) (n + m) (xs ++ news) ∧ w.grownBy w' v.ownBlock := by
  rcases A with _ | ad
  · have hm : m = 0 := by
      rcases Nat.eq_zero_or_pos m with h0 | h0
      · exact h0
      · obtain ⟨b, off, e, _⟩ := hr.2 h0; cases e
    subst hm
    have hn : news = [] := List.eq_nil_of_length_eq_zero hr.1
    subst hn
    obtain ⟨av, cv, rfl⟩ := own_form hown
    refine ⟨av, cv, w, run_append_void base t ty e i ht hi _ n xs hown c, ?_, World.grownBy.refl w _⟩
    rw [List.append_nil]; exact hown
  · have hcells : ∀ j u, news[j]? = some u → w.cell? (ad.add j) = some u := by
      intro j u hu
      rcases Nat.eq_zero_or_pos m with h0 | h0
      · have hn : news = [] := List.eq_nil_of_length_eq_zero (by rw [hr.1]; exact h0)
        subst hn
        cases hu
      · obtain ⟨b, off, e, hc⟩ := hr.2 h0
        injection e with e
        subst e
        rw [Lib.add_plain]
        exact hc j u hu
    have hbn : (n + m) * bytes ≤ 140737488355328 := by
      have : (n + m) * bytes ≤ 1000000 * 100 := Nat.mul_le_mul hnm hbb
      omega
    obtain ⟨v', w', hrun, h2, h3, _, _⟩ := run_append_own_at (P := Tryd.prog) w base t ty e i z 1 bytes ht hi hz hsize hby hzs (by omega) v n xs hown ad m c news (by rw [Nat.mul_one]; exact hr.1) hcells h1 (by unfold maxLen; omega) hbn hbase
    obtain ⟨av, cv, rfl⟩ := own_form h2
    exact ⟨av, cv, w', hrun, h2, h3⟩
theorem wp_append_rd {o : Oper} {a : Act} {K : Act → World → Prop} {Q : Exit → Act → World → Prop} (s x : Operand) (t : TypeId)
    (ho : o.op = .call { callee := .builtin .append, args := #[s, x], argTypes := #[t, t] })
    (base : Nat) (e : TypeId) (z : Value) (bytes : Nat) (ht : Tryd.prog.underlying t = some (.slice e)) (hinfo : (Tryd.prog.info? e).map (fun i => (i.zero, i.size, i.bytes)) = some (some z, 1, bytes)) (hzs : z.cells.size = 1) (hbb : bytes ≤ 100)
    (v : Value) (n : Nat) (xs : List Value) (hs : a.eval s = v) (hown : w.ownsRow base e 1 v n xs)
    (A : Option Addr) (m c : Nat) (news : List Value) (hx : a.eval x = .slice A m c) (hr : Rd w A m news) (h1 : ∀ u ∈ news, u.oneCell' = true)
    (hnm : n + m ≤ 1000000) (hbase : base ≤ w.heap.size)
    (h : ∀ av cv w', w'.ownsRow base e 1 (.slice av (n + m) cv) (n + m) (xs ++ news) → w.grownBy w' v.ownBlock → K (a.put o.dst (.slice av (n + m) cv)) w') : o.wp Tryd.prog a w K Q := by
  obtain ⟨i, hi, hzz⟩ := Option.map_eq_some_iff.1 hinfo
  simp only [Prod.mk.injEq] at hzz
  obtain ⟨hz0, hz1, hz2⟩ := hzz
  obtain ⟨av, cv, w', hrun, h2, h3⟩ := run_append_rd (w := w) base t o.type e i z bytes ht hi hz0 hz1 hz2 hzs hbb v n xs hown A m c news hr h1 hnm hbase
  unfold Oper.wp execOp
  simp only [ho, resolve, invoke, builtin, Sem.run_bind, Sem.run_pure, Result.andThen_ok, List.map_toArray, List.map_cons, List.map_nil, hs, hx, hrun]
  exact h av cv w' h2 h3
theorem wpList_append_rd {ops : Array Oper} {rest : List Oper} {o : Oper} {a : Act} {Q : Exit → Act → World → Prop} (hgd : o.guard = none) (s x : Operand) (t : TypeId)
    (ho : o.op = .call { callee := .builtin .append, args := #[s, x], argTypes := #[t, t] })
    (base : Nat) (e : TypeId) (z : Value) (bytes : Nat) (ht : Tryd.prog.underlying t = some (.slice e)) (hinfo : (Tryd.prog.info? e).map (fun i => (i.zero, i.size, i.bytes)) = some (some z, 1, bytes)) (hzs : z.cells.size = 1) (hbb : bytes ≤ 100)
    (v : Value) (n : Nat) (xs : List Value) (hs : a.eval s = v) (hown : w.ownsRow base e 1 v n xs)
    (A : Option Addr) (m c : Nat) (news : List Value) (hx : a.eval x = .slice A m c) (hr : Rd w A m news) (h1 : ∀ u ∈ news, u.oneCell' = true)
    (hnm : n + m ≤ 1000000) (hbase : base ≤ w.heap.size)
    (h : ∀ av cv w', w'.ownsRow base e 1 (.slice av (n + m) cv) (n + m) (xs ++ news) → w.grownBy w' v.ownBlock → wpList Tryd.prog ops Q rest (a.put o.dst (.slice av (n + m) cv)) w') : wpList Tryd.prog ops Q (o :: rest) a w :=
  wpList_plain hgd fun _ hK => wp_append_rd s x t ho base e z bytes ht hinfo hzs hbb v n xs hs hown A m c news hx hr h1 hnm hbase fun av cv w' h2 h3 => hK _ _ (h av cv w' h2 h3)
theorem step_append_rd {ops : Array Oper} {o : Oper} {a : Act} {K : Act → World → Prop} {Q : Exit → Act → World → Prop} {E : Prop} (hgd : o.guard = none) (s x : Operand) (t : TypeId)
    (ho : o.op = .call { callee := .builtin .append, args := #[s, x], argTypes := #[t, t] })
    (base : Nat) (e : TypeId) (z : Value) (bytes : Nat) (ht : Tryd.prog.underlying t = some (.slice e)) (hinfo : (Tryd.prog.info? e).map (fun i => (i.zero, i.size, i.bytes)) = some (some z, 1, bytes)) (hzs : z.cells.size = 1) (hbb : bytes ≤ 100)
    (v : Value) (n : Nat) (xs : List Value) (hs : a.eval s = v) (hown : w.ownsRow base e 1 v n xs)
    (A : Option Addr) (m c : Nat) (news : List Value) (hx : a.eval x = .slice A m c) (hr : Rd w A m news) (h1 : ∀ u ∈ news, u.oneCell' = true)
    (hnm : n + m ≤ 1000000) (hbase : base ≤ w.heap.size)
    (h : ∀ av cv w', w'.ownsRow base e 1 (.slice av (n + m) cv) (n + m) (xs ++ news) → w.grownBy w' v.ownBlock → K (a.put o.dst (.slice av (n + m) cv)) w') :
    if Region.wanted o (yielded ops a.tmps) = true then Oper.wp Tryd.prog o a w K Q else E := by
  have hw : Region.wanted o (yielded ops a.tmps) = true := by simp [Region.wanted, hgd]
  rw [if_pos hw]
  exact wp_append_rd s x t ho base e z bytes ht hinfo hzs hbb v n xs hs hown A m c news hx hr h1 hnm hbase h
end
/-! ### A fresh slice: new, or nothing in it -/
def Fr (w : World) (B : Nat) (e : TypeId) (av : Option Addr) (n cv : Nat) (xs : List Value) : Prop := Rd w av n xs ∧ (0 < n → w.ownsRow B e 1 (.slice av n cv) n xs) ∧ (n = 0 → cv = 0)
theorem Rd.below {w w' : World} {A : Option Addr} {m : Nat} {news : List Value} (h : Rd w A m news) (hb : Below w.heap.size w w') : Rd w' A m news := by
  refine ⟨h.1, fun hm => ?_⟩
  obtain ⟨b, off, e, hc⟩ := h.2 hm
  exact ⟨b, off, e, fun j u hu => (hb.cell (p := ⟨b, off + j, none⟩) (World.block_lt_of_cell? w _ (hc j u hu))).trans (hc j u hu)⟩
theorem own_below {w w' : World} {B n : Nat} {e : TypeId} {v : Value} {xs : List Value} (h : w.ownsRow B e 1 v n xs) (hb : Below w.heap.size w w') : w'.ownsRow B e 1 v n xs := by
  refine ⟨h.1, ?_⟩
  rcases h.2 with h | ⟨g, cap, cur, hv, h1, h2, h3⟩
  · exact .inl h
  · exact .inr ⟨g, cap, cur, hv, h1, (hb.block g (Array.getElem?_eq_some_iff.1 h2).1).trans h2, h3⟩
theorem own_base {w : World} {B B' n : Nat} {e : TypeId} {v : Value} {xs : List Value} (h : w.ownsRow B e 1 v n xs) (hB : B' ≤ B) : w.ownsRow B' e 1 v n xs := by
  refine ⟨h.1, ?_⟩
  rcases h.2 with h | ⟨g, cap, cur, hv, h1, h2⟩
  · exact .inl h
  · exact .inr ⟨g, cap, cur, hv, Nat.le_trans hB h1, h2⟩
theorem Fr.below {w w' : World} {B : Nat} {e : TypeId} {av : Option Addr} {n cv : Nat} {xs : List Value} (h : Fr w B e av n cv xs) (hb : Below w.heap.size w w') : Fr w' B e av n cv xs := ⟨h.1.below hb, fun hn => own_below (h.2.1 hn) hb, h.2.2⟩
theorem Fr.base {w : World} {B B' : Nat} {e : TypeId} {av : Option Addr} {n cv : Nat} {xs : List Value} (h : Fr w B e av n cv xs) (hB : B' ≤ B) : Fr w B' e av n cv xs := ⟨h.1, fun hn => own_base (h.2.1 hn) hB, h.2.2⟩
theorem own_rd {w : World} {B n : Nat} {e : TypeId} {av : Option Addr} {cv : Nat} {xs : List Value} (h : w.ownsRow B e 1 (.slice av n cv) n xs) : Rd w av n xs := by
  have hl := h.1
  rw [Nat.mul_one] at hl
  refine ⟨hl, fun hn => ?_⟩
  obtain ⟨g, rfl, _, hc, _⟩ := own_cells h hn
  refine ⟨g, 0, rfl, fun j u hu => ?_⟩
  obtain ⟨hlt, _⟩ := List.getElem?_eq_some_iff.1 hu
  rw [Nat.zero_add, hc j (by omega), hu]
theorem Rd.void (w : World) (A : Option Addr) : Rd w A 0 [] := ⟨rfl, fun h => by omega⟩
theorem grown_below' {B : Nat} {w w' : World} {row : Option Nat} (h : w.grownBy w' row) (hg : ∀ g, row = some g → B ≤ g) (hB : B ≤ w.heap.size) : Below B w w' :=
  ⟨h.os, h.tape, h.output, h.size, fun k hk => h.block k (by omega) (by intro e; have := hg k e.symm; omega)⟩

section
variable {w : World}
/-- append onto a slice with no room: what comes is new, or the slice itself. -/
theorem run_append_full (t ty e : TypeId) (z : Value) (bytes : Nat) (ht : Tryd.prog.underlying t = some (.slice e)) (hinfo : (Tryd.prog.info? e).map (fun i => (i.zero, i.size, i.bytes)) = some (some z, 1, bytes)) (hzs : z.cells.size = 1) (hbb : bytes ≤ 100)
    (A0 : Option Addr) (n0 : Nat) (xs : List Value) (hr0 : Rd w A0 n0 xs) (hx1 : ∀ u ∈ xs, u.oneCell' = true) (A : Option Addr) (m c : Nat) (news : List Value) (hr : Rd w A m news) (h1 : ∀ u ∈ news, u.oneCell' = true) (hnm : n0 + m ≤ 1000000) :
    ∃ av cv w', (Builtin.append_ #[t, t] ty #[.slice A0 n0 n0, .slice A m c]).run Tryd.prog w = .ok (.slice av (n0 + m) cv) w' ∧ Below w.heap.size w w' ∧ Rd w' av (n0 + m) (xs ++ news) ∧
      (0 < m → w'.ownsRow w.heap.size e 1 (.slice av (n0 + m) cv) (n0 + m) (xs ++ news)) ∧ (m = 0 → av = A0 ∧ cv = n0 ∧ w' = w) := by
  obtain ⟨i, hi, hzz⟩ := Option.map_eq_some_iff.1 hinfo
  simp only [Prod.mk.injEq] at hzz
  obtain ⟨hz0, hz1, hz2⟩ := hzz
  rcases Nat.eq_zero_or_pos m with hm | hm
  · subst hm
    have hn : news = [] := List.eq_nil_of_length_eq_zero hr.1
    subst hn
    refine ⟨A0, n0, w, ?_, Below.refl _ _, by rw [List.append_nil]; exact hr0, fun h => by omega, fun _ => ⟨rfl, rfl, rfl⟩⟩
    cases A <;> cases A0 <;> simp [Builtin.append_, run_underlying ht, sizeOf, typeInfo, hi, Builtin.lenOf, Builtin.firstCells, storeCells, loadCells, loadCellsFrom]
  · obtain ⟨b, off, rfl, hc⟩ := hr.2 hm
    have hcells : ∀ j u, news[j]? = some u → w.cell? ((⟨b, off, none⟩ : Addr).add j) = some u := by
      intro j u hu; rw [Lib.add_plain]; exact hc j u hu
    have hb1 : (n0 + m) * bytes ≤ 1000000 * 100 := Nat.mul_le_mul hnm hbb
    have key : ∀ (old : Nat), old < n0 + m → (w.drew.alloc (.cells (xs.toArray ++ news.toArray ++ Builtin.zeroCells z.cells (grownCap w (n0 + m) old e - (n0 + m))) e)).ownsRow w.heap.size e 1
        (.slice (some ⟨w.heap.size, 0, none⟩) (n0 + m) (grownCap w (n0 + m) old e)) (n0 + m) (xs ++ news) := by
      intro old ho
      have hge := grownCap_ge w (n0 + m) old e
      have hcm := grownCap_le_maxLen w (n0 + m) old e (by unfold maxLen; omega)
      refine ⟨by rw [List.length_append, hr0.1, hr.1, Nat.mul_one], .inr ⟨w.heap.size, _, _, rfl, Nat.le_refl _, heap_alloc_new w.drew _, hge, hcm, ?_, ?_⟩⟩
      · simp only [Array.size_append, List.size_toArray, size_zeroCells, hzs, hr0.1, hr.1, Nat.mul_one]
        omega
      · simp only [Array.toList_append, List.append_assoc]
        rw [← List.append_assoc, Nat.mul_one, ← show (xs ++ news).length = n0 + m by rw [List.length_append, hr0.1, hr.1]]
        exact List.take_left
    have hbel : ∀ o, Below w.heap.size w (w.drew.alloc o) := fun o => (Below.refl _ _).drew.alloc (Nat.le_refl _) _
    rcases A0 with _ | ad
    · have h0 : n0 = 0 := by
        rcases Nat.eq_zero_or_pos n0 with h | h
        · exact h
        · obtain ⟨_, _, e, _⟩ := hr0.2 h; cases e
      subst h0
      have hx : xs = [] := List.eq_nil_of_length_eq_zero hr0.1
      subst hx
      have hrun := run_append_nil (P := Tryd.prog) w t ty e i z ht hi hz0 ⟨b, off, none⟩ m c news (by rw [hz1, Nat.mul_one]; exact hr.1) hcells hm (by omega) (by rw [hz2]; have := Nat.mul_le_mul (show m ≤ 1000000 by omega) hbb; omega)
      have k := key 0 (by omega)
      simp only [Nat.zero_add, List.nil_append, Array.empty_append] at k ⊢
      exact ⟨_, _, _, hrun, hbel _, own_rd k, fun _ => k, fun h => by omega⟩
    · have holds : ∀ j v, xs[j]? = some v → w.cell? (ad.add j) = some v := by
        intro j u hu
        obtain ⟨hlt, _⟩ := List.getElem?_eq_some_iff.1 hu
        obtain ⟨b', off', e, hc'⟩ := hr0.2 (by rw [← hr0.1]; omega)
        injection e with e
        subst e
        rw [Lib.add_plain]; exact hc' j u hu
      have hrun := run_append_grow (P := Tryd.prog) w t ty e i z ht hi hz0 ad n0 n0 xs (by rw [hz1, Nat.mul_one]; exact hr0.1) holds ⟨b, off, none⟩ m c news (by rw [hz1, Nat.mul_one]; exact hr.1) hcells (by omega) (by omega) (by rw [hz2]; exact growslice_fits (by omega) (by omega))
      have k := key n0 (by omega)
      exact ⟨_, _, _, hrun, hbel _, own_rd k, fun _ => k, fun h => by omega⟩
theorem wp_append_full {o : Oper} {a : Act} {K : Act → World → Prop} {Q : Exit → Act → World → Prop} (s x : Operand) (t : TypeId)
    (ho : o.op = .call { callee := .builtin .append, args := #[s, x], argTypes := #[t, t] })
    (e : TypeId) (z : Value) (bytes : Nat) (ht : Tryd.prog.underlying t = some (.slice e)) (hinfo : (Tryd.prog.info? e).map (fun i => (i.zero, i.size, i.bytes)) = some (some z, 1, bytes)) (hzs : z.cells.size = 1) (hbb : bytes ≤ 100)
    (A0 : Option Addr) (n0 : Nat) (xs : List Value) (hs : a.eval s = .slice A0 n0 n0) (hr0 : Rd w A0 n0 xs) (hx1 : ∀ u ∈ xs, u.oneCell' = true) (A : Option Addr) (m c : Nat) (news : List Value) (hx : a.eval x = .slice A m c) (hr : Rd w A m news) (h1 : ∀ u ∈ news, u.oneCell' = true) (hnm : n0 + m ≤ 1000000)
    (h : ∀ av cv w', Below w.heap.size w w' → Rd w' av (n0 + m) (xs ++ news) → (0 < m → w'.ownsRow w.heap.size e 1 (.slice av (n0 + m) cv) (n0 + m) (xs ++ news)) → (m = 0 → av = A0 ∧ cv = n0 ∧ w' = w) → K (a.put o.dst (.slice av (n0 + m) cv)) w') : o.wp Tryd.prog a w K Q := by
  obtain ⟨av, cv, w', hrun, h2, h3, h4, h5⟩ := run_append_full (w := w) t o.type e z bytes ht hinfo hzs hbb A0 n0 xs hr0 hx1 A m c news hr h1 hnm
  unfold Oper.wp execOp
  simp only [ho, resolve, invoke, builtin, Sem.run_bind, Sem.run_pure, Result.andThen_ok, List.map_toArray, List.map_cons, List.map_nil, hs, hx, hrun]
  exact h av cv w' h2 h3 h4 h5
theorem wpList_append_full {ops : Array Oper} {rest : List Oper} {o : Oper} {a : Act} {Q : Exit → Act → World → Prop} (hgd : o.guard = none) (s x : Operand) (t : TypeId)
    (ho : o.op = .call { callee := .builtin .append, args := #[s, x], argTypes := #[t, t] })
    (e : TypeId) (z : Value) (bytes : Nat) (ht : Tryd.prog.underlying t = some (.slice e)) (hinfo : (Tryd.prog.info? e).map (fun i => (i.zero, i.size, i.bytes)) = some (some z, 1, bytes)) (hzs : z.cells.size = 1) (hbb : bytes ≤ 100)
    (A0 : Option Addr) (n0 : Nat) (xs : List Value) (hs : a.eval s = .slice A0 n0 n0) (hr0 : Rd w A0 n0 xs) (hx1 : ∀ u ∈ xs, u.oneCell' = true) (A : Option Addr) (m c : Nat) (news : List Value) (hx : a.eval x = .slice A m c) (hr : Rd w A m news) (h1 : ∀ u ∈ news, u.oneCell' = true) (hnm : n0 + m ≤ 1000000)
    (h : ∀ av cv w', Below w.heap.size w w' → Rd w' av (n0 + m) (xs ++ news) → (0 < m → w'.ownsRow w.heap.size e 1 (.slice av (n0 + m) cv) (n0 + m) (xs ++ news)) → (m = 0 → av = A0 ∧ cv = n0 ∧ w' = w) → wpList Tryd.prog ops Q rest (a.put o.dst (.slice av (n0 + m) cv)) w') : wpList Tryd.prog ops Q (o :: rest) a w :=
  wpList_plain hgd fun _ hK => wp_append_full s x t ho e z bytes ht hinfo hzs hbb A0 n0 xs hs hr0 hx1 A m c news hx hr h1 hnm fun av cv w' h2 h3 h4 h5 => hK _ _ (h av cv w' h2 h3 h4 h5)
/-- append onto an empty slice with no room, as one step of a region that draws. -/
theorem step_fresh {ops : Array Oper} {o : Oper} {a : Act} {K : Act → World → Prop} {Q : Exit → Act → World → Prop} {E : Prop} (hgd : o.guard = none) (s x : Operand) (t : TypeId)
    (ho : o.op = .call { callee := .builtin .append, args := #[s, x], argTypes := #[t, t] })
    (e : TypeId) (z : Value) (bytes : Nat) (ht : Tryd.prog.underlying t = some (.slice e)) (hinfo : (Tryd.prog.info? e).map (fun i => (i.zero, i.size, i.bytes)) = some (some z, 1, bytes)) (hzs : z.cells.size = 1) (hbb : bytes ≤ 100)
    (A0 : Option Addr) (hs : a.eval s = .slice A0 0 0) (A : Option Addr) (m c : Nat) (news : List Value) (hx : a.eval x = .slice A m c) (hr : Rd w A m news) (h1 : ∀ u ∈ news, u.oneCell' = true) (hnm : m ≤ 1000000)
    (h : ∀ av cv w', Below w.heap.size w w' → Fr w' w.heap.size e av m cv news → K (a.put o.dst (.slice av m cv)) w') :
    if Region.wanted o (yielded ops a.tmps) = true then Oper.wp Tryd.prog o a w K Q else E := by
  have hw : Region.wanted o (yielded ops a.tmps) = true := by simp [Region.wanted, hgd]
  rw [if_pos hw]
  refine wp_append_full s x t ho e z bytes ht hinfo hzs hbb A0 0 [] hs (Rd.void _ _) (by simp) A m c news hx hr h1 (by omega) fun av cv w' h2 h3 h4 h5 => ?_
  rw [Nat.zero_add] at h3 h4 ⊢
  rw [List.nil_append] at h3 h4
  exact h av cv w' h2 ⟨h3, h4, fun hm => (h5 hm).2.1⟩
theorem step_fresh3 {ops : Array Oper} {o : Oper} {a : Act} {K : Act → World → Prop} {Q : Exit → Act → World → Prop} {E : Prop} (W0 : World) (s x : Operand) (t : TypeId)
    (ho : o.op = .call { callee := .builtin .append, args := #[s, x], argTypes := #[t, t] }) (hgd : o.guard = none)
    (e : TypeId) (z : Value) (bytes : Nat) (ht : Tryd.prog.underlying t = some (.slice e)) (hinfo : (Tryd.prog.info? e).map (fun i => (i.zero, i.size, i.bytes)) = some (some z, 1, bytes)) (hzs : z.cells.size = 1) (hbb : bytes ≤ 100)
    (A0 : Option Addr) (A : Option Addr) (m c : Nat) (news : List Value) (hr : Rd W0 A m news) (h1 : ∀ u ∈ news, u.oneCell' = true) (hnm : m ≤ 1000000)
    (hs : a.eval s = .slice A0 0 0) (hx : a.eval x = .slice A m c) (hbel : Below W0.heap.size W0 w)
    (h : ∀ av cv w', Below w.heap.size w w' → Below W0.heap.size W0 w' → Fr w' W0.heap.size e av m cv news → K (a.put o.dst (.slice av m cv)) w') :
    if Region.wanted o (yielded ops a.tmps) = true then Oper.wp Tryd.prog o a w K Q else E :=
  step_fresh hgd s x t ho e z bytes ht hinfo hzs hbb A0 hs A m c news hx (hr.below hbel) h1 hnm fun av cv w' h2 h3 => h av cv w' h2 (hbel.trans (h2.mono hbel.size)) (h3.base hbel.size)
end
/-! ### append onto a fresh slice, again -/
theorem own_row {w : World} {base n : Nat} {e : TypeId} {a : Option Addr} {c : Nat} {xs : List Value} (h : w.ownsRow base e 1 (.slice a n c) n xs) (hn : 0 < n) :
    ∃ g, a = some ⟨g, 0, none⟩ ∧ base ≤ g ∧ (∀ j, j < n → w.cell? ⟨g, j, none⟩ = xs[j]?) ∧ (∀ j, w.frozen? ⟨g, j, none⟩ = false) ∧ ∃ cur, w.heap[g]? = some (.cells cur e (0, 0)) := by
  obtain ⟨g, rfl, hb, h1, h2⟩ := own_cells h hn
  refine ⟨g, rfl, hb, h1, h2, ?_⟩
  rcases h.2 with ⟨_, h0⟩ | ⟨g', cap, cur, hv, _, hg, _⟩
  · omega
  · injection hv with hv _ _
    injection hv with hv
    injection hv with hv _ _
    subst hv
    exact ⟨cur, hg⟩
/-- What an append may have turned: rows of that type that are the call's own. -/
def Gr (w w' : World) (B : Nat) (e : TypeId) : Prop := ∃ row, w.grownBy w' row ∧ ∀ g, row = some g → B ≤ g ∧ ∃ cur, w.heap[g]? = some (.cells cur e (0, 0))
theorem Gr.below {w w' : World} {B : Nat} {e : TypeId} (h : Gr w w' B e) (hB : B ≤ w.heap.size) : Below B w w' := by
  obtain ⟨row, h1, h2⟩ := h
  exact grown_below' h1 (fun g hg => (h2 g hg).1) hB
theorem Gr.bx {w w' : World} {B : Nat} {e : TypeId} (h : Gr w w' B e) {a b : Option Addr} {g n c m d : Nat} (hB : Bx w g a n c b m d) (he : e ≠ 25) : Bx w' g a n c b m d := by
  obtain ⟨row, h1, h2⟩ := h
  refine (h1.block g hB.lt ?_).trans hB
  intro hh
  obtain ⟨_, cur, hc⟩ := h2 g hh.symm
  have hx : w.heap[g]? = _ := hB
  rw [hx] at hc
  injection hc with hc
  injection hc with _ hc
  exact he hc.symm
theorem Gr.of_below {w w' : World} {B : Nat} {e : TypeId} (h : Below w.heap.size w w') : Gr w w' B e := ⟨none, ⟨h.os, h.tape, h.output, h.size, fun i hi _ => h.block i hi⟩, fun g hg => by cases hg⟩
theorem wpList_append_fr {w : World} {ops : Array Oper} {rest : List Oper} {o : Oper} {a : Act} {Q : Exit → Act → World → Prop} (hgd : o.guard = none) (s x : Operand) (t : TypeId)
    (ho : o.op = .call { callee := .builtin .append, args := #[s, x], argTypes := #[t, t] })
    (B : Nat) (e : TypeId) (z : Value) (bytes : Nat) (ht : Tryd.prog.underlying t = some (.slice e)) (hinfo : (Tryd.prog.info? e).map (fun i => (i.zero, i.size, i.bytes)) = some (some z, 1, bytes)) (hzs : z.cells.size = 1) (hbb : bytes ≤ 100)
    (av : Option Addr) (n cv : Nat) (xs : List Value) (hs : a.eval s = .slice av n cv) (hf : Fr w B e av n cv xs)
    (A : Option Addr) (m c : Nat) (news : List Value) (hx : a.eval x = .slice A m c) (hr : Rd w A m news) (h1 : ∀ u ∈ news, u.oneCell' = true) (hnm : n + m ≤ 1000000) (hB : B ≤ w.heap.size)
    (h : ∀ av' cv' w', Fr w' B e av' (n + m) cv' (xs ++ news) → Gr w w' B e → wpList Tryd.prog ops Q rest (a.put o.dst (.slice av' (n + m) cv')) w') : wpList Tryd.prog ops Q (o :: rest) a w := by
  obtain ⟨f1, f2, f3⟩ := hf
  rcases Nat.eq_zero_or_pos n with hn | hn
  · subst hn
    obtain rfl := f3 rfl
    have hxs : xs = [] := List.eq_nil_of_length_eq_zero f1.1
    subst hxs
    refine wpList_append_full hgd s x t ho e z bytes ht hinfo hzs hbb av 0 [] hs (Rd.void _ _) (by simp) A m c news hx hr h1 hnm fun av' cv' w' h2 h3 h4 h5 => ?_
    exact h av' cv' w' ⟨h3, fun hh => own_base (h4 (by omega)) hB, fun hh => (h5 (by omega)).2.1⟩ (Gr.of_below h2)
  · have ho' := f2 hn
    obtain ⟨g, rfl, hg, _, _, hrow⟩ := own_row ho' hn
    refine wpList_append_rd hgd s x t ho B e z bytes ht hinfo hzs hbb _ n xs hs ho' A m c news hx hr h1 hnm hB fun av' cv' w' h2 h3 => ?_
    refine h av' cv' w' ⟨own_rd h2, fun _ => h2, fun hh => by omega⟩ ⟨_, h3, fun g' hg' => ?_⟩
    have : g' = g := by simp [Value.ownBlock] at hg'; exact hg'.symm
    subst this
    exact ⟨hg, hrow⟩

/-! ### A string put into a row of the call's own -/
theorem Sl.far {w : World} {a : Option Addr} {n : Nat} {l : List Int} (h : Sl w a n l) {p : Addr} {s : ByteArray} (hp : w.cell? p = some (.string s)) (v : Value) : Sl (w.setCell p v) a n l := by
  refine ⟨h.1, fun hn => ?_⟩
  obtain ⟨b, off, e, hc⟩ := h.2 hn
  refine ⟨b, off, e, fun j hj => ?_⟩
  rw [World.cell?_setCell_other _ _ _ _ (by rintro rfl; rw [hc j hj] at hp; injection hp with hp; cases hp), hc j hj]
theorem St.put {w : World} {g n : Nat} {l : List ByteArray} (h : St w (some ⟨g, 0, none⟩) n l) {k : Nat} (hk : k < n) (s : ByteArray) : St (w.setCell ⟨g, k, none⟩ (.string s)) (some ⟨g, 0, none⟩) n (l.set k s) := by
  obtain ⟨b, off, e, hc⟩ := h.2 (by omega)
  injection e with e
  injection e with e1 e2 _
  subst e1 e2
  refine ⟨by rw [List.length_set]; exact h.1, fun hn => ⟨g, 0, rfl, fun j hj => ?_⟩⟩
  have hcj := hc j hj
  rw [Nat.zero_add] at hcj ⊢
  by_cases hjk : j = k
  · subst hjk
    rw [World.cell?_setCell_same _ _ _ hcj]
    simp [List.getD_eq_getElem?_getD, List.getElem?_set, h.1, hj]
  · rw [World.cell?_setCell_other _ _ _ _ (by intro e; injection e with _ e; exact hjk e.symm), hcj]
    simp [List.getD_eq_getElem?_getD, List.getElem?_set, Ne.symm hjk]

/-! ### A box's first slice put anew; a box beside a string put elsewhere -/
theorem Bx.set0 {W : World} {a b : Option Addr} {g n c m d : Nat} (h : Bx W g a n c b m d) (a' : Option Addr) (n' c' : Nat) : Bx (W.setCell ⟨g, 0, none⟩ (.slice a' n' c')) g a' n' c' b m d := by
  unfold Bx at h ⊢
  simp [World.setCell, Array.getElem?_modify, h]
theorem Bx.sl0 {W : World} {a b : Option Addr} {g n c m d : Nat} (h : Bx W g a n c b m d) {a' : Option Addr} {n' : Nat} {l : List Int} (hs : Sl W a' n' l) (u : Value) : Sl (W.setCell ⟨g, 0, none⟩ u) a' n' l := by
  refine ⟨hs.1, fun hn => ?_⟩
  obtain ⟨bb, off, e, hc⟩ := hs.2 hn
  refine ⟨bb, off, e, fun j hj => ?_⟩
  rw [World.cell?_setCell_other _ _ _ _ (by rintro e; have h0 := h.c0; rw [e, hc j hj] at h0; injection h0 with h0; cases h0), hc j hj]
theorem Bx.beside {W : World} {a b : Option Addr} {g n c m d : Nat} (h : Bx W g a n c b m d) {ge k : Nat} {e : TypeId} {cur : Array Value} (hc : W.heap[ge]? = some (.cells cur e (0, 0))) (he : e ≠ 25) (v : Value) : Bx (W.setCell ⟨ge, k, none⟩ v) g a n c b m d := by
  refine (Below.heap_setCell W ⟨ge, k, none⟩ v g ?_).trans h
  show g ≠ ge
  rintro rfl
  have hx : W.heap[g]? = _ := h
  rw [hx] at hc
  injection hc with hc
  injection hc with _ hc
  exact he hc.symm
theorem Rd.of_one {w : World} {A : Option Addr} {n : Nat} {l : List Int} {x : Int} (h : Rd w A n (valsI l ++ [.int .i64 x])) : Sl w A n (l ++ [x]) := by
  have e : valsI l ++ [.int .i64 x] = valsI (l ++ [x]) := by unfold valsI; simp
  rw [e] at h
  exact h.sl
end Go.Proofs.YtpledghphljfkaaDoor

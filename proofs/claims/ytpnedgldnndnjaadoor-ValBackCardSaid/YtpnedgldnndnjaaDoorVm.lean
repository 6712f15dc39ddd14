/-
  append of arrays, one by one, onto a row of the call's own.
-/
import Derived.Test.YtpnedgldnndnjaaDoorVk
namespace Go.Proofs.YtpnedgldnndnjaaDoor
open Go.RowKit

theorem infoVal : (Tryd.prog.info? 25).map (fun i => (i.zero, i.size, i.bytes)) = some (some (.agg #[.slice none 0 0, .slice none 0 0]), 2, 48) := by kernel_rfl
def IsSl (v : Value) : Prop := ∃ a n c, v = .slice a n c
theorem zero_sl (n : Nat) : ∀ v ∈ (Builtin.zeroCells #[.slice none 0 0, .slice none 0 0] n).toList, IsSl v := by
  intro v hv
  simp only [Builtin.zeroCells, Array.toList_map, List.mem_map] at hv
  obtain ⟨i, _, rfl⟩ := hv
  refine ⟨none, 0, 0, ?_⟩
  have h : i % 2 = 0 ∨ i % 2 = 1 := by omega
  show (#[Value.slice none 0 0, Value.slice none 0 0] : Array Value)[i % 2]! = _
  rcases h with h | h <;> rw [h] <;> rfl
/-- Arrays in a row of the call's own. -/
def Iw (w : World) (B : Nat) (ev : Value) (k : Nat) (s : List Int) (p : Nat → List ByteArray) : Prop :=
  (k = 0 ∧ ev = .slice none 0 0) ∨ ∃ g cur cap, ev = .slice (some ⟨g, 0, none⟩) k cap ∧ B ≤ g ∧ w.heap[g]? = some (.cells cur 25 (0, 0)) ∧ k ≤ cap ∧ cap ≤ maxLen ∧ cur.size = cap * 2 ∧ (∀ v ∈ cur.toList, IsSl v) ∧
    ∀ j, j < k → ∃ a n c b m d, cur.toList[j * 2]? = some (.slice a n c) ∧ cur.toList[j * 2 + 1]? = some (.slice b m d) ∧ Vl w a n b m s (p j)
theorem Iw.nil (w : World) (B : Nat) (s : List Int) (p : Nat → List ByteArray) : Iw w B (.slice none 0 0) 0 s p := .inl ⟨rfl, rfl⟩
theorem Iw.its {w : World} {B : Nat} {ev : Value} {k : Nat} {s : List Int} {p : Nat → List ByteArray} (h : Iw w B ev k s p) : ∃ av cv, ev = .slice av k cv ∧ Its w av k s p := by
  rcases h with ⟨rfl, rfl⟩ | ⟨g, cur, cap, rfl, _, hg, _, _, _, _, hi⟩
  · exact ⟨none, 0, rfl, fun h => by omega⟩
  · refine ⟨_, cap, rfl, fun _ => ⟨g, rfl, fun j hj => ?_⟩⟩
    obtain ⟨a, n, c, b, m, d, h1, h2, h3⟩ := hi j hj
    exact ⟨a, n, c, b, m, d, by rw [cell_of_row w g _ cur _ _ hg, ← Array.getElem?_toList, h1], by rw [cell_of_row w g _ cur _ _ hg, ← Array.getElem?_toList, h2], h3⟩
theorem Iw.below {w w' : World} {B : Nat} {ev : Value} {k : Nat} {s : List Int} {p : Nat → List ByteArray} (h : Iw w B ev k s p) (hb : Below w.heap.size w w') : Iw w' B ev k s p := by
  rcases h with h | ⟨g, cur, cap, h1, h2, hg, h3, h4, h5, h6, hi⟩
  · exact .inl h
  · refine .inr ⟨g, cur, cap, h1, h2, (hb.block g (Array.getElem?_eq_some_iff.1 hg).1).trans hg, h3, h4, h5, h6, fun j hj => ?_⟩
    obtain ⟨a, n, c, b, m, d, q1, q2, q3⟩ := hi j hj
    exact ⟨a, n, c, b, m, d, q1, q2, q3.below hb⟩
/-- A row of slices holds no number, no text: what reads elsewhere goes on reading. -/
theorem Vl.row {w : World} {a b : Option Addr} {n m : Nat} {l : List Int} {es : List ByteArray} (h : Vl w a n b m l es) {g : Nat} {cur new : Array Value} {e : TypeId} (hg : w.heap[g]? = some (.cells cur e (0, 0))) (hs : ∀ v ∈ cur.toList, IsSl v) : Vl (w.setRow g new) a n b m l es := by
  have key : ∀ (bl o : Nat) (x : Value), w.cell? ⟨bl, o, none⟩ = some x → (∀ a n c, x ≠ .slice a n c) → (w.setRow g new).cell? ⟨bl, o, none⟩ = some x := by
    intro bl o x hx hn
    have hne : bl ≠ g := by
      rintro rfl
      rw [cell_of_row w bl o cur _ _ hg, ← Array.getElem?_toList] at hx
      obtain ⟨a', n', c', e'⟩ := hs x (List.mem_of_getElem? hx)
      exact hn _ _ _ e'
    exact (World.cell?_of_block (w := w) (setRow_other w g bl new hne)).trans hx
  refine ⟨⟨h.s.1, fun hn => ?_⟩, ⟨h.t.1, fun hn => ?_⟩, h.mm⟩
  · obtain ⟨bl, off, e', hc⟩ := h.s.2 hn
    exact ⟨bl, off, e', fun j hj => key _ _ _ (hc j hj) (by intro _ _ _ hh; cases hh)⟩
  · obtain ⟨bl, off, e', hc⟩ := h.t.2 hn
    exact ⟨bl, off, e', fun j hj => key _ _ _ (hc j hj) (by intro _ _ _ hh; cases hh)⟩
theorem run_append_val {w : World} {B : Nat} {ev : Value} {k : Nat} {s : List Int} {p : Nat → List ByteArray} (h : Iw w B ev k s p) (hB : B ≤ w.heap.size) {a b : Option Addr} {n c m d g0 : Nat}
    (hg0 : Bx w g0 a n c b m d) (hV : Vl w a n b m s (p k)) (hk : k ≤ 1000) (ty : TypeId) :
    ∃ av cv w', (Builtin.append_ #[29, 29] ty #[ev, .slice (some ⟨g0, 0, none⟩) 1 1]).run Tryd.prog w = .ok (.slice av (k + 1) cv) w' ∧ Iw w' B (.slice av (k + 1) cv) (k + 1) s p ∧ Below B w w' := by
  obtain ⟨i, hi, hzz⟩ := Option.map_eq_some_iff.1 infoVal
  simp only [Prod.mk.injEq] at hzz
  obtain ⟨hz0, hz1, hz2⟩ := hzz
  have hnews : ∀ j v, [Value.slice a n c, Value.slice b m d][j]? = some v → w.cell? ((⟨g0, 0, none⟩ : Addr).add j) = some v := by
    intro j v hv
    rw [Lib.add_plain, Nat.zero_add]
    rcases j with _ | _ | j
    · simp at hv; rw [← hv]; exact hg0.c0
    · simp at hv; rw [← hv]; exact hg0.c1
    · simp at hv
  have hzc : (Value.agg #[.slice none 0 0, .slice none 0 0]).cells = #[.slice none 0 0, .slice none 0 0] := rfl
  have hnew : ∀ v ∈ [Value.slice a n c, Value.slice b m d], IsSl v := by
    intro v hv
    simp at hv
    rcases hv with rfl | rfl
    · exact ⟨_, _, _, rfl⟩
    · exact ⟨_, _, _, rfl⟩
  rcases h with ⟨rfl, rfl⟩ | ⟨g, cur, cap, rfl, hBg, hg, hkc, hcm, hsz, hsl, hit⟩
  · have hrun := run_append_nil (P := Tryd.prog) w 29 ty 25 i _ Tryd.underlying29 hi hz0 ⟨g0, 0, none⟩ 1 1 [.slice a n c, .slice b m d] (by rw [hz1]; rfl) hnews (by omega) (by omega) (by rw [hz2]; omega)
    rw [hzc] at hrun
    have hge := grownCap_ge w 1 0 25
    have hcm := grownCap_le_maxLen w 1 0 25 (by unfold maxLen; omega)
    have hb : Below w.heap.size w (w.drew.alloc (.cells ([Value.slice a n c, Value.slice b m d].toArray ++ Builtin.zeroCells #[.slice none 0 0, .slice none 0 0] (grownCap w 1 0 25 - 1)) 25)) := (Below.refl _ _).drew.alloc (Nat.le_refl _) _
    refine ⟨_, _, _, hrun, .inr ⟨w.heap.size, _, _, rfl, hB, heap_alloc_new w.drew _, hge, hcm, ?_, ?_, fun j hj => ?_⟩, hb.mono hB⟩
    · rw [Array.size_append, size_zeroCells]; simp only [List.size_toArray, List.length_cons, List.length_nil]; show 2 + (_ - 1) * 2 = _ * 2; omega
    · intro v hv
      rw [Array.toList_append, List.mem_append] at hv
      rcases hv with hv | hv
      · exact hnew v hv
      · exact zero_sl _ v hv
    · obtain rfl : j = 0 := by omega
      refine ⟨a, n, c, b, m, d, ?_, ?_, hV.below hb⟩
      · rw [Array.toList_append, List.getElem?_append_left (by simp)]; rfl
      · rw [Array.toList_append, List.getElem?_append_left (by simp)]; rfl
  · by_cases hroom : k + 1 ≤ cap
    · have hrun := run_append_room (P := Tryd.prog) w 29 ty 25 i Tryd.underlying29 hi g k cap cur hg ⟨g0, 0, none⟩ 1 1 [.slice a n c, .slice b m d] (by rw [hz1]; rfl) hnews (by intro u hu; obtain ⟨_, _, _, rfl⟩ := hnew u hu; rfl) hroom (by rw [hz1, hsz]; show k * 2 + 2 ≤ _; omega)
      rw [hz1] at hrun
      have hlen : (cur.toList.take (k * 2)).length = k * 2 := by rw [List.length_take, Array.length_toList]; omega
      refine ⟨_, _, _, hrun, .inr ⟨g, _, cap, rfl, hBg, setRow_heap w g cur _ _ _ hg, hroom, hcm, ?_, ?_, fun j hj => ?_⟩, ⟨rfl, rfl, rfl, by simp [World.setRow], fun q hq => setRow_other w g q _ (by omega)⟩⟩
      · simp only [List.size_toArray, List.length_append, hlen, List.length_drop, Array.length_toList, List.length_cons, List.length_nil]; omega
      · intro v hv
        simp only [List.mem_append] at hv
        rcases hv with (hv | hv) | hv
        · exact hsl v (List.mem_of_mem_take hv)
        · exact hnew v hv
        · exact hsl v (List.mem_of_mem_drop hv)
      · rcases Nat.lt_or_ge j k with hjk | hjk
        · obtain ⟨a', n', c', b', m', d', q1, q2, q3⟩ := hit j hjk
          refine ⟨a', n', c', b', m', d', ?_, ?_, q3.row hg hsl⟩
          · show (_ ++ _ ++ _)[j * 2]? = _
            rw [List.append_assoc, List.getElem?_append_left (by omega), List.getElem?_take_of_lt (by omega), q1]
          · show (_ ++ _ ++ _)[j * 2 + 1]? = _
            rw [List.append_assoc, List.getElem?_append_left (by omega), List.getElem?_take_of_lt (by omega), q2]
        · obtain rfl : j = k := by omega
          refine ⟨a, n, c, b, m, d, ?_, ?_, hV.row hg hsl⟩
          · show (_ ++ _ ++ _)[j * 2]? = _
            rw [List.append_assoc, List.getElem?_append_right (by omega), hlen, Nat.sub_self]; rfl
          · show (_ ++ _ ++ _)[j * 2 + 1]? = _
            rw [List.append_assoc, List.getElem?_append_right (by omega), hlen, show j * 2 + 1 - j * 2 = 1 by omega]; rfl
    · obtain rfl : cap = k := by omega
      have hgl := (Array.getElem?_eq_some_iff.1 hg).1
      have hrun := run_append_grow (P := Tryd.prog) w 29 ty 25 i _ Tryd.underlying29 hi hz0 ⟨g, 0, none⟩ cap cap cur.toList (by rw [hz1, Array.length_toList]; exact hsz) (fun j v hv => by rw [Lib.add_plain, Nat.zero_add, cell_of_row w g j cur _ _ hg, ← Array.getElem?_toList]; exact hv) ⟨g0, 0, none⟩ 1 1 [.slice a n c, .slice b m d] (by rw [hz1]; rfl) hnews (by omega) (by omega) (by rw [hz2]; exact growslice_fits (by omega) (by omega))
      rw [hzc] at hrun
      have hge := grownCap_ge w (cap + 1) cap 25
      have hcm' := grownCap_le_maxLen w (cap + 1) cap 25 (by unfold maxLen; omega)
      have hb : ∀ o, Below w.heap.size w (w.drew.alloc o) := fun o => (Below.refl _ _).drew.alloc (Nat.le_refl _) _
      have hlc : cur.toList.length = cap * 2 := by rw [Array.length_toList]; exact hsz
      refine ⟨_, _, _, hrun, .inr ⟨w.heap.size, _, _, rfl, hB, heap_alloc_new w.drew _, hge, hcm', ?_, ?_, fun j hj => ?_⟩, (hb _).mono hB⟩
      · rw [Array.size_append, size_zeroCells, Array.size_append]; simp only [List.size_toArray, List.length_cons, List.length_nil, hlc]; show cap * 2 + 2 + (_ - (cap + 1)) * 2 = _ * 2; omega
      · intro v hv
        rw [Array.toList_append, Array.toList_append, List.mem_append, List.mem_append] at hv
        rcases hv with (hv | hv) | hv
        · exact hsl v hv
        · exact hnew v hv
        · exact zero_sl _ v hv
      · rcases Nat.lt_or_ge j cap with hjk | hjk
        · obtain ⟨a', n', c', b', m', d', q1, q2, q3⟩ := hit j hjk
          refine ⟨a', n', c', b', m', d', ?_, ?_, q3.below (hb _)⟩
          · rw [Array.toList_append, Array.toList_append, List.append_assoc, List.getElem?_append_left (by show j * 2 < cur.toList.length; omega)]; exact q1
          · rw [Array.toList_append, Array.toList_append, List.append_assoc, List.getElem?_append_left (by show j * 2 + 1 < cur.toList.length; omega)]; exact q2
        · obtain rfl : j = cap := by omega
          refine ⟨a, n, c, b, m, d, ?_, ?_, hV.below (hb _)⟩
          · rw [Array.toList_append, Array.toList_append, List.append_assoc, List.getElem?_append_right (by show cur.toList.length ≤ j * 2; omega)]; show (_ ++ _)[j * 2 - cur.toList.length]? = _; rw [hlc, Nat.sub_self]; rfl
          · rw [Array.toList_append, Array.toList_append, List.append_assoc, List.getElem?_append_right (by show cur.toList.length ≤ j * 2 + 1; omega)]; show (_ ++ _)[j * 2 + 1 - cur.toList.length]? = _; rw [hlc, show j * 2 + 1 - j * 2 = 1 by omega]; rfl
theorem wpList_append_val {w : World} {ops : Array Oper} {rest : List Oper} {o : Oper} {a' : Act} {Q : Exit → Act → World → Prop} (hgd : o.guard = none) (s' x : Operand)
    (ho : o.op = .call { callee := .builtin .append, args := #[s', x], argTypes := #[29, 29] })
    {B : Nat} {ev : Value} {k : Nat} {s : List Int} {p : Nat → List ByteArray} (h : Iw w B ev k s p) (hB : B ≤ w.heap.size) {a b : Option Addr} {n c m d g0 : Nat}
    (hg0 : Bx w g0 a n c b m d) (hV : Vl w a n b m s (p k)) (hk : k ≤ 1000) (hs : a'.eval s' = ev) (hx : a'.eval x = .slice (some ⟨g0, 0, none⟩) 1 1)
    (hh : ∀ av cv w', Iw w' B (.slice av (k + 1) cv) (k + 1) s p → Below B w w' → wpList Tryd.prog ops Q rest (a'.put o.dst (.slice av (k + 1) cv)) w') : wpList Tryd.prog ops Q (o :: rest) a' w := by
  refine wpList_plain hgd fun K hK => ?_
  obtain ⟨av, cv, w', hrun, h2, h3⟩ := run_append_val h hB hg0 hV hk o.type
  unfold Oper.wp execOp
  simp only [ho, resolve, invoke, builtin, Sem.run_bind, Sem.run_pure, Result.andThen_ok, List.map_toArray, List.map_cons, List.map_nil, hs, hx, hrun]
  exact hK _ _ (hh av cv w' h2 h3)
end Go.Proofs.YtpnedgldnndnjaaDoor

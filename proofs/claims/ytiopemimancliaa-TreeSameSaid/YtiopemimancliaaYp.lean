/-
  Trees put together: append whatever the source, and Node.
-/
import Derived.Test.YtiopemimancliaaYn
namespace Go.Proofs.Ytiopemimancliaa
open Go.RowKit

theorem run_append_void {w : World} (base : Nat) (t ty e : TypeId) (i : TypeInfo) (s : Nat) (ht : Try.prog.underlying t = some (.slice e)) (hi : Try.prog.info? e = some i) (hsize : i.size = s)
    (v : Value) (n : Nat) (xs : List Value) (hown : w.ownsRow base e s v n xs) (c : Nat) : (Builtin.append_ #[t, t] ty #[v, .slice none 0 c]).run Try.prog w = .ok v w := by
  rcases hown.2 with ⟨rfl, rfl⟩ | ⟨g, cap, cur, rfl, _, _, hnc, _⟩
  · simp [Builtin.append_, run_underlying ht, sizeOf, typeInfo, hi, Builtin.lenOf, Builtin.firstCells]
  · simp [Builtin.append_, run_underlying ht, sizeOf, typeInfo, hi, Builtin.lenOf, Builtin.firstCells, hnc, storeCells]
/-- append onto a row of the call's own, whatever the source. -/
theorem wpList_append_all {w : World} {ops : Array Oper} {rest : List Oper} {o : Oper} {a : Act} {Q : Exit → Act → World → Prop} (hgd : o.guard = none) (s x : Operand) (t : TypeId)
    (ho : o.op = .call { callee := .builtin .append, args := #[s, x], argTypes := #[t, t] })
    (base : Nat) (e : TypeId) (i : TypeInfo) (z : Value) (size bytes : Nat) (ht : Try.prog.underlying t = some (.slice e)) (hi : Try.prog.info? e = some i) (hz : i.zero = some z)
    (hsize : i.size = size) (hby : i.bytes = bytes) (hzs : z.cells.size = size) (hsz : 0 < size)
    (v : Value) (n : Nat) (xs : List Value) (hs : a.eval s = v) (hown : w.ownsRow base e size v n xs)
    (A : Option Addr) (m c : Nat) (news : List Value) (hx : a.eval x = .slice A m c) (hl : news.length = m * size) (hA : A = none → m = 0)
    (hnews : ∀ ad, A = some ad → ∀ j u, news[j]? = some u → w.cell? (ad.add j) = some u) (h1 : ∀ u ∈ news, u.oneCell' = true)
    (h63 : n + m ≤ maxLen) (hbytes : (n + m) * bytes ≤ 140737488355328) (hbase : base ≤ w.heap.size)
    (h : ∀ v' w', w'.ownsRow base e size v' (n + m) (xs ++ news) → w.grownBy w' v.ownBlock → wpList Try.prog ops Q rest (a.put o.dst v') w') : wpList Try.prog ops Q (o :: rest) a w := by
  cases A with
  | some ad => exact wpList_append_own w hgd s x t ho base e i z size bytes ht hi hz hsize hby hzs hsz v n xs hs hown ad m c news hx hl (hnews ad rfl) h1 h63 hbytes hbase fun v' w' h2 h3 _ => h v' w' h2 h3
  | none =>
    have hm := hA rfl
    subst hm
    have hn : news = [] := List.eq_nil_of_length_eq_zero (by rw [hl, Nat.zero_mul])
    subst hn
    rw [List.append_nil] at h
    refine wpList_plain hgd fun K hK => ?_
    have hrun := run_append_void (w := w) base t o.type e i size ht hi hsize v n xs hown c
    unfold Oper.wp
    simp [execOp, ho, resolve, invoke, builtin, hs, hx, hrun, Result.andThen]
    exact hK _ _ (h v w hown (World.grownBy.refl w _))
theorem nvs_one (f : Nat → Nd) : ∀ k, ∀ u ∈ nvs f k, u.oneCell' = true
  | 0, u, h => by cases h
  | k + 1, u, h => by
    rcases List.mem_append.1 (show u ∈ nvs f k ++ (f k).cells from h) with h | h
    · exact nvs_one f k u h
    · simp only [Nd.cells, List.mem_cons, List.not_mem_nil, or_false] at h
      rcases h with rfl | rfl | rfl | rfl | rfl <;> rfl
/-- The cells of a slice of nodes, as a row. -/
theorem Nq.cells {w : World} {a : Option Addr} {n : Nat} {f : Nat → Nd} (h : Nq w a n f) : ∀ ad, a = some ad → ∀ j u, (nvs f n)[j]? = some u → w.cell? (ad.add j) = some u := by
  intro ad ha j u hj
  have hl := (List.getElem?_eq_some_iff.1 hj).1
  rw [nvs_len] at hl
  obtain ⟨b, off, e, hc⟩ := h.ld (by omega)
  rw [ha] at e
  injection e with e
  subst e
  have hq : j / 5 < n := by omega
  have hr : j % 5 < 5 := Nat.mod_lt _ (by omega)
  have hjq : j / 5 * 5 + j % 5 = j := by omega
  have hg := nvs_get f n (j / 5) (j % 5) hq hr
  rw [hjq, hj] at hg
  have hL := hc _ hq
  rw [Go.WideShapes.add_plain, show off + j = off + j / 5 * 5 + j % 5 by omega]
  generalize off + j / 5 * 5 = o at *
  generalize j % 5 = i at *
  match i, hr with
  | 0, _ => rw [hg, Nat.add_zero]; exact hL.c0
  | 1, _ => rw [hg]; exact hL.c1
  | 2, _ => rw [hg]; exact hL.c2
  | 3, _ => rw [hg]; exact hL.c3
  | 4, _ => rw [hg]; exact hL.c4
def valsS (es : List ByteArray) : List Value := es.map Value.string
theorem valsS_one (l : List ByteArray) : ∀ u ∈ valsS l, u.oneCell' = true := by
  intro u hu
  obtain ⟨x, _, rfl⟩ := List.mem_map.1 hu
  rfl
theorem St.cells {w : World} {a : Option Addr} {n : Nat} {l : List ByteArray} (h : St w a n l) : ∀ ad, a = some ad → ∀ j u, (valsS l)[j]? = some u → w.cell? (ad.add j) = some u := by
  intro ad ha j u hj
  unfold valsS at hj
  rw [List.getElem?_map, Option.map_eq_some_iff] at hj
  obtain ⟨x, hx, rfl⟩ := hj
  obtain ⟨hlt, rfl⟩ := List.getElem?_eq_some_iff.1 hx
  obtain ⟨b, off, e, hc⟩ := h.2 (by rw [← h.1]; omega)
  rw [ha] at e
  injection e with e
  subst e
  rw [Go.WideShapes.add_plain, hc j (by rw [← h.1]; exact hlt)]
  simp [List.getD_eq_getElem?_getD, List.getElem?_eq_getElem hlt]
theorem own_st {w : World} {base n : Nat} {v : Value} {l : List ByteArray} (h : w.ownsRow base 9 1 v n (valsS l)) : ∃ a c, v = .slice a n c ∧ n ≤ c ∧ c ≤ maxLen ∧ St w a n l := by
  have hl : l.length = n := by have := h.1; unfold valsS at this; rwa [List.length_map, Nat.mul_one] at this
  rcases h.2 with ⟨rfl, rfl⟩ | ⟨g, cap, cur, rfl, h0, hg, h1, h2, h3, h4⟩
  · exact ⟨none, 0, rfl, Nat.le_refl _, by unfold maxLen; omega, hl, fun h => by omega⟩
  · refine ⟨_, cap, rfl, by omega, h2, hl, fun hn => ⟨g, 0, rfl, fun j hj => ?_⟩⟩
    rw [Nat.zero_add, h.cellAt j (by omega)]
    unfold valsS
    simp [List.getD_eq_getElem?_getD, List.getElem?_eq_getElem (show j < l.length by omega)]
theorem infoS : (Try.prog.info? 9).map (fun i => (i.zero, i.size, i.bytes)) = some (some (.string ⟨#[]⟩), 1, 16) := by kernel_rfl
/-- What strings lie elsewhere stays, where a slice is stored over a slice. -/
theorem St.set {W : World} {a : Option Addr} {n : Nat} {l : List ByteArray} (h : St W a n l) {p : Addr} {g : Option Addr} {m c : Nat} (hp : W.cell? p = some (.slice g m c)) (u : Value) : St (W.setCell p u) a n l := by
  refine ⟨h.1, fun hn => ?_⟩
  obtain ⟨b, off, e, hc⟩ := h.2 hn
  refine ⟨b, off, e, fun j hj => ?_⟩
  rw [World.cell?_setCell_other _ _ _ _ (by intro e; rw [e, hc j hj] at hp; cases hp)]
  exact hc j hj
theorem Nd.on.set {d : Nd} {W : World} (h : d.on W) {p : Addr} {g : Option Addr} {m c : Nat} (hp : W.cell? p = some (.slice g m c)) (u : Value) : d.on (W.setCell p u) := { h with st := h.st.set hp u }
/-- A node with other numbers' memory. -/
def Nd.mv (d : Nd) (g : Option Addr) (c : Nat) : Nd := { d with g := g, c := c }
def upd (G : Nat → Nd) (i : Nat) (d : Nd) : Nat → Nd := fun j => if j = i then d else G j
theorem upd_same (G : Nat → Nd) (i : Nat) (d : Nd) : upd G i d i = d := by unfold upd; rw [if_pos rfl]
theorem upd_other (G : Nat → Nd) {i j : Nat} (d : Nd) (h : j ≠ i) : upd G i d j = G j := by unfold upd; rw [if_neg h]
theorem nvs_set (G : Nat → Nd) (g : Option Addr) (c : Nat) : ∀ n i, i < n → (nvs G n).set (i * 5 + 4) (.slice g (G i).m c) = nvs (upd G i ((G i).mv g c)) n
  | 0, i, h => by omega
  | n + 1, i, h => by
    have hl := nvs_len G n
    show (nvs G n ++ (G n).cells).set _ _ = nvs _ n ++ (upd G i _ n).cells
    by_cases hi : i < n
    · rw [List.set_append_left _ _ (by omega), nvs_set G g c n i hi, upd_other _ _ (by omega)]
    · obtain rfl : i = n := by omega
      rw [List.set_append_right _ _ (by omega), hl, Nat.add_sub_cancel_left, upd_same, nvs_same _ (fun j hj => upd_other G _ (by omega))]
      rfl
/-- Trees to be put below: where they lie. -/
structure Kd where
  a : Option Addr
  n : Nat
  c : Nat
  f : Nat → Nd
def ap (F : Nat → Nd) (m : Nat) (f : Nat → Nd) : Nat → Nd := fun j => if j < m then F j else f (j - m)
theorem nvs_ap (F : Nat → Nd) (m : Nat) (f : Nat → Nd) : ∀ k, nvs (ap F m f) (m + k) = nvs F m ++ nvs f k
  | 0 => by
    rw [Nat.add_zero, nvs_same m (g := F) (fun j hj => by unfold ap; rw [if_pos hj])]
    show _ = nvs F m ++ []
    rw [List.append_nil]
  | k + 1 => by
    show nvs (ap F m f) (m + k) ++ (ap F m f (m + k)).cells = nvs F m ++ (nvs f k ++ (f k).cells)
    rw [nvs_ap F m f k, List.append_assoc]
    unfold ap
    rw [if_neg (by omega), Nat.add_sub_cancel_left]
/-- A node, and behind it the first i trees: how many nodes, and which. -/
def nM (k : Nat → Kd) : Nat → Nat
  | 0 => 1
  | i + 1 => nM k i + (k i).n
def nF (d : Nd) (k : Nat → Kd) : Nat → Nat → Nd
  | 0 => fun _ => d
  | i + 1 => ap (nF d k i) (nM k i) (k i).f
theorem nM_le {k : Nat → Kd} : ∀ {i j : Nat}, i ≤ j → nM k i ≤ nM k j
  | i, 0, h => by rw [Nat.le_zero.1 h]; exact Nat.le_refl _
  | i, j + 1, h => by
    rcases Nat.lt_or_ge i (j + 1) with h1 | h1
    · have := nM_le (k := k) (show i ≤ j by omega)
      show nM k i ≤ nM k j + _
      omega
    · rw [show i = j + 1 by omega]; exact Nat.le_refl _
theorem nF_on {d : Nd} {k : Nat → Kd} {w : World} (hd : d.on w) : ∀ i, (∀ q, q < i → Nq w (k q).a (k q).n (k q).f) → ∀ j, j < nM k i → (nF d k i j).on w
  | 0, _, j, _ => hd
  | i + 1, h, j, hj => by
    show (ap (nF d k i) (nM k i) (k i).f j).on w
    unfold ap
    by_cases h1 : j < nM k i
    · rw [if_pos h1]
      exact nF_on hd i (fun q hq => h q (by omega)) j h1
    · rw [if_neg h1]
      have hj : j < nM k i + (k i).n := hj
      exact (h i (by omega)).on _ (by omega)
/-- A node's numbers lie in a row of texts. -/
def Sb (W : World) (d : Nd) : Prop := d.m = 0 ∨ ∃ b off cur fr, d.g = some ⟨b, off, none⟩ ∧ W.heap[b]? = some (Obj.cells cur 9 fr)
theorem Sb.below {W W' : World} {d : Nd} (h : Sb W d) (hb : Below W.heap.size W W') : Sb W' d := by
  rcases h with h | ⟨b, off, cur, fr, h1, h2⟩
  · exact .inl h
  · exact .inr ⟨b, off, cur, fr, h1, (hb.block b (Array.getElem?_eq_some_iff.1 h2).1).trans h2⟩
/-- Where a row of nodes grows, a row of texts stays. -/
theorem Sb.grown {W W' : World} {d : Nd} (h : Sb W d) (hd : d.on W) {base n : Nat} {v : Value} {xs : List Value} (ho : W.ownsRow base 25 5 v n xs) (hg : W.grownBy W' v.ownBlock) : Sb W' d ∧ d.on W' := by
  have key : ∀ (b : Nat) (cur : Array Value) (fr : Nat × Nat), W.heap[b]? = some (Obj.cells cur 9 fr) → W'.heap[b]? = W.heap[b]? := by
    intro b cur fr hb
    refine hg.block b (Array.getElem?_eq_some_iff.1 hb).1 ?_
    intro e
    rcases ho.2 with ⟨rfl, _⟩ | ⟨g, cap, c, rfl, _, h2, _⟩
    · cases e
    · injection e with e
      have e : b = g := e
      subst e
      rw [hb] at h2
      cases h2
  rcases h with h | ⟨b, off, cur, fr, h1, h2⟩
  · refine ⟨.inl h, { hd with st := ⟨hd.st.1, fun hn => by omega⟩ }⟩
  · have hk := key b cur fr h2
    refine ⟨.inr ⟨b, off, cur, fr, h1, hk.trans h2⟩, { hd with st := ⟨hd.st.1, fun hn => ?_⟩ }⟩
    obtain ⟨b', off', e, hc⟩ := hd.st.2 hn
    rw [h1] at e
    injection e with e
    injection e with e1 e2
    subst e1 e2
    exact ⟨b, off, h1, fun j hj => (World.cell?_of_block (a := ⟨b, off + j, none⟩) hk).trans (hc j hj)⟩
/-- What Node tells: a row of the call's own, its nodes the same. -/
def NodeEnd (F : Nat → Nd) (M : Nat) (W : World) (e : Ending) (W' : World) : Prop :=
  ∃ v G, e = .returned v ∧ W'.ownsRow W.heap.size 25 5 v M (nvs G M) ∧ (∀ j, j < M → (G j).on W') ∧ (∀ j, j < M → smN (G j) (F j) = true) ∧ Below W.heap.size W W' ∧ ∀ j, j < M → Sb W' (G j)
theorem smN_self (d : Nd) : smN d d = true := by
  unfold smN
  simp
end Go.Proofs.Ytiopemimancliaa

import Derived.Test.YtafdogcanjcbmaaMai
import Derived.Test.YtafdogcanjcbmaaMaf
import Derived.Test.YtafdogcanjcbmaaMab
/-
  Nodes in memory as plain nodes; that what is read may be.
-/
namespace Go.Proofs.Ytafdogcanjcbmaa
set_option linter.unusedVariables false
set_option linter.unusedSimpArgs false
open Go.RowKit

def tnOf (d : Nd) : Tn := ⟨d.k, d.v.data.toList, d.a.data.toList, d.x.data.toList, d.ns.map (·.data.toList)⟩
def tnF (f : Nat → Nd) (n : Nat) : List Tn := (List.range n).map fun j => tnOf (f j)
theorem tnF_len (f : Nat → Nd) (n : Nat) : (tnF f n).length = n := by simp [tnF]
theorem tnF_at {f : Nat → Nd} {n j : Nat} (h : j < n) : (tnF f n)[j]? = some (tnOf (f j)) := by simp [tnF, h]
theorem texts_inj : ∀ {l m : List ByteArray}, l.map (·.data.toList) = m.map (·.data.toList) → l = m
  | [], [], _ => rfl
  | [], _ :: _, h => by cases h
  | _ :: _, [], h => by cases h
  | a :: l, b :: m, h => by
    injection h with e h
    rw [bytes_ext e, texts_inj h]
theorem smN_tn {d e : Nd} : smN d e = true ↔ tnOf d = tnOf e := by
  rw [smN_yes]
  constructor
  · rintro ⟨h1, h2, h3, h4, h5⟩
    unfold tnOf
    rw [h1, h2, h3, h4, h5]
  · intro h
    injection h with h1 h2 h3 h4 h5
    exact ⟨h1, bytes_ext h2, bytes_ext h3, bytes_ext h4, texts_inj h5⟩
theorem kd_tn (d : Nd) : kd d.k d.v = kdT (tnOf d) := by
  unfold kd kdT tnOf
  rw [str_tl]
theorem ksF_tn (f : Nat → Nd) (n : Nat) : ksF f n = (tnF f n).map kdT := by
  unfold ksF tnF
  rw [List.map_map]
  exact List.map_congr_left fun j _ => kd_tn (f j)
/-- Two rows of nodes are the same as they are plainly. -/
theorem same_tn {f g : Nat → Nd} {n m : Nat} : (decide (n = m) && sameL f g n) = true ↔ tnF f n = tnF g m := by
  rw [Bool.and_eq_true, decide_eq_true_iff, sameL_yes]
  constructor
  · rintro ⟨rfl, h⟩
    exact List.map_congr_left fun j hj => smN_tn.1 (h j (List.mem_range.1 hj))
  · intro h
    have hl := congrArg List.length h
    rw [tnF_len, tnF_len] at hl
    subst hl
    refine ⟨rfl, fun j hj => smN_tn.2 ?_⟩
    have := tnF_at (f := f) hj
    rw [h, tnF_at hj] at this
    have := this.symm
    injection this
theorem same_no {f g : Nat → Nd} {n m : Nat} (h : tnF f n ≠ tnF g m) : (decide (n = m) && sameL f g n) = false := by
  cases hs : (decide (n = m) && sameL f g n) with
  | false => rfl
  | true => exact absurd (same_tn.1 hs) h
/-- How deep a row of nodes is, from what it is plainly. -/
theorem deep_tn {f : Nat → Nd} {n d : Nat} {X : List Tn} (h : tnF f n = X) (hd : Dp X 1 d) : Fd (ksF f n) 0 1 n d := by
  rw [ksF_tn, h]
  have e : n = X.length := by rw [← h, tnF_len]
  rw [e]
  exact hd
/-- A part that Lex tells is a part of its kind. -/
theorem Ps.prt {q : Pk} (h : Ps q) {s : ByteArray} (hs : s.data.toList = q.t) (hl : q.t.length ≤ 256) {k : Int} (hk : q.k = k) : prt s k = true := by
  obtain ⟨k', hk', hr⟩ := h
  have hr2 := lx_run s
  rw [hs] at hr2
  obtain ⟨e1, e2⟩ := hr2.det hr
  have hz : s.size ≤ 256 := by
    have : s.data.toList.length = s.size := Array.length_toList
    rw [hs] at this
    omega
  unfold Go.Proofs.Ytafdogcanjcbmaa.prt
  rw [if_pos hz, e2, e1]
  show (decide ((k' : Int) = k) && ((tx q.t).toList == s.toList)) = true
  rw [str_tl, str_tl, tx_list, hs, ← hk, hk']
  simp
theorem num_may {q : Pk} (h : Ps q) (hk : q.k = 1) : mayL (numT q.t) = true := by
  obtain ⟨c, t, e, hc, h1, h6, hn, _⟩ := h.of
  have hb := hn (by omega)
  unfold numT
  rw [if_pos hb]
  unfold numB at hb
  exact (Bool.and_eq_true _ _ ▸ hb : _ ∧ _).2
theorem not_brace {q : Pk} (h : Ps q) (hk : q.k = 3 ∨ q.k = 4) : q.t ≠ [123] := by
  obtain ⟨c, t, e, hc, _⟩ := h.of
  intro g
  rw [g] at e
  injection e with e _
  rw [← e, show cls 123 = 6 by decide] at hc
  omega
theorem emp_of {s : ByteArray} (h : s.data.toList = []) : emp s = true := by unfold emp; rw [str_tl, h]; rfl
theorem adv_of {s : ByteArray} {l : List UInt8} (h : s.data.toList = [] ∨ ∃ c ∈ l, s.data.toList = [c]) : advB s l = true := by
  unfold advB
  rcases h with h | ⟨c, hc, h⟩
  · rw [h]; rfl
  · rw [h, Bool.or_eq_true]
    exact .inr (List.any_eq_true.2 ⟨c, hc, by simp⟩)
theorem ns_none {d : Nd} (h : d.ns.map (·.data.toList) = []) : d.ns = [] := List.map_eq_nil_iff.1 h
section
variable {P : Pk → Prop} (hP : ∀ q, P q → Ps q ∧ q.t.length ≤ 256)
include hP in
/-- A node that was read may be. -/
theorem okN_of {d : Nd} (h : Nok numT P (tnOf d)) : okN d = true ∧ hdN d.k = false := by
  generalize hn : tnOf d = n at h
  cases h with
  | @lit l h0 h1 h =>
    injection hn with e1 e2 e3 e4 e5
    refine ⟨?_, by rw [e1]; rfl⟩
    have el : d.ns.length = l.length := by rw [← e5, List.length_map]
    unfold okN
    rw [if_pos e1, emp_of e2, emp_of e3, emp_of e4]
    unfold numsB alN
    have ha : (d.ns.all fun s => mayL s.data.toList) = true := List.all_eq_true.2 fun s hs => by
      obtain ⟨q, hq, hk, e⟩ := h s.data.toList (by rw [← e5]; exact List.mem_map.2 ⟨s, hs, rfl⟩)
      rw [e]
      exact num_may (hP q hq).1 hk
    rw [ha, decide_eq_true (show 1 ≤ d.ns.length by omega), decide_eq_true (show d.ns.length ≤ 100 by omega)]
    rfl
  | @name q hq h =>
    injection hn with e1 e2 e3 e4 e5
    refine ⟨?_, by rw [e1]; rfl⟩
    unfold okN
    rw [e1, ns_none e5, emp_of e2, emp_of e3, (hP q hq).1.prt e4 (hP q hq).2 h]
    rfl
  | @one k q a hk hq h ha =>
    injection hn with e1 e2 e3 e4 e5
    have hv : verbB d.v = true := by
      unfold verbB
      rcases h with h | h
      · rw [(hP q hq).1.prt e2 (hP q hq).2 h]; simp
      · rw [(hP q hq).1.prt e2 (hP q hq).2 h]; simp
    have hA : advB d.a (advs k) = true := adv_of (by rw [e3]; exact ha)
    unfold okN
    rcases hk with rfl | rfl
    · refine ⟨?_, by rw [e1]; rfl⟩
      rw [e1, ns_none e5, emp_of e4, hv, show advB d.a [39, 47, 92, 96] = true from hA]
      rfl
    · refine ⟨?_, by rw [e1]; rfl⟩
      rw [e1, ns_none e5, emp_of e4, hv, show advB d.a [39, 46] = true from hA]
      rfl
  | @body k a hk ha =>
    injection hn with e1 e2 e3 e4 e5
    have hv : verbB d.v = true := by
      unfold verbB
      rw [str_tl, e2]
      simp
    have hA : advB d.a (advs k) = true := adv_of (by rw [e3]; exact ha)
    unfold okN
    rcases hk with rfl | rfl
    · refine ⟨?_, by rw [e1]; rfl⟩
      rw [e1, ns_none e5, emp_of e4, hv, show advB d.a [39, 47, 92, 96] = true from hA]
      rfl
    · refine ⟨?_, by rw [e1]; rfl⟩
      rw [e1, ns_none e5, emp_of e4, hv, show advB d.a [39, 46] = true from hA]
      rfl
  | index =>
    injection hn with e1 e2 e3 e4 e5
    refine ⟨?_, by rw [e1]; rfl⟩
    unfold okN
    rw [e1, ns_none e5, emp_of e2, emp_of e3, emp_of e4]
    rfl
include hP in
theorem okN_head {d : Nd} (h : Hok P (tnOf d)) : okN d = true := by
  generalize hn : tnOf d = n at h
  cases h with
  | @assign q hq h =>
    injection hn with e1 e2 e3 e4 e5
    unfold okN
    rw [e1, ns_none e5, emp_of e2, emp_of e3, (hP q hq).1.prt e4 (hP q hq).2 h]
    rfl
  | @amend q hq h =>
    injection hn with e1 e2 e3 e4 e5
    unfold okN
    rw [e1, ns_none e5, emp_of e2, emp_of e3, (hP q hq).1.prt e4 (hP q hq).2 h]
    rfl
  | @define q hq h =>
    injection hn with e1 e2 e3 e4 e5
    unfold okN
    rw [e1, ns_none e5, emp_of e2, emp_of e3, (hP q hq).1.prt e4 (hP q hq).2 h]
    rfl
include hP in
/-- What is read as a line may be, if it isn't too deep. -/
theorem may_of {ts r : List Pk} {X : List Tn} (h : Ln numT ts (some X) r) (hp : ∀ q ∈ ts, P q) {f : Nat → Nd} {n d : Nat} (hf : tnF f n = X) (hd : Dp X 1 d) (h40 : d ≤ 40) : mayP f n := by
  refine ⟨d, deep_tn hf hd, h40, fun i hi => ?_⟩
  obtain ⟨m, Y, rfl, hm, hY⟩ := h.nodes hp (fun q hq => not_brace (hP q (hp q hq)).1)
  have := tnF_at (f := f) hi
  rw [hf] at this
  cases i with
  | zero =>
    injection this with e
    rw [e] at hm
    exact ⟨hm.elim (fun h => (okN_of hP h).1) (okN_head hP), fun h => by omega⟩
  | succ i =>
    rw [List.getElem?_cons_succ] at this
    have g := hY _ (List.mem_of_getElem? this)
    exact ⟨(okN_of hP g).1, fun _ => (okN_of hP g).2⟩
end
end Go.Proofs.Ytafdogcanjcbmaa
/-
  The reference's node: a head, and those below it.
-/
namespace Go.Proofs.Ytafdogcanjcbmaa
set_option linter.unusedVariables false
set_option linter.unusedSimpArgs false
open Go.RowKit

theorem tnF_ap (F : Nat → Nd) (m : Nat) (f : Nat → Nd) (k : Nat) : tnF (ap F m f) (m + k) = tnF F m ++ tnF f k := by
  unfold tnF
  rw [List.range_add, List.map_append, List.map_map]
  congr 1
  · exact List.map_congr_left fun j hj => by have := List.mem_range.1 hj; unfold ap; rw [if_pos this]
  · exact List.map_congr_left fun j _ => by show tnOf (ap F m f (m + j)) = _; unfold ap; rw [if_neg (by omega), Nat.add_sub_cancel_left]
/-- A node, and behind it trees, plainly. -/
theorem tnF_nF (d : Nd) (k : Nat → Kd) : ∀ i, tnF (nF d k i) (nM k i) = tnOf d :: ((List.range i).map fun j => tnF (k j).f (k j).n).flatten
  | 0 => rfl
  | i + 1 => by
    show tnF (ap (nF d k i) (nM k i) (k i).f) (nM k i + (k i).n) = _
    rw [tnF_ap, tnF_nF d k i, List.range_succ, List.map_append, List.flatten_append]
    simp
theorem tnF_same {f g : Nat → Nd} {n : Nat} (h : ∀ j, j < n → smN (f j) (g j) = true) : tnF f n = tnF g n := List.map_congr_left fun j hj => smN_tn.1 (h j (List.mem_range.1 hj))
/-- Nodes, and their numbers, lie in blocks from a base on. -/
def Nb (B : Nat) (a : Option Addr) (n : Nat) (f : Nat → Nd) : Prop := (0 < n → ∀ p, a = some p → B ≤ p.block) ∧ ∀ j, j < n → 0 < (f j).m → ∀ p, (f j).g = some p → B ≤ p.block
/-- A list of nodes in memory, as it is plainly, from a base on. -/
def Nl (B : Nat) (W : World) (a : Option Addr) (n c : Nat) (L : List Tn) : Prop := ∃ f, Nq W a n f ∧ n ≤ c ∧ c ≤ maxLen ∧ tnF f n = L ∧ Nb B a n f
section
variable {B B' : Nat} {W W' : World} {a : Option Addr} {n c : Nat} {L : List Tn}
theorem Nl.below (h : Nl B W a n c L) (hb : Below W.heap.size W W') : Nl B W' a n c L := by
  obtain ⟨f, h1, h2⟩ := h
  exact ⟨f, h1.below hb, h2⟩
theorem Nl.base (h : Nl B W a n c L) (hB : B' ≤ B) : Nl B' W a n c L := by
  obtain ⟨f, h1, h2, h3, h4, h5, h6⟩ := h
  exact ⟨f, h1, h2, h3, h4, fun hn p e => Nat.le_trans hB (h5 hn p e), fun j hj hm p e => Nat.le_trans hB (h6 j hj hm p e)⟩
theorem Nl.len (h : Nl B W a n c L) : L.length = n := by
  obtain ⟨f, _, _, _, e, _⟩ := h
  rw [← e, tnF_len]
/-- What lies ahead of the base may be filled. -/
theorem Nl.set (h : Nl B W a n c L) {p : Addr} (hp : p.block < B) (u : Value) : Nl B (W.setCell p u) a n c L := by
  obtain ⟨f, h1, h2, h3, h4, h5, h6⟩ := h
  have key : ∀ (q : Addr) x, B ≤ q.block → W.cell? q = some x → (W.setCell p u).cell? q = some x := fun q x hq hx => by
    rw [World.cell?_setCell_other _ _ _ _ (by rintro rfl; omega), hx]
  refine ⟨f, ⟨fun hn => ?_, fun j hj => { h1.on j hj with st := ⟨(h1.on j hj).st.1, fun hm => ?_⟩ }⟩, h2, h3, h4, h5, h6⟩
  · obtain ⟨b, off, e, hc⟩ := h1.ld hn
    have hb : B ≤ b := h5 hn _ e
    refine ⟨b, off, e, fun j hj => ?_⟩
    have hL := hc j hj
    exact ⟨key _ _ hb hL.c0, key _ _ hb hL.c1, key _ _ hb hL.c2, key _ _ hb hL.c3, key _ _ hb hL.c4⟩
  · obtain ⟨b, off, e, hc⟩ := (h1.on j hj).st.2 hm
    have hb : B ≤ b := h6 j hj hm _ e
    exact ⟨b, off, e, fun q hq => key _ _ hb (hc q hq)⟩
end
/-- What is in blocks that hold no texts doesn't matter. -/
theorem cell_but {W W' : World} {g b o : Nat} {x : Value} (hk : ∀ b, b ≠ g → W'.heap[b]? = W.heap[b]?) (h : W.cell? ⟨b, o, none⟩ = some x) (hb : b ≠ g) : W'.cell? ⟨b, o, none⟩ = some x := (World.cell?_of_block (a := ⟨b, o, none⟩) (hk b hb)).trans h
theorem Nq.but {W W' : World} {g : Nat} {a : Option Addr} {n : Nat} {f : Nat → Nd} (h : Nq W a n f) (hk : ∀ b, b ≠ g → W'.heap[b]? = W.heap[b]?) (hs : ∀ o s, W.cell? ⟨g, o, none⟩ ≠ some (.string s)) : Nq W' a n f := by
  refine ⟨fun hn => ?_, fun j hj => { h.on j hj with st := ⟨(h.on j hj).st.1, fun hn => ?_⟩ }⟩
  · obtain ⟨b, off, e, hc⟩ := h.ld hn
    refine ⟨b, off, e, fun j hj => ?_⟩
    have hL := hc j hj
    have hb : b ≠ g := fun e => hs _ _ (e ▸ hL.c1)
    exact ⟨cell_but hk hL.c0 hb, cell_but hk hL.c1 hb, cell_but hk hL.c2 hb, cell_but hk hL.c3 hb, cell_but hk hL.c4 hb⟩
  · obtain ⟨b, off, e, hc⟩ := (h.on j hj).st.2 hn
    exact ⟨b, off, e, fun q hq => cell_but hk (hc q hq) fun e => hs _ _ (e ▸ hc q hq)⟩
theorem Nl.but {B : Nat} {W W' : World} {g : Nat} {a : Option Addr} {n c : Nat} {L : List Tn} (h : Nl B W a n c L) (hk : ∀ b, b ≠ g → W'.heap[b]? = W.heap[b]?) (hs : ∀ o s, W.cell? ⟨g, o, none⟩ ≠ some (.string s)) : Nl B W' a n c L := by
  obtain ⟨f, h1, h2⟩ := h
  exact ⟨f, h1.but hk hs, h2⟩
theorem Bk.no {t : TypeId} {W : World} {g : Nat} {cs : List Value} (h : Bk t W g cs) (hc : cs.all (fun u => match u with | .string _ => false | _ => true) = true) : ∀ o s, W.cell? ⟨g, o, none⟩ ≠ some (.string s) := by
  intro o s e
  rw [h.c o] at e
  have := List.all_eq_true.1 hc _ (List.mem_of_getElem? e)
  cases this
theorem Nl.nil (B : Nat) (W : World) : Nl B W none 0 0 [] := ⟨fun _ => ⟨0, ⟨#[]⟩, ⟨#[]⟩, ⟨#[]⟩, none, 0, 0, []⟩, Nq.nil _ _ _, Nat.le_refl _, Nat.zero_le _, rfl, fun h => absurd h (by omega), fun j h => absurd h (by omega)⟩
def NlEnd (B : Nat) (L : List Tn) (W : World) (e : Ending) (W' : World) : Prop := ∃ a n c, e = .returned (.slice a n c) ∧ Nl B W' a n c L ∧ Below W.heap.size W W'
theorem nq_void {W : World} {a : Option Addr} {n : Nat} {f : Nat → Nd} (h : Nq W a n f) (ha : a = none) : n = 0 := by
  rcases Nat.eq_zero_or_pos n with h0 | h0
  · exact h0
  · obtain ⟨_, _, e, _⟩ := h.ld h0
    rw [ha] at e; cases e
set_option maxHeartbeats 3200000 in
theorem rnode_is (B : Nat) (d : Nd) (a1 a2 a3 : Option Addr) (n1 c1 n2 c2 n3 c3 : Nat) (L1 L2 L3 : List Tn) (W : World) (hB : B ≤ W.heap.size) (hdm : d.m = 0) (hd : d.on W) (h1 : Nl B W a1 n1 c1 L1) (h2 : Nl B W a2 n2 c2 L2) (h3 : Nl B W a3 n3 c3 L3) (z1 : n1 ≤ 100000) (z2 : n2 ≤ 100000) (z3 : n3 ≤ 100000) :
    Calls Try.prog 55 #[d.val, .slice a1 n1 c1, .slice a2 n2 c2, .slice a3 n3 c3] W (NlEnd B (tnOf d :: (L1 ++ L2 ++ L3)) W) := by
  obtain ⟨f1, q1, _, _, e1, b1⟩ := h1
  obtain ⟨f2, q2, _, _, e2, b2⟩ := h2
  obtain ⟨f3, q3, _, _, e3, b3⟩ := h3
  have HNB := Lib.hid (⟨b1, b2, b3, hB, hdm⟩ : Nb B a1 n1 f1 ∧ Nb B a2 n2 f2 ∧ Nb B a3 n3 f3 ∧ B ≤ W.heap.size ∧ d.m = 0)
  clear b1 b2 b3 hB hdm
  have HD := Lib.hid hd
  have HQ1 := Lib.hid q1
  have HQ2 := Lib.hid q2
  have HQ3 := Lib.hid q3
  have HE := Lib.hid (⟨e1, e2, e3⟩ : tnF f1 n1 = L1 ∧ tnF f2 n2 = L2 ∧ tnF f3 n3 = L3)
  have hbox := box_below W (.cells #[.int .i64 d.k, .string d.v, .string d.a, .string d.x, .slice d.g d.m d.c] 34)
  have s1 : (W.alloc (.cells #[.int .i64 d.k, .string d.v, .string d.a, .string d.x, .slice d.g d.m d.c] 34)).heap.size = W.heap.size + 1 := by simp
  have hA := (Bk.new 34 W d.cells).alloc (.cells #[] 34)
  have x0 : ((W.alloc (.cells d.cells.toArray 34)).alloc (.cells #[] 34)).cell? ⟨W.heap.size, 0, none⟩ = some (.int .i64 d.k) := hA.c 0
  have x1 : ((W.alloc (.cells d.cells.toArray 34)).alloc (.cells #[] 34)).cell? ⟨W.heap.size, 1, none⟩ = some (.string d.v) := hA.c 1
  have x2 : ((W.alloc (.cells d.cells.toArray 34)).alloc (.cells #[] 34)).cell? ⟨W.heap.size, 2, none⟩ = some (.string d.a) := hA.c 2
  have x3 : ((W.alloc (.cells d.cells.toArray 34)).alloc (.cells #[] 34)).cell? ⟨W.heap.size, 3, none⟩ = some (.string d.x) := hA.c 3
  have x4 : ((W.alloc (.cells d.cells.toArray 34)).alloc (.cells #[] 34)).cell? ⟨W.heap.size, 4, none⟩ = some (.slice d.g d.m d.c) := hA.c 4
  rw [show d.cells.toArray = #[.int .i64 d.k, .string d.v, .string d.a, .string d.x, .slice d.g d.m d.c] from rfl] at x0 x1 x2 x3 x4
  have HON := Lib.hid (fun w (hb : Below W.heap.size W w) => hd.below hb)
  clear hd q1 q2 q3 e1 e2 e3 hA
  show Calls _ _ #[.agg #[.int .i64 d.k, .string d.v, .string d.a, .string d.x, .slice d.g d.m d.c], .slice a1 n1 c1, .slice a2 n2 c2, .slice a3 n3 c3] W _
  obtain ⟨i0, hi0, hz0, hz1, hz2⟩ := info_parts infoN
  go_enter Try.func55, Try.ntmps55
  have hb0 := (hbox.alloc (by omega) (.cells #[] 34))
  have hrow : ((W.alloc (.cells #[.int .i64 d.k, .string d.v, .string d.a, .string d.x, .slice d.g d.m d.c] 34)).alloc (.cells #[] 34)).ownsRow W.heap.size 34 5 (.slice (some ⟨W.heap.size + 1, 0, none⟩) 0 0) 0 [] :=
    ⟨rfl, .inr ⟨W.heap.size + 1, 0, #[], rfl, by omega, by rw [← s1]; exact heap_alloc_new _ _, Nat.le_refl _, Nat.zero_le _, rfl, rfl⟩⟩
  have hs2 : ((W.alloc (.cells #[.int .i64 d.k, .string d.v, .string d.a, .string d.x, .slice d.g d.m d.c] 34)).alloc (.cells #[] 34)).heap.size = W.heap.size + 1 + 1 := by simp
  have HR := Lib.hid hrow
  have HB := Lib.hid hb0
  have HS := Lib.hid hs2
  clear hbox hrow hb0 hs2 s1
  go_wp2_with (at_builtin; refine wpList_append_own _ rfl (.tmp 10) (.tmp 12) 23 rfl W.heap.size 34 i0 (.agg #[.int .i64 0, .string ⟨#[]⟩, .string ⟨#[]⟩, .string ⟨#[]⟩, .slice none 0 0]) 5 80 Try.underlying23 hi0 hz0 hz1 hz2 rfl (by decide) _ _ _ rfl (HR.out.alloc _) ⟨W.heap.size + 1 + 1, 0, none⟩ 1 1 d.cells rfl rfl ?c1 ?c2 ?c3 ?c4 ?c5 ?_)
  case c1 =>
    intro j u hj
    rw [Go.WideShapes.add_plain, Nat.zero_add]
    have h9 := Bk.new' 34 ((W.alloc (.cells #[.int .i64 d.k, .string d.v, .string d.a, .string d.x, .slice d.g d.m d.c] 34)).alloc (.cells #[] 34)) HS.out.symm d.cells
    exact (h9.c j).trans hj
  case c2 =>
    intro u hu
    have hu : u ∈ [Value.int .i64 d.k, .string d.v, .string d.a, .string d.x, .slice d.g d.m d.c] := hu
    simp only [List.mem_cons, List.not_mem_nil, or_false] at hu
    rcases hu with rfl | rfl | rfl | rfl | rfl <;> rfl
  case c3 => unfold maxLen; omega
  case c4 => omega
  case c5 => simp; omega
  intro v1 w1 hown1 hg1 _
  have hb1 : Below W.heap.size W w1 := (HB.out.alloc HB.out.size _).grown hg1 (by simp; omega) (fun q hq => (HR.out.lt q hq).1)
  have q1 := HQ1.out.below hb1
  have ho1 : w1.ownsRow W.heap.size 34 5 v1 1 (nvs (fun _ => d) 1) := hown1
  have hsz1 := hb1.size
  clear hown1 hg1 HR HB HS x0 x1 x2 x3 x4
  go_wp2_with (at_builtin; refine wpList_append_all rfl (.tmp 14) (.tmp 15) 23 rfl W.heap.size 34 i0 (.agg #[.int .i64 0, .string ⟨#[]⟩, .string ⟨#[]⟩, .string ⟨#[]⟩, .slice none 0 0]) 5 80 Try.underlying23 hi0 hz0 hz1 hz2 rfl (by decide) _ _ _ rfl ho1 a1 n1 c1 (nvs f1 n1) rfl (nvs_len _ _) (nq_void q1) q1.cells (nvs_one _ _) ?c1 ?c2 hsz1 ?_)
  case c1 => unfold maxLen; omega
  case c2 => omega
  intro v2 w2 hown2 hg2
  have hb2 : Below W.heap.size W w2 := hb1.grown hg2 hsz1 (fun q hq => (ho1.lt q hq).1)
  have q2 := HQ2.out.below hb2
  rw [← nvs_ap] at hown2
  have hsz2 := hb2.size
  clear ho1 hg2 q1 hb1 hsz1
  go_wp2_with (at_builtin; refine wpList_append_all rfl (.tmp 17) (.tmp 18) 23 rfl W.heap.size 34 i0 (.agg #[.int .i64 0, .string ⟨#[]⟩, .string ⟨#[]⟩, .string ⟨#[]⟩, .slice none 0 0]) 5 80 Try.underlying23 hi0 hz0 hz1 hz2 rfl (by decide) _ _ _ rfl hown2 a2 n2 c2 (nvs f2 n2) rfl (nvs_len _ _) (nq_void q2) q2.cells (nvs_one _ _) ?c1 ?c2 hsz2 ?_)
  case c1 => unfold maxLen; omega
  case c2 => omega
  intro v3 w3 hown3 hg3
  have hb3 : Below W.heap.size W w3 := hb2.grown hg3 hsz2 (fun q hq => (hown2.lt q hq).1)
  have q3 := HQ3.out.below hb3
  rw [← nvs_ap] at hown3
  have hsz3 := hb3.size
  clear hown2 hg3 q2 hb2 hsz2
  go_wp2_with (at_builtin; refine wpList_append_all rfl (.tmp 20) (.tmp 21) 23 rfl W.heap.size 34 i0 (.agg #[.int .i64 0, .string ⟨#[]⟩, .string ⟨#[]⟩, .string ⟨#[]⟩, .slice none 0 0]) 5 80 Try.underlying23 hi0 hz0 hz1 hz2 rfl (by decide) _ _ _ rfl hown3 a3 n3 c3 (nvs f3 n3) rfl (nvs_len _ _) (nq_void q3) q3.cells (nvs_one _ _) ?c1 ?c2 hsz3 ?_)
  case c1 => unfold maxLen; omega
  case c2 => omega
  intro v4 w4 hown4 hg4
  have hb4 : Below W.heap.size W w4 := hb3.grown hg4 hsz3 (fun q hq => (hown3.lt q hq).1)
  rw [← nvs_ap] at hown4
  have hon : ∀ j, j < 1 + n1 + n2 + n3 → (ap (ap (ap (fun _ => d) 1 f1) (1 + n1) f2) (1 + n1 + n2) f3 j).on w4 := by
    intro j hj
    unfold ap
    by_cases j3 : j < 1 + n1 + n2
    · rw [if_pos j3]
      by_cases j2 : j < 1 + n1
      · rw [if_pos j2]
        by_cases j1 : j < 1
        · rw [if_pos j1]; exact HON.out _ hb4
        · rw [if_neg j1]; exact (HQ1.out.below hb4).on _ (by omega)
      · rw [if_neg j2]; exact (HQ2.out.below hb4).on _ (by omega)
    · rw [if_neg j3]; exact (HQ3.out.below hb4).on _ (by omega)
  have hlow := hown4.lt
  obtain ⟨a9, c9, rfl, hc1, hc2, hq9⟩ := own_nq hown4 hon
  have hnb : Nb B a9 (1 + n1 + n2 + n3) (ap (ap (ap (fun _ => d) 1 f1) (1 + n1) f2) (1 + n1 + n2) f3) := by
    obtain ⟨b1, b2, b3, hB, hdm⟩ := HNB.out
    refine ⟨fun _ p e => Nat.le_trans hB (hlow p.block (by rw [e]; rfl)).1, fun j hj => ?_⟩
    unfold ap
    by_cases j3 : j < 1 + n1 + n2
    · rw [if_pos j3]
      by_cases j2 : j < 1 + n1
      · rw [if_pos j2]
        by_cases j1 : j < 1
        · rw [if_pos j1, hdm]; exact fun h => absurd h (by omega)
        · rw [if_neg j1]; exact b1.2 _ (by omega)
      · rw [if_neg j2]; exact b2.2 _ (by omega)
    · rw [if_neg j3]; exact b3.2 _ (by omega)
  clear hlow
  have HFIN := Lib.hid (⟨_, hq9, hc1, hc2, by rw [tnF_ap, tnF_ap, tnF_ap, HE.out.1, HE.out.2.1, HE.out.2.2]; show (tnOf d :: []) ++ L1 ++ L2 ++ L3 = _; simp, hnb⟩ : Nl B w4 a9 (1 + n1 + n2 + n3) c9 (tnOf d :: (L1 ++ L2 ++ L3)))
  clear hown3 hown4 hg4 q3 hb3 hsz3 hon hq9
  go_wp2_with fail
  go_ret
  exact ⟨_, _, _, rfl, HFIN.out, hb4⟩
end Go.Proofs.Ytafdogcanjcbmaa
/-
  The parser in memory: its box, its stack, the trees that are there.
-/
namespace Go.Proofs.Ytafdogcanjcbmaa
set_option linter.unusedVariables false
set_option linter.unusedSimpArgs false
open Go.RowKit

/-- All blocks that there were are as they were, but for these. -/
structure Ex (S : List Nat) (W W' : World) : Prop where
  os : W'.os = W.os
  tape : W'.tape = W.tape
  output : W'.output = W.output
  size : W.heap.size ≤ W'.heap.size
  block : ∀ k, k < W.heap.size → k ∉ S → W'.heap[k]? = W.heap[k]?
section
variable {S S' : List Nat} {W w W' : World}
theorem Ex.refl (S : List Nat) (W : World) : Ex S W W := ⟨rfl, rfl, rfl, Nat.le_refl _, fun _ _ _ => rfl⟩
theorem Ex.trans (h : Ex S W w) (h2 : Ex S w W') : Ex S W W' := ⟨h2.os.trans h.os, h2.tape.trans h.tape, h2.output.trans h.output, Nat.le_trans h.size h2.size, fun k hk hs => (h2.block k (Nat.lt_of_lt_of_le hk h.size) hs).trans (h.block k hk hs)⟩
theorem Ex.mono (h : Ex S W W') (hs : ∀ k ∈ S, k ∈ S') : Ex S' W W' := { h with block := fun k hk hn => h.block k hk fun hm => hn (hs k hm) }
theorem Ex.of (S : List Nat) (h : Below W.heap.size W W') : Ex S W W' := ⟨h.os, h.tape, h.output, h.size, fun k hk _ => h.block k hk⟩
theorem Ex.below (h : Ex S W W') {B : Nat} (hB : B ≤ W.heap.size) (hs : ∀ k ∈ S, B ≤ k) : Below B W W' := ⟨h.os, h.tape, h.output, h.size, fun k hk => h.block k (by omega) fun hm => by have := hs k hm; omega⟩
theorem Ex.alloc (h : Ex S W W') (o : Obj) : Ex S W (W'.alloc o) := h.trans (.of _ ((Below.refl _ _).alloc (Nat.le_refl _) o))
theorem Ex.drew (h : Ex S W W') : Ex S W W'.drew := ⟨h.os, h.tape, h.output, h.size, h.block⟩
theorem Ex.drewN (h : Ex S W W') (n : Nat) : Ex S W (W'.drewN n) := ⟨h.os, h.tape, h.output, h.size, h.block⟩
theorem Ex.setCell (h : Ex S W W') {p : Addr} (hp : p.block ∈ S ∨ W.heap.size ≤ p.block) (u : Value) : Ex S W (W'.setCell p u) :=
  ⟨h.os, h.tape, h.output, by have := h.size; simpa [World.setCell] using this, fun k hk hs => (Below.heap_setCell _ _ _ _ (by rintro rfl; rcases hp with hp | hp; exact hs hp; omega)).trans (h.block k hk hs)⟩
theorem Ex.grown (h : Ex S W w) {row : Option Nat} (hg : w.grownBy W' row) (hr : ∀ k, row = some k → k ∈ S ∨ W.heap.size ≤ k) : Ex S W W' :=
  ⟨hg.os.trans h.os, hg.tape.trans h.tape, hg.output.trans h.output, Nat.le_trans h.size hg.size, fun k hk hs => (hg.block k (Nat.lt_of_lt_of_le hk h.size) fun e => by rcases hr k e.symm with h1 | h1; exact hs h1; omega).trans (h.block k hk hs)⟩
theorem Bk.ex {t : TypeId} {g : Nat} {cs : List Value} (h : Bk t W g cs) (hx : Ex S W W') (hg : g ∉ S) : Bk t W' g cs := (hx.block g h.lt hg).trans h
theorem own_ex {base e s n : Nat} {v : Value} {xs : List Value} (h : W.ownsRow base e s v n xs) (hx : Ex S W W') (hk : ∀ k, v.ownBlock = some k → k ∉ S) : W'.ownsRow base e s v n xs := by
  refine ⟨h.1, ?_⟩
  rcases h.2 with h1 | ⟨g, cap, cur, rfl, h1, h2, h3⟩
  · exact .inl h1
  · exact .inr ⟨g, cap, cur, rfl, h1, (hx.block g (Array.getElem?_eq_some_iff.1 h2).1 (hk g rfl)).trans h2, h3⟩
/-- These blocks hold no nodes, no texts, no parts. -/
def Off (S : List Nat) (W : World) : Prop := ∀ s ∈ S, ∀ cur fr t, W.heap[s]? = some (.cells cur t fr) → t ≠ 34 ∧ t ≠ 9 ∧ t ≠ 58
theorem Off.none (W : World) : Off [] W := fun s h => by cases h
theorem Off.app (h : Off S W) (h2 : Off S' W) : Off (S ++ S') W := fun s hs => (List.mem_append.1 hs).elim (h s) (h2 s)
theorem Off.one {g : Nat} {cs : Array Value} {t : TypeId} {fr : Nat × Nat} (h : W.heap[g]? = some (.cells cs t fr)) (h1 : t ≠ 34) (h2 : t ≠ 9) (h3 : t ≠ 58) : Off [g] W := by
  intro s hs cur fr' t' e
  rcases List.mem_singleton.1 hs with rfl
  rw [h] at e
  cases e
  exact ⟨h1, h2, h3⟩
theorem Off.row {base e s n : Nat} {v : Value} {xs : List Value} (h : W.ownsRow base e s v n xs) (h1 : e ≠ 34) (h2 : e ≠ 9) (h3 : e ≠ 58) : Off v.ownBlock.toList W := by
  rcases h.2 with ⟨rfl, _⟩ | ⟨g, cap, cur, rfl, _, hg, _⟩
  · exact Off.none W
  · exact Off.one hg h1 h2 h3
end
/-- A tree that is there: from a base on, its nodes in a row of nodes, their numbers in rows of texts. -/
structure Nt (B : Nat) (W : World) (k : Kd) (T : List Tn) : Prop where
  nq : Nq W k.a k.n k.f
  nc : k.n ≤ k.c
  cm : k.c ≤ maxLen
  tn : tnF k.f k.n = T
  ty : 0 < k.n → ∃ b off cur fr, k.a = some ⟨b, off, none⟩ ∧ W.heap[b]? = some (Obj.cells cur 34 fr)
  sb : ∀ j, j < k.n → Sb W (k.f j)
theorem Nt.ex {B : Nat} {W W' : World} {S : List Nat} {k : Kd} {T : List Tn} (h : Nt B W k T) (hx : Ex S W W') (ho : Off S W) : Nt B W' k T := by
  have nodes : ∀ b cur fr, W.heap[b]? = some (Obj.cells cur 34 fr) → W'.heap[b]? = W.heap[b]? := fun b cur fr hb => hx.block b (Array.getElem?_eq_some_iff.1 hb).1 fun hm => (ho b hm _ _ _ hb).1 rfl
  have texts : ∀ b cur fr, W.heap[b]? = some (Obj.cells cur 9 fr) → W'.heap[b]? = W.heap[b]? := fun b cur fr hb => hx.block b (Array.getElem?_eq_some_iff.1 hb).1 fun hm => (ho b hm _ _ _ hb).2.1 rfl
  refine ⟨⟨fun hn => ?_, fun j hj => { h.nq.on j hj with st := ⟨(h.nq.on j hj).st.1, fun hm => ?_⟩ }⟩, h.nc, h.cm, h.tn, fun hn => ?_, fun j hj => ?_⟩
  · obtain ⟨b, off, e, hc⟩ := h.nq.ld hn
    obtain ⟨b', off', cur, fr, e', hb⟩ := h.ty hn
    rw [e] at e'
    cases e'
    have hk := nodes b cur fr hb
    refine ⟨b, off, e, fun j hj => ?_⟩
    have g : ∀ o x, W.cell? ⟨b, o, none⟩ = some x → W'.cell? ⟨b, o, none⟩ = some x := fun o x hx => (World.cell?_of_block (a := ⟨b, o, none⟩) hk).trans hx
    have hL := hc j hj
    exact ⟨g _ _ hL.c0, g _ _ hL.c1, g _ _ hL.c2, g _ _ hL.c3, g _ _ hL.c4⟩
  · obtain ⟨b, off, e, hc⟩ := (h.nq.on j hj).st.2 hm
    rcases h.sb j hj with h0 | ⟨b', off', cur, fr, e', hb⟩
    · omega
    · rw [e] at e'
      cases e'
      exact ⟨b, off, e, fun q hq => (World.cell?_of_block (a := ⟨b, off + q, none⟩) (texts b cur fr hb)).trans (hc q hq)⟩
  · obtain ⟨b, off, cur, fr, e, hb⟩ := h.ty hn
    exact ⟨b, off, cur, fr, e, (nodes b cur fr hb).trans hb⟩
  · rcases h.sb j hj with h0 | ⟨b, off, cur, fr, e, hb⟩
    · exact .inl h0
    · exact .inr ⟨b, off, cur, fr, e, (texts b cur fr hb).trans hb⟩
theorem Nt.len {B : Nat} {W : World} {k : Kd} {T : List Tn} (h : Nt B W k T) : T.length = k.n := by rw [← h.tn, tnF_len]
/-- What is begun, in memory: a node, a row of slices of nodes, the mark; the row lies from a place on. -/
structure Mb where
  d : Nd
  ka : Option Addr
  kn : Nat
  kc : Nat
  kd : Nat → Kd
  u : ByteArray
  lo : Nat
def Mb.cells (b : Mb) : List Value := b.d.cells ++ [.slice b.ka b.kn b.kc, .string b.u]
def Mb.val (b : Mb) : Value := .agg #[.int .i64 b.d.k, .string b.d.v, .string b.d.a, .string b.d.x, .slice b.d.g b.d.m b.d.c, .slice b.ka b.kn b.kc, .string b.u]
/-- The cells of a stack, the top first. -/
def obs : List Mb → List Value
  | [] => []
  | b :: l => obs l ++ b.cells
theorem obs_len : ∀ l, (obs l).length = l.length * 7
  | [] => rfl
  | b :: l => by
    show (obs l ++ _).length = _
    rw [List.length_append, obs_len l]
    simp [Mb.cells, Nd.cells]
    omega
def kvs (k : Nat → Kd) : Nat → List Value
  | 0 => []
  | n + 1 => kvs k n ++ [.slice (k n).a (k n).n (k n).c]
theorem kvs_len (k : Nat → Kd) : ∀ n, (kvs k n).length = n
  | 0 => rfl
  | n + 1 => by show (kvs k n ++ _).length = _; rw [List.length_append, kvs_len k n]; rfl
theorem kvs_get (k : Nat → Kd) : ∀ n i, i < n → (kvs k n)[i]? = some (.slice (k i).a (k i).n (k i).c)
  | 0, i, h => by omega
  | n + 1, i, h => by
    show (kvs k n ++ _)[i]? = _
    have hl := kvs_len k n
    by_cases hi : i < n
    · rw [List.getElem?_append_left (by omega)]; exact kvs_get k n i hi
    · obtain rfl : i = n := by omega
      rw [List.getElem?_append_right (by omega), hl, Nat.sub_self]; rfl
theorem kvs_same {k k' : Nat → Kd} : ∀ n, (∀ i, i < n → k i = k' i) → kvs k n = kvs k' n
  | 0, _ => rfl
  | n + 1, h => by
    show kvs k n ++ _ = kvs k' n ++ _
    rw [kvs_same n fun i hi => h i (by omega), h n (by omega)]
/-- What is begun is, in memory, what it is plainly. -/
structure SOk (B : Nat) (W : World) (dp : Bool) (b : Mb) (p : Bg) : Prop where
  node : tnOf b.d = p.n
  dm : b.d.m = 0
  on : b.d.on W
  u : b.u.data.toList = p.u.toList
  kn : b.kn = p.ks.length
  row : W.ownsRow b.lo 23 1 (.slice b.ka b.kn b.kc) b.kn (kvs b.kd b.kn)
  lo : B ≤ b.lo
  nt : dp = false → ∀ i (h : i < p.ks.length), Nt B W (b.kd i) p.ks[i]
theorem on_any {d : Nd} {W W' : World} (h : d.on W) (h0 : d.m = 0) : d.on W' := { h with st := ⟨h.st.1, fun hm => by omega⟩ }
theorem SOk.ex {B : Nat} {W W' : World} {S : List Nat} {dp : Bool} {b : Mb} {p : Bg} (h : SOk B W dp b p) (hx : Ex S W W') (ho : Off S W) (hk : ∀ k, (Value.slice b.ka b.kn b.kc).ownBlock = some k → k ∉ S) : SOk B W' dp b p :=
  ⟨h.node, h.dm, on_any h.on h.dm, h.u, h.kn, own_ex h.row hx hk, h.lo, fun hd i hi => (h.nt hd i hi).ex hx ho⟩
/-- A stack in memory, the top first: each row of slices lies behind all that are below it. -/
def SR (B : Nat) (W : World) (dp : Bool) : List Mb → List Bg → Prop
  | [], [] => True
  | b :: l, p :: K => SOk B W dp b p ∧ (∀ c ∈ l, ∀ k, (Value.slice c.ka c.kn c.kc).ownBlock = some k → k < b.lo) ∧ SR B W dp l K
  | _, _ => False
theorem SR.ex {B : Nat} {W W' : World} {S : List Nat} {dp : Bool} (hx : Ex S W W') (ho : Off S W) : ∀ {l : List Mb} {K : List Bg}, SR B W dp l K → (∀ c ∈ l, ∀ k, (Value.slice c.ka c.kn c.kc).ownBlock = some k → k ∉ S) → SR B W' dp l K
  | [], [], _, _ => trivial
  | b :: l, p :: K, h, hk => ⟨h.1.ex hx ho (hk b List.mem_cons_self), h.2.1, SR.ex hx ho h.2.2 fun c hc => hk c (List.mem_cons_of_mem _ hc)⟩
  | [], _ :: _, h, _ => h.elim
  | _ :: _, [], h, _ => h.elim
theorem SR.len {B : Nat} {W : World} {dp : Bool} : ∀ {l : List Mb} {K : List Bg}, SR B W dp l K → l.length = K.length
  | [], [], _ => rfl
  | _ :: _, _ :: _, h => by rw [List.length_cons, List.length_cons, h.2.2.len]
  | [], _ :: _, h => h.elim
  | _ :: _, [], h => h.elim
theorem SR.lt {B : Nat} {W : World} {dp : Bool} : ∀ {l : List Mb} {K : List Bg}, SR B W dp l K → ∀ c ∈ l, ∀ k, (Value.slice c.ka c.kn c.kc).ownBlock = some k → k < W.heap.size ∧ ∃ cur fr, W.heap[k]? = some (.cells cur 23 fr)
  | [], [], _, c, hc => by cases hc
  | b :: l, p :: K, h, c, hc => by
    rcases List.mem_cons.1 hc with rfl | hc
    · intro k hk
      refine ⟨(h.1.row.lt k hk).2, ?_⟩
      rcases h.1.row.2 with ⟨h1, _⟩ | ⟨g, cap, cur, h1, _, h2, _⟩
      · rw [h1] at hk; cases hk
      · rw [h1] at hk
        cases hk
        exact ⟨_, _, h2⟩
    · exact h.2.2.lt c hc
  | [], _ :: _, h, _, _ => h.elim
  | _ :: _, [], h, _, _ => h.elim
/-- With trees too deep nothing is asked of them any more. -/
theorem SR.deep {B : Nat} {W : World} {dp : Bool} : ∀ {l : List Mb} {K : List Bg}, SR B W dp l K → SR B W true l K
  | [], [], _ => trivial
  | _ :: _, _ :: _, h => ⟨{ h.1 with nt := fun e => by cases e }, h.2.1, h.2.2.deep⟩
  | [], _ :: _, h => h.elim
  | _ :: _, [], h => h.elim
/-- A stack's kids' blocks are none of another type. -/
theorem SR.off {B : Nat} {W : World} {dp : Bool} {l : List Mb} {K : List Bg} (h : SR B W dp l K) {g : Nat} {cur : Array Value} {t : TypeId} {fr : Nat × Nat} (hg : W.heap[g]? = some (.cells cur t fr)) (ht : t ≠ 23) : ∀ c ∈ l, ∀ k, (Value.slice c.ka c.kn c.kc).ownBlock = some k → k ≠ g := by
  intro c hc k hk e
  obtain ⟨_, cur', fr', hb⟩ := h.lt c hc k hk
  rw [e, hg] at hb
  cases hb
  exact ht rfl
end Go.Proofs.Ytafdogcanjcbmaa
/-
  What is read has no more nodes than parts; a rule's answer of the reference, in memory.
-/
namespace Go.Proofs.Ytafdogcanjcbmaa
set_option linter.unusedVariables false
set_option linter.unusedSimpArgs false
open Go.RowKit

/-- How many nodes a rule begins with. -/
def Rl.many : Rl → Nat
  | .aft L | .brk L | .op _ L => L.length
  | .adv _ _ B => B.length + 1
  | _ => 0
theorem Rd'.few {M : List UInt8 → List UInt8} {R : Rl} {ts r : List Pk} {x : Option (List Tn)} (h : Rd' M R ts x r) : ∀ X, x = some X → X.length + r.length ≤ ts.length + R.many := by
  induction h with
  | e_verb h h1 i => exact fun X hx => i X hx
  | e_bad h h1 i => exact fun X hx => by cases hx
  | e_term h h1 h2 i j =>
    intro X hx
    have := i _ rfl
    have := j X hx
    simp only [Rl.many] at *
    omega
  | a_end h => intro X hx; cases hx; simp only [Rl.many]; omega
  | a_op h h1 i => exact fun X hx => i X hx
  | o_bad h1 i => exact fun X hx => by cases hx
  | @o_is k ts r r' L V x h1 h2 i j =>
    intro X hx
    cases x with
    | none => cases hx
    | some Y =>
      cases hx
      have := i _ rfl
      have := j _ rfl
      simp only [Rl.many, List.length_append] at *
      omega
  | v_one h h1 i => intro X hx; have := i X hx; simp only [Rl.many, List.length_cons, List.length_nil] at *; omega
  | v_bad h ht h1 i => exact fun X hx => by cases hx
  | v_body h ht h1 h2 i j => intro X hx; have := i _ rfl; have := j X hx; simp only [Rl.many, List.length_cons] at *; omega
  | d_none h => intro X hx; cases hx; simp only [Rl.many, List.length_cons]; omega
  | d_is h ht hc => intro X hx; cases hx; simp only [Rl.many, List.length_cons]; omega
  | d_bad h ht => exact fun X hx => by cases hx
  | t_bad h1 i => exact fun X hx => by cases hx
  | t_is h1 h2 i j => intro X hx; have := i _ rfl; have := j X hx; simp only [Rl.many] at *; omega
  | b_end h => intro X hx; cases hx; simp only [Rl.many]; omega
  | b_bad h ht h1 i => exact fun X hx => by cases hx
  | b_is h ht h1 h2 i j => intro X hx; have := i _ rfl; have := j X hx; simp only [Rl.many, List.length_cons, List.length_append] at *; omega
  | m_word h => intro X hx; cases hx; simp only [Rl.many, List.length_cons, List.length_nil]; omega
  | m_par h ht h1 i => intro X hx; have := i X hx; simp only [Rl.many, List.length_cons] at *; omega
  | m_bad h2 h6 h1 => exact fun X hx => by cases hx
  | m_many h => exact fun X hx => by cases hx
  | @m_nums ts h h1 =>
    intro X hx
    cases hx
    have := nmL_le ts
    simp only [Rl.many, List.length_cons, List.length_nil, List.length_drop]
    omega
  | c_bad h1 i => exact fun X hx => by cases hx
  | c_not h1 h i => exact fun X hx => by cases hx
  | c_is h1 h ht i => intro X hx; have := i X hx; simp only [Rl.many, List.length_cons] at *; omega
/-- What a rule of the reference tells: the nodes, the place, and whether it read. -/
def GtEnd (x : Option (List Tn)) (i : Nat) (W : World) (e : Ending) (W' : World) : Prop :=
  ∃ a n c L, e = .returned (.agg #[.slice a n c, .int .i64 i, .bool x.isSome]) ∧ Nl W.heap.size W' a n c L ∧ n ≤ 1000 ∧ (∀ X, x = some X → L = X) ∧ Below W.heap.size W W'
theorem suf_drop {ts r : List Pk} {i : Nat} (h : r <:+ ts.drop i) (hi : i ≤ ts.length) : r = ts.drop (ts.length - r.length) ∧ i ≤ ts.length - r.length := by
  have h1 := h.trans (List.drop_suffix i ts)
  have h2 := h.length_le
  rw [List.length_drop] at h2
  exact ⟨List.suffix_iff_eq_drop.1 h1, by omega⟩
/-- A rule's contract. -/
def RuleIs (R : Rl) (f : FuncId) (more : Array Value) (ts : List Tk) (i : Nat) : Prop :=
  ∀ (a : Option Addr) (n c : Nat) (W : World) (x : Option (List Tn)) (r : List Pk), Qs W a n (rtk ts) → n = ts.length → n ≤ 300 → i ≤ n → Rd' numT R ((pks ts).drop i) x r →
    Calls Try.prog f (#[.slice a n c, .int .i64 i] ++ more) W (GtEnd x (n - r.length) W)
/-- The numbers at the front, one by one. -/
theorem nmL_at {ts : List Pk} {k : Nat} (h : k < (nmL ts).length) : ∃ q l, ts.drop k = q :: l ∧ q.k = 1 ∧ (nmL ts)[k]? = some q.t := by
  induction ts generalizing k with
  | nil => simp [nmL] at h
  | cons q r ih =>
    unfold nmL at h ⊢
    split at h
    · rename_i hq
      rw [if_pos hq]
      cases k with
      | zero => exact ⟨q, r, rfl, hq, rfl⟩
      | succ k => exact ih (by simp only [List.length_cons] at h; omega)
    · simp at h
theorem nmL_stop {ts : List Pk} : ¬ isK 1 (ts.drop (nmL ts).length) := by
  induction ts with
  | nil => exact id
  | cons q r ih =>
    unfold nmL
    split
    · exact ih
    · rename_i hq
      exact hq
end Go.Proofs.Ytafdogcanjcbmaa

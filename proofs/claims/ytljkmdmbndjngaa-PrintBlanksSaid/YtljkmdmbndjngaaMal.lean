import Derived.Test.YtljkmdmbndjngaaMak
import Derived.BigRegion
import Derived.BigQuiet
import Derived.Laws.OwnMore
import Derived.Deep.RegionLaw
import Derived.Deep.AppendLies
import Derived.Deep.RegionHeld3
/-
  The reference's atom.
-/
namespace Go.Proofs.Ytljkmdmbndjngaa
set_option linter.unusedVariables false
set_option linter.unusedSimpArgs false
open Go.RowKit

section
variable {t : TypeId} {W W' : World} {g : Nat} {u v x : Value}
theorem Bk.set3 (h : Bk t W g [u, v, x]) (u' v' x' : Value) : Bk t (((W.setCell ⟨g, 0, none⟩ u').setCell ⟨g, 1, none⟩ v').setCell ⟨g, 2, none⟩ x') g [u', v', x'] := ((h.set 0 u').set 1 v').set 2 x'
theorem below3 {B : Nat} (hb : Below B W W') (hg : B ≤ g) (u v x : Value) : Below B W (((W'.setCell ⟨g, 0, none⟩ u).setCell ⟨g, 1, none⟩ v).setCell ⟨g, 2, none⟩ x) := ((hb.setCell hg u).setCell hg v).setCell hg x
end
theorem numT_len (l : List UInt8) : (numT l).length ≤ l.length := by
  unfold numT
  split
  · unfold swapN
    cases l with
    | nil => exact Nat.le_refl _
    | cons c r => simp only; split <;> simp
  · simp
theorem rule_base {f : FuncId} {args : Array Value} {wb w : World} {x : Option (List Tn)} {i : Nat} (hb : Below wb.heap.size wb w) (h : Calls Try.prog f args w (GtEnd x i w)) : Calls Try.prog f args w fun e W' => ∃ a n c L, e = .returned (.agg #[.slice a n c, .int .i64 i, .bool x.isSome]) ∧ Nl w.heap.size W' a n c L ∧ n ≤ 1000 ∧ (∀ X, x = some X → L = X) ∧ Below w.heap.size w W' ∧ Below wb.heap.size wb W' :=
  h.mono fun _ _ ⟨a, n, c, L, h1, h2, h3, h4, h5⟩ => ⟨a, n, c, L, h1, h2, h3, h4, h5, hb.trans (h5.mono hb.size)⟩
/-- A name alone, in memory. -/
def nameN (x : ByteArray) : Nd := ⟨2, ⟨#[]⟩, ⟨#[]⟩, x, none, 0, 0, []⟩
theorem nameN_on (x : ByteArray) (W : World) (h : x.size ≤ maxLen) : (nameN x).on W := ⟨St.nil _ _, Nat.le_refl _, Nat.zero_le _, (by decide : (-9223372036854775808 : Int) ≤ 2), (by decide : (2 : Int) ≤ 9223372036854775807), Nat.zero_le _, Nat.zero_le _, h, fun s hs => by cases hs⟩
/-- One node in a block of its own. -/
theorem nl_one {B : Nat} {W : World} {g : Nat} {d : Nd} (h : Bk 36 W g d.cells) (hd : d.on W) (hB : B ≤ g) (hg : 0 < d.m → ∀ p, d.g = some p → B ≤ p.block) : Nl B W (some ⟨g, 0, none⟩) 1 1 [tnOf d] := by
  refine ⟨fun _ => d, ⟨fun _ => ⟨g, 0, rfl, fun j hj => ?_⟩, fun _ _ => hd⟩, Nat.le_refl _, by unfold maxLen; omega, rfl, fun _ p e => by cases e; exact hB, fun _ _ => hg⟩
  obtain rfl : j = 0 := by omega
  exact ⟨h.c 0, h.c 1, h.c 2, h.c 3, h.c 4⟩
def Few (ts : List Tk) : Prop := ∀ t ∈ ts, t.text.length ≤ 300
theorem below_one {W W' : World} {g : Nat} (hb : Below W.heap.size W W') (hg : W.heap.size ≤ g) (u : Value) (k : Nat) : Below W.heap.size W (W'.setCell ⟨g, k, none⟩ u) := hb.setCell hg u
/-- A box of the reference is filled: what is read elsewhere stays. -/
theorem Nl.fill {B : Nat} {W : World} {a9 : Option Addr} {g n9 c9 : Nat} {L : List Tn} (h : Nl B W a9 n9 c9 L) {a a' : Option Addr} {n n' c c' : Nat} {i i' : Int} {b b' : Bool} {t : TypeId} (hB : Bk t W g [.slice a n c, .int .i64 i, .bool b]) :
    Nl B (((W.setCell ⟨g, 0, none⟩ (.slice a' n' c')).setCell ⟨g, 1, none⟩ (.int .i64 i')).setCell ⟨g, 2, none⟩ (.bool b')) a9 n9 c9 L :=
  h.but (fun k hk => (Below.heap_setCell _ ⟨g, 2, none⟩ _ k hk).trans ((Below.heap_setCell _ ⟨g, 1, none⟩ _ k hk).trans (Below.heap_setCell _ ⟨g, 0, none⟩ _ k hk))) (hB.no rfl)
/-- The first numbers of a list of parts. -/
def numsL (l : List Pk) (k : Nat) : List ByteArray := ((nmL l).take k).map fun t => tx (numT t)
theorem numsL_succ {l : List Pk} {k : Nat} {t : List UInt8} (h : (nmL l)[k]? = some t) : numsL l (k + 1) = numsL l k ++ [tx (numT t)] := by
  unfold numsL
  rw [List.take_add_one, h, List.map_append]; rfl
theorem numsL_len {l : List Pk} {k : Nat} (h : k ≤ (nmL l).length) : (numsL l k).length = k := by unfold numsL; rw [List.length_map, List.length_take]; omega
theorem numsL_size {l : List Pk} {B : Nat} (h : ∀ q ∈ l, q.t.length ≤ B) (k : Nat) : ∀ s ∈ numsL l k, s.size ≤ B := by
  intro s hs
  obtain ⟨t, ht, rfl⟩ := List.mem_map.1 hs
  obtain ⟨q, hq, _, rfl⟩ := nmL_of (P := fun q => q.t.length ≤ B) h t (List.mem_of_mem_take ht)
  have := numT_len q.t
  rw [tx_size]
  omega
theorem numsL_list (l : List Pk) : (numsL l (nmL l).length).map (·.data.toList) = (nmL l).map numT := by
  unfold numsL
  rw [List.take_length, List.map_map]
  exact List.map_congr_left fun t _ => rfl
def litD (g : Option Addr) (k c : Nat) (ns : List ByteArray) : Nd := ⟨1, ⟨#[]⟩, ⟨#[]⟩, ⟨#[]⟩, g, k, c, ns⟩
theorem litD_on {W : World} {g : Option Addr} {k c : Nat} {ns : List ByteArray} (h : St W g k ns) (hc : k ≤ c) (hm : c ≤ maxLen) (hs : ∀ s ∈ ns, s.size ≤ 300) : (litD g k c ns).on W :=
  ⟨h, hc, hm, (by decide : (-9223372036854775808 : Int) ≤ 1), (by decide : (1 : Int) ≤ 9223372036854775807), Nat.zero_le _, Nat.zero_le _, Nat.zero_le _, fun s h => Nat.le_trans (hs s h) (by unfold maxLen; omega)⟩
def AtomEnd (l : List Pk) (i : Nat) (W : World) (e : Ending) (W' : World) : Prop :=
  GtEnd (if (nmL l).length = 0 ∨ 100 < (nmL l).length then none else some [⟨1, [], [], [], (nmL l).map numT⟩]) (if 100 < (nmL l).length then i + 100 else i + (nmL l).length) W e W'
end Go.Proofs.Ytljkmdmbndjngaa
/-
  The parser's small steps: next, isVerb, upTo, last.
-/
namespace Go.Proofs.Ytljkmdmbndjngaa
set_option linter.unusedVariables false
set_option linter.unusedSimpArgs false
open Go.RowKit

/-- The parser's cells. -/
def pcs (pa : Option Addr) (n pc i : Nat) (oa : Option Addr) (on oc : Nat) (ta : Option Addr) (tn tc : Nat) (wh dp : Bool) : List Value := [.slice pa n pc, .int .i64 i, .slice oa on oc, .slice ta tn tc, .bool wh, .bool dp]
section
variable {W : World} {g : Nat} {pa : Option Addr} {n pc i : Nat} {oa : Option Addr} {on oc : Nat} {ta : Option Addr} {tn tc : Nat} {wh dp : Bool}
theorem Pc.c0 (h : Bk 70 W g (pcs pa n pc i oa on oc ta tn tc wh dp)) : W.cell? ⟨g, 0, none⟩ = some (.slice pa n pc) := h.c 0
theorem Pc.c1 (h : Bk 70 W g (pcs pa n pc i oa on oc ta tn tc wh dp)) : W.cell? ⟨g, 1, none⟩ = some (.int .i64 i) := h.c 1
theorem Pc.c2 (h : Bk 70 W g (pcs pa n pc i oa on oc ta tn tc wh dp)) : W.cell? ⟨g, 2, none⟩ = some (.slice oa on oc) := h.c 2
theorem Pc.c3 (h : Bk 70 W g (pcs pa n pc i oa on oc ta tn tc wh dp)) : W.cell? ⟨g, 3, none⟩ = some (.slice ta tn tc) := h.c 3
theorem Pc.c4 (h : Bk 70 W g (pcs pa n pc i oa on oc ta tn tc wh dp)) : W.cell? ⟨g, 4, none⟩ = some (.bool wh) := h.c 4
theorem Pc.c5 (h : Bk 70 W g (pcs pa n pc i oa on oc ta tn tc wh dp)) : W.cell? ⟨g, 5, none⟩ = some (.bool dp) := h.c 5
end
def NxEnd (l : List Pk) (W : World) (e : Ending) (W' : World) : Prop := ∃ p : Int, e = .returned (.agg #[.int .i64 (kd0 l), .string (tx (tx0 l)), .int .i64 p]) ∧ Below W.heap.size W W'
def ptr (g : Nat) : Value := .pointer (some ⟨g, 0, none⟩)
set_option maxRecDepth 10000 in
set_option maxHeartbeats 3200000 in
theorem next_is (ts : List Tk) {W : World} {g : Nat} {pa : Option Addr} {n pc i : Nat} {oa : Option Addr} {on oc : Nat} {ta : Option Addr} {tn tc : Nat} {wh dp : Bool} (h : Bk 70 W g (pcs pa n pc i oa on oc ta tn tc wh dp)) (hq : Qs W pa n (rtk ts)) (hn : n = ts.length) (hm : n ≤ 300) :
    Calls Try.prog 69 #[.pointer (some ⟨g, 0, none⟩)] W (NxEnd ((pks ts).drop i) W) := by
  have hb0 := box_below W (.cells #[.int .i64 0, .string ⟨#[]⟩, .int .i64 0] 66)
  have hT := Bk.new 66 W [.int .i64 0, .string ⟨#[]⟩, .int .i64 0]
  have hP := h.alloc (.cells #[.int .i64 0, .string ⟨#[]⟩, .int .i64 0] 66)
  have c0 := Pc.c0 hP
  have c1 := Pc.c1 hP
  have hgW : g < W.heap.size := h.lt
  have f0 := hT.f 0
  have f1 := hT.f 1
  have f2 := hT.f 2
  have y0 := hT.p0
  have y1 := hT.p1
  have y2 := hT.p2
  by_cases hi : i < n
  · obtain ⟨t, ht⟩ : ∃ t, ts[i]? = some t := ⟨_, List.getElem?_eq_getElem (by omega)⟩
    rw [pks_at ht]
    obtain ⟨b, off, rfl, hc⟩ := hq (by omega)
    obtain ⟨ck, cx, cp⟩ := hc i hi
    rw [rtk_at ht] at ck cx cp
    have hbW : b < W.heap.size := World.block_lt_of_cell? W _ ck
    have dk := (hb0.cell (p := ⟨b, off + i * 3, none⟩) hbW).trans ck
    have dx := (hb0.cell (p := ⟨b, off + i * 3 + 1, none⟩) hbW).trans cx
    have dq := (hb0.cell (p := ⟨b, off + i * 3 + 2, none⟩) hbW).trans cp
    have e2 : (i : Int) < (n : Int) := by omega
    have HB0 := Lib.hid hb0
    have HT := Lib.hid hT
    clear hc ck cx cp hq h hP ht hn hi hT hb0
    show Calls _ _ _ _ (NxEnd (t.pk :: _) W)
    generalize hk9 : (t.kind : Int) = k9 at *
    generalize hx9 : tx t.text = x9 at *
    generalize hp9 : (t.at_ : Int) = p9 at *
    have HE := Lib.hid (⟨hk9, hx9⟩ : (t.kind : Int) = k9 ∧ tx t.text = x9)
    simp only at dk dx dq
    clear hk9 hx9 hp9
    go_enter Try.func69, Try.ntmps69
    go_wp2_with fail
    go_quiet (fail)
    have hT2 := HT.out.drewN nq
    have hb2 := below_drewN HB0.out nq
    obtain ⟨w1, hw1⟩ : ∃ w1, w1 = (W.alloc (.cells #[.int .i64 0, .string ⟨#[]⟩, .int .i64 0] 66)).drewN nq := ⟨_, rfl⟩
    replace c0 : w1.cell? ⟨g, 0, none⟩ = some (.slice (some ⟨b, off, none⟩) n pc) := by rw [hw1]; exact c0
    replace c1 : w1.cell? ⟨g, 1, none⟩ = some (.int .i64 i) := by rw [hw1]; exact c1
    replace dk : w1.cell? ⟨b, off + i * 3, none⟩ = some (.int .i64 k9) := by rw [hw1]; exact dk
    replace dx : w1.cell? ⟨b, off + i * 3 + 1, none⟩ = some (.string x9) := by rw [hw1]; exact dx
    replace dq : w1.cell? ⟨b, off + i * 3 + 2, none⟩ = some (.int .i64 p9) := by rw [hw1]; exact dq
    clear f0 f1 f2 y0 y1 y2
    rw [← hw1] at hT2 hb2 ⊢
    have f0 := hT2.f 0
    have f1 := hT2.f 1
    have f2 := hT2.f 2
    have y0 := hT2.p0
    have y1 := hT2.p1
    have y2 := hT2.p2
    have HT2 := Lib.hid hT2
    have HB2 := Lib.hid hb2
    clear hT2 hb2 hw1 HT HB0
    go_wp2_with fail
    go_region
    have hR := (HT2.out.set3 (.int .i64 k9) (.string x9) (.int .i64 p9)).drew
    have hB := (below3 HB2.out (Nat.le_refl _) (.int .i64 k9) (.string x9) (.int .i64 p9)).drew
    have r0 := hR.p0
    have r1 := hR.p1
    have r2 := hR.p2
    have HB := Lib.hid hB
    clear hR hB f0 f1 f2 y0 y1 y2 c0 c1 dk dx dq
    generalize ((((w1.setCell ⟨W.heap.size, 0, none⟩ (.int .i64 k9)).setCell ⟨W.heap.size, 1, none⟩ (.string x9)).setCell ⟨W.heap.size, 2, none⟩ (.int .i64 p9))).drew = wz at *
    go_wp2_with fail
    exact bodyPost_ret (v := .agg #[.int .i64 k9, .string x9, .int .i64 p9]) (by simp [results, Try.results69, go_sem, r0, r1, r2]) rfl ⟨p9, by rw [← HE.out.1, ← HE.out.2]; rfl, HB.out⟩
  · rw [pks_out (by omega)]
    have e2 : ¬ (i : Int) < (n : Int) := by omega
    have HB0 := Lib.hid hb0
    have HT := Lib.hid hT
    clear hq h hP hi hT hb0 hn
    go_enter Try.func69, Try.ntmps69
    go_wp2_with fail
    go_quiet (fail)
    have hT2 := HT.out.drewN nq
    have hb2 := below_drewN HB0.out nq
    obtain ⟨w1, hw1⟩ : ∃ w1, w1 = (W.alloc (.cells #[.int .i64 0, .string ⟨#[]⟩, .int .i64 0] 66)).drewN nq := ⟨_, rfl⟩
    clear f0 f1 f2 y0 y1 y2 c0 c1
    rw [← hw1] at hT2 hb2 ⊢
    have f0 := hT2.f 0
    have f1 := hT2.f 1
    have f2 := hT2.f 2
    have y0 := hT2.p0
    have y1 := hT2.p1
    have y2 := hT2.p2
    have hR := hT2.set3 (.int .i64 0) (.string ⟨#[]⟩) (.int .i64 0)
    have HB := Lib.hid (below3 hb2 (Nat.le_refl _) (.int .i64 0) (.string ⟨#[]⟩) (.int .i64 0))
    have HR := Lib.hid hR
    clear hT2 hb2 hw1 HT HB0 hR
    go_wp2_with fail
    have r0 := HR.out.p0
    have r1 := HR.out.p1
    have r2 := HR.out.p2
    exact bodyPost_ret (v := .agg #[.int .i64 0, .string ⟨#[]⟩, .int .i64 0]) (by simp [results, Try.results69, go_sem, r0, r1, r2]) rfl ⟨0, rfl, HB.out⟩
theorem pIsVerb_is (k p : Int) (x : ByteArray) (W : World) : Calls Try.prog 72 #[.agg #[.int .i64 k, .string x, .int .i64 p]] W (ValEnd (.bool (decide (k = 4) || decide (k = 3) || decide (x.data.toList = [123]))) W) := by
  have hT := Bk.new 66 W [.int .i64 k, .string x, .int .i64 p]
  have HB := Lib.hid (box_below W (.cells #[.int .i64 k, .string x, .int .i64 p] 66))
  have y0 := hT.p0
  have y1 := hT.p1
  have y2 := hT.p2
  clear hT
  by_cases h4 : k = 4
  · subst h4
    go_enter Try.func72, Try.ntmps72
    go_wp2_with fail
    go_ret
    exact ⟨by simp, HB.out⟩
  have e4 : (k == 4) = false := beq_eq_false_iff_ne.2 h4
  by_cases h3 : k = 3
  · subst h3
    go_enter Try.func72, Try.ntmps72
    go_wp2_with fail
    go_ret
    exact ⟨by simp, HB.out⟩
  have e3 : (k == 3) = false := beq_eq_false_iff_ne.2 h3
  have ex : (x.toList == [123]) = decide (x.data.toList = [123]) := by
    rw [str_tl]
    by_cases h : x.data.toList = [123]
    · rw [h]; simp
    · rw [decide_eq_false h]; exact beq_eq_false_iff_ne.2 h
  have HX := Lib.hid ex
  cases hb : decide (x.data.toList = [123]) with
  | false =>
    rw [hb] at ex
    clear hb
    go_enter Try.func72, Try.ntmps72
    go_wp2_with fail
    go_ret
    exact ⟨by simp [h3, h4], HB.out⟩
  | true =>
    rw [hb] at ex
    clear hb
    go_enter Try.func72, Try.ntmps72
    go_wp2_with fail
    go_ret
    exact ⟨by simp [h3, h4], HB.out⟩
theorem infoBg : (Try.prog.info? 100).map (fun i => (i.zero, i.size, i.bytes)) = some (some (.agg #[.int .i64 0, .string ⟨#[]⟩, .string ⟨#[]⟩, .string ⟨#[]⟩, .slice none 0 0, .slice none 0 0, .string ⟨#[]⟩]), 7, 120) := by kernel_rfl
/-- The stack's row: a slice, its length. -/
theorem obs_at (b : Mb) (l : List Mb) : ∀ i, i < 7 → (obs (b :: l))[l.length * 7 + i]? = b.cells[i]? := by
  intro i hi
  show (obs l ++ b.cells)[l.length * 7 + i]? = _
  have hl := obs_len l
  rw [List.getElem?_append_right (by omega), hl, Nat.add_sub_cancel_left]
theorem obs_take (b : Mb) (l : List Mb) : (obs (b :: l)).take (l.length * 7) = obs l := by
  show (obs l ++ b.cells).take _ = _
  rw [← obs_len l, List.take_append_of_le_length (Nat.le_refl _), List.take_length]
theorem own_cut {w : World} {base e s n k : Nat} {a : Option Addr} {cap : Nat} {xs : List Value} (h : w.ownsRow base e s (.slice a n cap) n xs) (hk : k ≤ n) (ha : a ≠ none) : w.ownsRow base e s (.slice a k cap) k (xs.take (k * s)) := by
  have hl := h.1
  rcases h.2 with ⟨h0, _⟩ | ⟨g', cap', cur, hv, h0, hg, h1, h2, h3, h4⟩
  · cases h0; exact absurd rfl ha
  · injection hv with hv hn hc
    subst hv hc
    refine ⟨by rw [List.length_take, hl]; exact Nat.min_eq_left (Nat.mul_le_mul_right _ hk), .inr ⟨_, _, cur, rfl, h0, hg, by omega, h2, h3, ?_⟩⟩
    rw [← h4, List.take_take, Nat.min_eq_left (Nat.mul_le_mul_right _ hk)]
/-- A stack that is not empty: its block, and the last one's cells. -/
theorem own_top {w : World} {base n : Nat} {a : Option Addr} {cap : Nat} {b : Mb} {l : List Mb} (h : w.ownsRow base 100 7 (.slice a n cap) n (obs (b :: l))) (hn : n = l.length + 1) :
    ∃ q, a = some ⟨q, 0, none⟩ ∧ base ≤ q ∧ n ≤ cap ∧ cap ≤ maxLen ∧ (∀ i, i < 7 → w.cell? ⟨q, l.length * 7 + i, none⟩ = b.cells[i]?) ∧ (∃ cur, w.heap[q]? = some (.cells cur 100 (0, 0))) ∧ w.ownsRow base 100 7 (.slice a l.length cap) l.length (obs l) := by
  rcases h.2 with ⟨_, h0⟩ | ⟨q, cap', cur, hv, h0, hg, h1, h2, h3, h4⟩
  · omega
  · injection hv with hv hn' hc
    subst hv hc
    have hcut := own_cut h (k := l.length) (by omega) (by simp)
    rw [obs_take] at hcut
    exact ⟨q, rfl, h0, h1, h2, fun i hi => by rw [h.cellAt _ (by omega), obs_at b l i hi], ⟨cur, hg⟩, hcut⟩
def topU : List Mb → ByteArray
  | [] => ⟨#[]⟩
  | b :: _ => b.u
set_option maxRecDepth 10000 in
set_option maxHeartbeats 3200000 in
theorem upTo_is {B : Nat} {W : World} {g : Nat} {pa : Option Addr} {n pc i : Nat} {oa : Option Addr} {on oc : Nat} {ta : Option Addr} {tn tc : Nat} {wh dp : Bool} {ms : List Mb} (h : Bk 70 W g (pcs pa n pc i oa on oc ta tn tc wh dp)) (hr : W.ownsRow B 100 7 (.slice oa on oc) on (obs ms)) (hn : on = ms.length) (hm : on ≤ 1000) :
    Calls Try.prog 75 #[.pointer (some ⟨g, 0, none⟩)] W (ValEnd (.string (topU ms)) W) := by
  have c2 := Pc.c2 h
  cases ms with
  | nil =>
    obtain rfl : on = 0 := hn
    clear h hr
    go_enter Try.func75, Try.ntmps75
    go_wp2_with fail
    go_ret
    exact ⟨rfl, Below.refl _ _⟩
  | cons b l =>
    obtain ⟨q, rfl, _, _, _, hc, _, _⟩ := own_top hr hn
    obtain ⟨m, hm9⟩ : ∃ m, m = l.length := ⟨_, rfl⟩
    rw [← hm9] at hc
    obtain rfl : on = m + 1 := by rw [hm9]; exact hn
    have cu : W.cell? ⟨q, m * 7 + 6, none⟩ = some (.string b.u) := hc 6 (by omega)
    have w1 : IntKind.i64.wrap ((m : Int) + 1 - 1) = (m : Int) := by rw [Int.add_sub_cancel]; exact wrn (by omega) (by omega)
    have w2 : IntKind.i64.wrap (m : Int) = (m : Int) := wrn (by omega) (by omega)
    have w3 : IntKind.i64.wrap ((m : Int) + 1) = (m : Int) + 1 := wrn (by omega) (by omega)
    have e1 : (((m : Int) + 1) == 0) = false := beq_eq_false_iff_ne.2 (by omega)
    clear h hr hn hc hm9
    show Calls _ _ _ _ (ValEnd (.string b.u) W)
    go_enter Try.func75, Try.ntmps75
    go_wp2_with fail
    go_quiet (fail)
    go_wp2_with fail
    go_ret
    exact ⟨rfl, below_drewN (Below.refl _ _) _⟩
end Go.Proofs.Ytljkmdmbndjngaa
/-
  The parser's small steps: last, begin.
-/
namespace Go.Proofs.Ytljkmdmbndjngaa
set_option linter.unusedVariables false
set_option linter.unusedSimpArgs false
open Go.RowKit

def zeroB : List Value := [.int .i64 0, .string ⟨#[]⟩, .string ⟨#[]⟩, .string ⟨#[]⟩, .slice none 0 0, .slice none 0 0, .string ⟨#[]⟩]
set_option maxRecDepth 10000 in
set_option maxHeartbeats 6400000 in
theorem last_is {B : Nat} {W : World} {g : Nat} {pa : Option Addr} {n pc i : Nat} {oa : Option Addr} {on oc : Nat} {ta : Option Addr} {tn tc : Nat} {wh dp : Bool} {b : Mb} {l : List Mb} (h : Bk 70 W g (pcs pa n pc i oa on oc ta tn tc wh dp)) (hr : W.ownsRow B 100 7 (.slice oa on oc) on (obs (b :: l))) (hn : on = l.length + 1) (hm : on ≤ 1000) :
    Calls Try.prog 84 #[.pointer (some ⟨g, 0, none⟩)] W fun e W' => e = .returned b.val ∧ Ex [g] W W' ∧ Bk 70 W' g (pcs pa n pc i oa l.length oc ta tn tc wh dp) ∧ W'.ownsRow B 100 7 (.slice oa l.length oc) l.length (obs l) := by
  obtain ⟨q, rfl, hBq, hoc, hocm, hc, ⟨cur, hcur⟩, hcut⟩ := own_top hr hn
  have hqg : q ≠ g := by
    rintro rfl
    rw [show W.heap[q]? = _ from h] at hcur
    cases hcur
  have hgl := h.lt
  have hql : q < W.heap.size := (Array.getElem?_eq_some_iff.1 hcur).1
  obtain ⟨m, hm9⟩ : ∃ m, m = l.length := ⟨_, rfl⟩
  rw [← hm9] at hc hn hcut ⊢
  subst hn
  obtain ⟨⟨dk, dv, da, dx, dg, dm, dc, dn⟩, ka, kn, kc, kd, u, lo⟩ := b
  have w1 : IntKind.i64.wrap ((m : Int) + 1 - 1) = (m : Int) := by rw [Int.add_sub_cancel]; exact wrn (by omega) (by omega)
  have w2 : IntKind.i64.wrap (m : Int) = (m : Int) := wrn (by omega) (by omega)
  have w3 : IntKind.i64.wrap ((m : Int) + 1) = (m : Int) + 1 := wrn (by omega) (by omega)
  have hb0 := box_below W (.cells #[.int .i64 0, .string ⟨#[]⟩, .string ⟨#[]⟩, .string ⟨#[]⟩, .slice none 0 0, .slice none 0 0, .string ⟨#[]⟩] 100)
  have hR := Bk.new 100 W zeroB
  have hP := h.alloc (.cells zeroB.toArray 100)
  have c2 : (W.alloc (.cells zeroB.toArray 100)).cell? ⟨g, 2, none⟩ = _ := Pc.c2 hP
  have g7 : ∀ i x, i < 7 → (Mb.mk ⟨dk, dv, da, dx, dg, dm, dc, dn⟩ ka kn kc kd u lo).cells[i]? = some x → (W.alloc (.cells zeroB.toArray 100)).cell? ⟨q, m * 7 + i, none⟩ = some x := fun i x hi hx => (hb0.cell (p := ⟨q, m * 7 + i, none⟩) hql).trans ((hc i hi).trans hx)
  have k0 := g7 0 _ (by omega) rfl
  have k1 := g7 1 _ (by omega) rfl
  have k2 := g7 2 _ (by omega) rfl
  have k3 := g7 3 _ (by omega) rfl
  have k4 := g7 4 _ (by omega) rfl
  have k5 := g7 5 _ (by omega) rfl
  have k6 := g7 6 _ (by omega) rfl
  rw [Nat.add_zero] at k0
  have hbx := box_below (W.alloc (.cells zeroB.toArray 100)) (.cells zeroB.toArray 100)
  have lt1 : ∀ {p : Addr} {x : Value}, (W.alloc (.cells zeroB.toArray 100)).cell? p = some x → ((W.alloc (.cells zeroB.toArray 100)).alloc (.cells zeroB.toArray 100)).cell? p = some x := fun h => (hbx.cell (World.block_lt_of_cell? _ _ h)).trans h
  have c2' := lt1 c2
  have k0' := lt1 k0
  have k1' := lt1 k1
  have k2' := lt1 k2
  have k3' := lt1 k3
  have k4' := lt1 k4
  have k5' := lt1 k5
  have k6' := lt1 k6
  have HM := Lib.hid hm9
  have HP := Lib.hid h
  have HC := Lib.hid hcut
  clear g7 hc hcur hr hP h hcut hm9 lt1 hbx
  show Calls _ _ _ _ (fun e W' => e = .returned (.agg #[.int .i64 dk, .string dv, .string da, .string dx, .slice dg dm dc, .slice ka kn kc, .string u]) ∧ _)
  rw [show zeroB.toArray = #[.int .i64 0, .string ⟨#[]⟩, .string ⟨#[]⟩, .string ⟨#[]⟩, .slice none 0 0, .slice none 0 0, .string ⟨#[]⟩] from rfl] at c2 k0 k1 k2 k3 k4 k5 k6 c2' k0' k1' k2' k3' k4' k5' k6'
  go_enter Try.func84, Try.ntmps84
  go_wp2_with fail
  go_region
  clear c2 k0 k1 k2 k3 k4 k5 k6 c2' k0' k1' k2' k3' k4' k5' k6'
  have hx1 := (((Ex.refl [g] W).alloc (.cells zeroB.toArray 100)).alloc (.cells [.int .i64 dk, .string dv, .string da, .string dx, .slice dg dm dc, .slice ka kn kc, .string u].toArray 100)).drew
  have s1 : (W.alloc (.cells zeroB.toArray 100)).heap.size = W.heap.size + 1 := by simp
  have hT := (Bk.new' 100 (W.alloc (.cells zeroB.toArray 100)) s1.symm [.int .i64 dk, .string dv, .string da, .string dx, .slice dg dm dc, .slice ka kn kc, .string u]).drew
  have hR1 := (hR.alloc (.cells [.int .i64 dk, .string dv, .string da, .string dx, .slice dg dm dc, .slice ka kn kc, .string u].toArray 100)).drew
  have hP1 := ((HP.out.alloc (.cells zeroB.toArray 100)).alloc (.cells [.int .i64 dk, .string dv, .string da, .string dx, .slice dg dm dc, .slice ka kn kc, .string u].toArray 100)).drew
  have hC1 := (HC.out.alloc (.cells zeroB.toArray 100)).alloc (.cells [.int .i64 dk, .string dv, .string da, .string dx, .slice dg dm dc, .slice ka kn kc, .string u].toArray 100)
  rw [show zeroB.toArray = #[.int .i64 0, .string ⟨#[]⟩, .string ⟨#[]⟩, .string ⟨#[]⟩, .slice none 0 0, .slice none 0 0, .string ⟨#[]⟩] from rfl, show [Value.int .i64 dk, .string dv, .string da, .string dx, .slice dg dm dc, .slice ka kn kc, .string u].toArray = #[.int .i64 dk, .string dv, .string da, .string dx, .slice dg dm dc, .slice ka kn kc, .string u] from rfl] at hx1 hT hR1 hP1 hC1
  obtain ⟨w1, hw1⟩ : ∃ w1, w1 = ((W.alloc (.cells #[.int .i64 0, .string ⟨#[]⟩, .string ⟨#[]⟩, .string ⟨#[]⟩, .slice none 0 0, .slice none 0 0, .string ⟨#[]⟩] 100)).alloc (.cells #[.int .i64 dk, .string dv, .string da, .string dx, .slice dg dm dc, .slice ka kn kc, .string u] 100)).drew := ⟨_, rfl⟩
  have hC2 : w1.ownsRow B 100 7 (.slice (some ⟨q, 0, none⟩) m oc) m (obs l) := by rw [hw1]; exact hC1
  rw [← hw1] at hx1 hT hR1 hP1 ⊢
  clear hw1 hC1 hR hb0 s1
  have HX := Lib.hid hx1
  have HT := Lib.hid hT
  have HR := Lib.hid hR1
  have HP1 := Lib.hid hP1
  have HC2 := Lib.hid hC2
  have c2 := Pc.c2 hP1
  have fp2 := hP1.f 2
  have e3 : (m : Int) ≤ (oc : Int) := by omega
  clear hx1 hT hR1 hP1 hC2
  go_wp2_with fail
  go_region
  have hP2 := ((HP1.out.set 2 (.slice (some ⟨q, 0, none⟩) m oc))).drew
  have hT2 := (HT.out.setOther (p := ⟨g, 2, none⟩) (show W.heap.size + 1 ≠ g by omega) (.slice (some ⟨q, 0, none⟩) m oc)).drew
  have hR2 := (HR.out.setOther (p := ⟨g, 2, none⟩) (show W.heap.size ≠ g by omega) (.slice (some ⟨q, 0, none⟩) m oc)).drew
  have hx2 := (HX.out.setCell (p := ⟨g, 2, none⟩) (.inl List.mem_cons_self) (.slice (some ⟨q, 0, none⟩) m oc)).drew
  have hC3 := own_ex HC2.out (Ex.setCell (Ex.refl [g] w1) (p := ⟨g, 2, none⟩) (.inl List.mem_cons_self) (.slice (some ⟨q, 0, none⟩) m oc)).drew (fun k hk => by
    have hk : some q = some k := hk
    injection hk with hk
    subst hk
    simp [hqg])
  clear c2 fp2
  generalize (w1.setCell ⟨g, 2, none⟩ (.slice (some ⟨q, 0, none⟩) m oc)).drew = w2 at *
  have HX2 := Lib.hid hx2
  have HP2 := Lib.hid hP2
  have HC3 := Lib.hid hC3
  have HR2 := Lib.hid hR2
  have t0 := hT2.p0
  have t1 := hT2.p1
  have t2 := hT2.p2
  have t3 := hT2.p3
  have t4 := hT2.p4
  have t5 := hT2.p5
  have t6 := hT2.p6
  have r0 := hR2.p0
  have r1 := hR2.p1
  have r2 := hR2.p2
  have r3 := hR2.p3
  have r4 := hR2.p4
  have r5 := hR2.p5
  have r6 := hR2.p6
  have f0 := hR2.f 0
  have f1 := hR2.f 1
  have f2 := hR2.f 2
  have f3 := hR2.f 3
  have f4 := hR2.f 4
  have f5 := hR2.f 5
  have f6 := hR2.f 6
  clear hx2 hP2 hC3 hT2 hR2 HX HT HR HP1 HC2
  go_wp2_with fail
  have hR3 := ((((((HR2.out.set 0 (.int .i64 dk)).set 1 (.string dv)).set 2 (.string da)).set 3 (.string dx)).set 4 (.slice dg dm dc)).set 5 (.slice ka kn kc)).set 6 (.string u)
  have hne : g ≠ W.heap.size := by omega
  have hP3 := ((((((HP2.out.setOther (p := ⟨W.heap.size, 0, none⟩) hne (.int .i64 dk)).setOther (p := ⟨W.heap.size, 1, none⟩) hne (.string dv)).setOther (p := ⟨W.heap.size, 2, none⟩) hne (.string da)).setOther (p := ⟨W.heap.size, 3, none⟩) hne (.string dx)).setOther (p := ⟨W.heap.size, 4, none⟩) hne (.slice dg dm dc)).setOther (p := ⟨W.heap.size, 5, none⟩) hne (.slice ka kn kc)).setOther (p := ⟨W.heap.size, 6, none⟩) hne (.string u)
  have hX3 := ((((((HX2.out.setCell (p := ⟨W.heap.size, 0, none⟩) (.inr (Nat.le_refl _)) (.int .i64 dk)).setCell (p := ⟨W.heap.size, 1, none⟩) (.inr (Nat.le_refl _)) (.string dv)).setCell (p := ⟨W.heap.size, 2, none⟩) (.inr (Nat.le_refl _)) (.string da)).setCell (p := ⟨W.heap.size, 3, none⟩) (.inr (Nat.le_refl _)) (.string dx)).setCell (p := ⟨W.heap.size, 4, none⟩) (.inr (Nat.le_refl _)) (.slice dg dm dc)).setCell (p := ⟨W.heap.size, 5, none⟩) (.inr (Nat.le_refl _)) (.slice ka kn kc)).setCell (p := ⟨W.heap.size, 6, none⟩) (.inr (Nat.le_refl _)) (.string u)
  have hmem : ∀ i, (⟨W.heap.size, i, none⟩ : Addr).block ∈ [W.heap.size] := fun _ => List.mem_cons_self
  have hE := ((((((Ex.setCell (Ex.refl [W.heap.size] w2) (p := ⟨W.heap.size, 0, none⟩) (.inl (hmem 0)) (.int .i64 dk)).setCell (p := ⟨W.heap.size, 1, none⟩) (.inl (hmem 1)) (.string dv)).setCell (p := ⟨W.heap.size, 2, none⟩) (.inl (hmem 2)) (.string da)).setCell (p := ⟨W.heap.size, 3, none⟩) (.inl (hmem 3)) (.string dx)).setCell (p := ⟨W.heap.size, 4, none⟩) (.inl (hmem 4)) (.slice dg dm dc)).setCell (p := ⟨W.heap.size, 5, none⟩) (.inl (hmem 5)) (.slice ka kn kc)).setCell (p := ⟨W.heap.size, 6, none⟩) (.inl (hmem 6)) (.string u)
  have hC4 := own_ex HC3.out hE (fun k hk => by
    have hk : some q = some k := hk
    injection hk with hk
    subst hk
    simp only [List.mem_singleton]
    omega)
  have o0 := hR3.p0
  have o1 := hR3.p1
  have o2 := hR3.p2
  have o3 := hR3.p3
  have o4 := hR3.p4
  have o5 := hR3.p5
  have o6 := hR3.p6
  exact bodyPost_ret (v := .agg #[.int .i64 dk, .string dv, .string da, .string dx, .slice dg dm dc, .slice ka kn kc, .string u]) (by simp [results, Try.results84, go_sem, o0, o1, o2, o3, o4, o5, o6]) rfl ⟨rfl, hX3, hP3, hC4⟩
end Go.Proofs.Ytljkmdmbndjngaa
/-
  The parser's small steps: begin.
-/
namespace Go.Proofs.Ytljkmdmbndjngaa
set_option linter.unusedVariables false
set_option linter.unusedSimpArgs false
open Go.RowKit

/-- 'append(l, x)', x in a new block, l the call's own, as one step of a region that draws: any element. -/
theorem step_push_any {ops : Array Oper} {o : Oper} {a : Act} {K : Act → World → Prop} {Q : Exit → Act → World → Prop} {E : Prop} {w : World} (wr : World) (s x : Operand) (t e : TypeId) (z : Value) (size bytes : Nat)
    (hti : (Try.prog.info? e).map (fun i => (i.zero, i.size, i.bytes)) = some (some z, size, bytes)) (htu : Try.prog.underlying t = some (.slice e)) (hzs : z.cells.size = size) (hsz : 0 < size)
    (base : Nat) (av : Option Addr) (n cv : Nat) (xs news : List Value) (hl : news.length = size) (h1c : ∀ u ∈ news, u.oneCell' = true)
    (ho : o.op = .call { callee := .builtin .append, args := #[s, x], argTypes := #[t, t] }) (hgd : o.guard = none)
    (hs : a.eval s = .slice av n cv) (hx : a.eval x = .slice (some ⟨wr.heap.size, 0, none⟩) 1 1) (hh : w.heap = wr.heap.push (.cells news.toArray e)) (h1 : w.os = wr.os) (h2 : w.tape = wr.tape) (h3 : w.output = wr.output)
    (hown : wr.ownsRow base e size (.slice av n cv) n xs) (hbase : base ≤ wr.heap.size) (hn : n ≤ 5000) (hby : bytes ≤ 1000)
    (h : ∀ av' cv' w', w'.ownsRow base e size (.slice av' (n + 1) cv') (n + 1) (xs ++ news) → Ex (Value.slice av n cv).ownBlock.toList wr w' → K (a.put o.dst (.slice av' (n + 1) cv')) w') :
    if Region.wanted o (yielded ops a.tmps) = true then Oper.wp Try.prog o a w K Q else E := by
  obtain ⟨i0, hi, hz0, hz1, hz2⟩ := info_parts hti
  have hown2 : w.ownsRow base e size (.slice av n cv) n xs := by
    have h4 := hown.alloc (.cells news.toArray e)
    unfold World.ownsRow at h4 ⊢
    rw [hh]
    exact h4
  have hb2 : Ex (Value.slice av n cv).ownBlock.toList wr w := by
    have h4 := (Ex.refl (Value.slice av n cv).ownBlock.toList wr).alloc (.cells news.toArray e)
    exact ⟨h1, h2, h3, by rw [hh]; exact h4.size, fun k hk hs => by rw [hh]; exact h4.block k hk hs⟩
  have hbyt : (n + 1) * bytes ≤ 140737488355328 := Nat.le_trans (Nat.mul_le_mul (show n + 1 ≤ 5001 by omega) hby) (by decide)
  refine step_append_lies w hgd s x t ho base e i0 z size bytes htu hi hz0 hz1 hz2 hzs hsz _ _ _ hs hown2 ⟨wr.heap.size, 0, none⟩ 1 1 news hx (by rw [hl, Nat.one_mul]) ?_ h1c (by decide) (by unfold maxLen; omega) hbyt (by rw [hh, Array.size_push]; omega) _ rfl ?_
  · have h5 : w.heap[wr.heap.size]? = some (.cells news.toArray e (0, 0)) := by rw [hh]; simp
    intro j u hj
    rw [Go.WideShapes.add_plain, Nat.zero_add, cell_of_row _ _ j _ _ _ h5]
    simpa using hj
  · intro g cap w' o1 o2 _ _
    exact h _ _ w' o1 (hb2.grown o2 (fun q hq => .inl (by rw [hq]; simp)))
theorem mb_one (b : Mb) : ∀ u ∈ b.cells, u.oneCell' = true := by
  intro u hu
  have hu : u ∈ [Value.int .i64 b.d.k, .string b.d.v, .string b.d.a, .string b.d.x, .slice b.d.g b.d.m b.d.c, .slice b.ka b.kn b.kc, .string b.u] := hu
  simp only [List.mem_cons, List.not_mem_nil, or_false] at hu
  rcases hu with rfl | rfl | rfl | rfl | rfl | rfl | rfl <;> rfl
theorem own_not {W : World} {base e s n g : Nat} {v : Value} {xs : List Value} (h : W.ownsRow base e s v n xs) {cur : Array Value} {t : TypeId} {fr : Nat × Nat} (hg : W.heap[g]? = some (.cells cur t fr)) (ht : t ≠ e) : g ∉ v.ownBlock.toList := by
  intro hm
  rcases h.2 with ⟨rfl, _⟩ | ⟨k, cap, cur', rfl, _, h2, _⟩
  · cases hm
  · have : g = k := by simpa [Value.ownBlock] using hm
    subst this
    rw [hg] at h2
    cases h2
    exact ht rfl
set_option maxRecDepth 10000 in
set_option maxHeartbeats 6400000 in
theorem begin_is {B : Nat} {W : World} {g : Nat} {pa : Option Addr} {n pc i : Nat} {oa : Option Addr} {on oc : Nat} {ta : Option Addr} {tn tc : Nat} {wh dp : Bool} {l : List Mb} (b : Mb) (h : Bk 70 W g (pcs pa n pc i oa on oc ta tn tc wh dp)) (hr : W.ownsRow B 100 7 (.slice oa on oc) on (obs l)) (hB : B ≤ W.heap.size) (hm : on ≤ 1000) :
    Calls Try.prog 68 #[.pointer (some ⟨g, 0, none⟩), b.d.val, .string b.u, .slice b.ka b.kn b.kc] W fun e W' => e = .returned (.tuple #[]) ∧ Ex (g :: (Value.slice oa on oc).ownBlock.toList) W W' ∧ ∃ oa' oc', Bk 70 W' g (pcs pa n pc i oa' (on + 1) oc' ta tn tc wh dp) ∧ W'.ownsRow B 100 7 (.slice oa' (on + 1) oc') (on + 1) (obs (b :: l)) := by
  have HOB := Lib.hid (show obs (b :: l) = obs l ++ b.cells from rfl)
  have H1 := Lib.hid (mb_one b)
  obtain ⟨⟨dk, dv, da, dx, dg, dm, dc, dn⟩, ka, kn, kc, kd, u, lo⟩ := b
  have hgl := h.lt
  have hno := own_not hr h (by decide)
  have hb0 := box_below W (.cells #[.int .i64 dk, .string dv, .string da, .string dx, .slice dg dm dc] 36)
  have hN := Bk.new 36 W [.int .i64 dk, .string dv, .string da, .string dx, .slice dg dm dc]
  have hP := h.alloc (.cells #[.int .i64 dk, .string dv, .string da, .string dx, .slice dg dm dc] 36)
  have hR := own_below5 hr hb0
  have hX := (Ex.refl (g :: (Value.slice oa on oc).ownBlock.toList) W).alloc (.cells #[.int .i64 dk, .string dv, .string da, .string dx, .slice dg dm dc] 36)
  have hsz1 : B ≤ (W.alloc (.cells #[.int .i64 dk, .string dv, .string da, .string dx, .slice dg dm dc] 36)).heap.size := Nat.le_trans hB hb0.size
  have hne : (W.heap.size : Nat) ≠ g := by omega
  have hno2 := own_not hR hN (by decide)
  clear h hr hb0 hB
  show Calls _ _ #[.pointer (some ⟨g, 0, none⟩), .agg #[.int .i64 dk, .string dv, .string da, .string dx, .slice dg dm dc], .string u, .slice ka kn kc] W _
  go_enter Try.func68, Try.ntmps68
  go_wp2_with fail
  rw [show [Value.int .i64 dk, .string dv, .string da, .string dx, .slice dg dm dc].toArray = #[.int .i64 dk, .string dv, .string da, .string dx, .slice dg dm dc] from rfl] at hN
  obtain ⟨w1, hw1⟩ : ∃ w1, w1 = W.alloc (.cells #[.int .i64 dk, .string dv, .string da, .string dx, .slice dg dm dc] 36) := ⟨_, rfl⟩
  rw [← hw1] at hN hP hR hX hsz1 ⊢
  clear hw1
  have c2 := Pc.c2 hP
  have x0 := hN.p0
  have x1 := hN.p1
  have x2 := hN.p2
  have x3 := hN.p3
  have x4 := hN.p4
  have hl1 : W.heap.size < w1.heap.size := hN.lt
  have hg1 : g < w1.heap.size := hP.lt
  have hbx := box_below w1 (.cells #[.int .i64 dk, .string dv, .string da, .string dx, .slice dg dm dc, .slice ka kn kc, .string u] 100)
  have c2' := (hbx.cell (p := ⟨g, 2, none⟩) hg1).trans c2
  have x0' := (hbx.cell (p := ⟨W.heap.size, 0, none⟩) hl1).trans x0
  have x1' := (hbx.cell (p := ⟨W.heap.size, 1, none⟩) hl1).trans x1
  have x2' := (hbx.cell (p := ⟨W.heap.size, 2, none⟩) hl1).trans x2
  have x3' := (hbx.cell (p := ⟨W.heap.size, 3, none⟩) hl1).trans x3
  have x4' := (hbx.cell (p := ⟨W.heap.size, 4, none⟩) hl1).trans x4
  have HR := Lib.hid hR
  have HX := Lib.hid hX
  have HP := Lib.hid hP
  have HN := Lib.hid hN
  have HNO := Lib.hid (⟨hno, hno2⟩ : g ∉ (Value.slice oa on oc).ownBlock.toList ∧ W.heap.size ∉ (Value.slice oa on oc).ownBlock.toList)
  clear hR hX hP hN hno hno2 hbx
  have hn5 : on ≤ 5000 := by omega
  go_region_law (first
      | (refine step_push_any w1 (.tmp 12) (.tmp 17) 68 100 _ 7 120 infoBg Try.underlying68 rfl (by decide) B oa on oc (obs l) [.int .i64 dk, .string dv, .string da, .string dx, .slice dg dm dc, .slice ka kn kc, .string u] rfl H1.out rfl rfl rfl rfl rfl rfl rfl rfl HR.out hsz1 hn5 (by decide) ?_; intro oa' oc' w3 hown3 hex3; have hP3 := HP.out.ex hex3 HNO.out.1; have hN3 := HN.out.ex hex3 HNO.out.2; have y2 := Pc.c2 hP3; have f2 := hP3.f 2)
      | fail)
  all_goals
    clear c2 x0 x1 x2 x3 x4 c2' x0' x1' x2' x3' x4' y2 f2
    have hP4 := hP3.set 2 (.slice oa' (on + 1) oc')
    have hX4 := ((HX.out.trans (hex3.mono (fun k hk => List.mem_cons_of_mem _ hk))).setCell (p := ⟨g, 2, none⟩) (.inl List.mem_cons_self) (.slice oa' (on + 1) oc'))
    have hg3 : w3.heap[g]? = _ := hP3
    have hno3 := own_not hown3 hg3 (by decide)
    have hR4 := own_ex hown3 (Ex.setCell (Ex.refl [g] w3) (p := ⟨g, 2, none⟩) (.inl List.mem_cons_self) (.slice oa' (on + 1) oc')) (fun k hk => by
      intro hm
      rcases List.mem_singleton.1 hm with rfl
      exact hno3 (by rw [hk]; simp))
    have HP4 := Lib.hid hP4
    have HX4 := Lib.hid hX4
    have HR4 := Lib.hid hR4
    clear hP3 hN3 hex3 hown3 hg3 hno3 hP4 hX4 hR4
    go_wp2_with fail
    first | go_end0 | refine bodyPost_end (results_none rfl _ _ _) rfl ?_
    exact ⟨rfl, HX4.out, _, _, HP4.out, by rw [HOB.out]; exact HR4.out⟩
end Go.Proofs.Ytljkmdmbndjngaa
/-
  The parser's grow: a node, and trees below it.
-/
namespace Go.Proofs.Ytljkmdmbndjngaa
set_option linter.unusedVariables false
set_option linter.unusedSimpArgs false
open Go.RowKit

theorem kvs_one (k : Nat → Kd) : ∀ n, ∀ u ∈ kvs k n, u.oneCell' = true
  | 0, u, h => by cases h
  | n + 1, u, h => by
    rcases List.mem_append.1 (show u ∈ kvs k n ++ [.slice (k n).a (k n).n (k n).c] from h) with h | h
    · exact kvs_one k n u h
    · rw [List.mem_singleton] at h
      rw [h]; rfl
/-- A row of slices: where it lies. -/
theorem own_kids {w : World} {base n : Nat} {a : Option Addr} {c : Nat} {k : Nat → Kd} (h : w.ownsRow base 22 1 (.slice a n c) n (kvs k n)) : 0 < n → ∃ b off, a = some ⟨b, off, none⟩ ∧ ∀ i, i < n → w.cell? ⟨b, off + i, none⟩ = some (.slice (k i).a (k i).n (k i).c) := by
  intro hn
  rcases h.2 with ⟨h0, _⟩ | ⟨g, cap, cur, hv, _⟩
  · cases h0; omega
  · cases hv
    exact ⟨g, 0, rfl, fun i hi => by rw [Nat.zero_add, h.cellAt i (by omega)]; exact kvs_get k n i hi⟩
theorem nM_sum {B : Nat} {W : World} {k : Nat → Kd} {Ts : List (List Tn)} (hk : ∀ i (hi : i < Ts.length), Nt B W (k i) Ts[i]) : ∀ m, m ≤ Ts.length → nM k m = 1 + wl (Ts.take m)
  | 0, _ => rfl
  | m + 1, h => by
    show nM k m + (k m).n = _
    rw [nM_sum hk m (by omega), List.take_succ_eq_append_getElem (by omega), wl_app, wl_cons, ← (hk m (by omega)).len]
    show _ = 1 + (_ + (_ + 0))
    omega
theorem tn_flat {B : Nat} {W : World} {k : Nat → Kd} {Ts : List (List Tn)} (hk : ∀ i (hi : i < Ts.length), Nt B W (k i) Ts[i]) : ((List.range Ts.length).map fun j => tnF (k j).f (k j).n) = Ts := by
  apply List.ext_getElem?
  intro j
  rw [List.getElem?_map]
  by_cases hj : j < Ts.length
  · rw [List.getElem?_range hj, List.getElem?_eq_getElem hj, Option.map_some, (hk j hj).tn]
  · rw [List.getElem?_eq_none (by rw [List.length_range]; omega), List.getElem?_eq_none (by omega)]; rfl
theorem nF_ns {B : Nat} {W : World} {k : Nat → Kd} {Ts : List (List Tn)} {d : Nd} (hd : d.m ≤ 100) (hk : ∀ i (hi : i < Ts.length), Nt B W (k i) Ts[i]) (hns : ∀ t ∈ Ts, ∀ x ∈ t, x.ns.length ≤ 100) : ∀ m, m ≤ Ts.length → ∀ j, j < nM k m → (nF d k m j).m ≤ 100
  | 0, _, j, _ => hd
  | m + 1, h, j, hj => by
    show (ap (nF d k m) (nM k m) (k m).f j).m ≤ 100
    unfold ap
    by_cases h1 : j < nM k m
    · rw [if_pos h1]; exact nF_ns hd hk hns m (by omega) j h1
    · rw [if_neg h1]
      have hj : j < nM k m + (k m).n := hj
      have hN := hk m (by omega)
      have hx := hns _ (List.getElem_mem (show m < Ts.length by omega)) (tnOf ((k m).f (j - nM k m))) (by
        rw [← hN.tn]
        exact List.mem_map.2 ⟨j - nM k m, List.mem_range.2 (by omega), rfl⟩)
      have e := (hN.nq.on (j - nM k m) (by omega)).nl
      rw [← e]
      simpa [tnOf] using hx
set_option maxRecDepth 10000 in
set_option maxHeartbeats 6400000 in
theorem grow_is {B lo : Nat} {W : World} {g : Nat} {pa : Option Addr} {n pc i : Nat} {oa : Option Addr} {on oc : Nat} {ta : Option Addr} {tn tc : Nat} {wh : Bool} (d : Nd) (ka : Option Addr) (K kc : Nat) (k : Nat → Kd) (Ts : List (List Tn)) (h : Bk 70 W g (pcs pa n pc i oa on oc ta tn tc wh false))
    (hd : d.on W) (hdm : d.m ≤ 100) (hK : K = Ts.length) (hK3 : K ≤ 10) (hk : ∀ i (hi : i < Ts.length), Nt B W (k i) Ts[i]) (hns : ∀ t ∈ Ts, ∀ x ∈ t, x.ns.length ≤ 100) (hkr : W.ownsRow lo 22 1 (.slice ka K kc) K (kvs k K)) (hw : wl Ts ≤ 1000) {D : Nat} (hX : Dp (tnOf d :: Ts.flatten) 1 D) :
    Calls Try.prog 70 #[.pointer (some ⟨g, 0, none⟩), d.val, .slice ka K kc] W fun e W' => ∃ kk : Kd, e = .returned (.slice kk.a kk.n kk.c) ∧ Nt B W' kk (tnOf d :: Ts.flatten) ∧ Bk 70 W' g (pcs pa n pc i oa on oc ta tn tc wh (decide (40 < D))) ∧ Ex [g] W W' := by
  have hb0 := box_below W (.cells #[.int .i64 d.k, .string d.v, .string d.a, .string d.x, .slice d.g d.m d.c] 36)
  have hN := Bk.new 36 W d.cells
  have hP := h.alloc (.cells #[.int .i64 d.k, .string d.v, .string d.a, .string d.x, .slice d.g d.m d.c] 36)
  have hM := nM_sum hk K (by omega)
  have hM2 : nM k K ≤ 1001 := by
    rw [hM, List.take_of_length_le (by omega)]; omega
  have hKN := Node_is d ka K kc k (W.alloc (.cells #[.int .i64 d.k, .string d.v, .string d.a, .string d.x, .slice d.g d.m d.c] 36)) (hd.below hb0) (fun i hi => (hk i (by omega)).nq.below hb0) (own_kids (own_below5 hkr hb0)) (by omega) (by omega) (fun j hj => by
    have := nF_ns hdm hk hns K (by omega) j hj
    omega)
  have htn : tnF (nF d k K) (nM k K) = tnOf d :: Ts.flatten := by
    rw [tnF_nF, hK, tn_flat hk]
  have hl : (tnOf d :: Ts.flatten).length = nM k K := by rw [← htn, tnF_len]
  have KN := Lib.hid hKN
  have HTN := Lib.hid htn
  have HX := Lib.hid hX
  have HB0 := Lib.hid hb0
  have HP := Lib.hid hP
  have c5 := Pc.c5 hP
  have x0 := hN.p0
  have x1 := hN.p1
  have x2 := hN.p2
  have x3 := hN.p3
  have x4 := hN.p4
  have hgl := h.lt
  clear h hd hdm hK hK3 hk hns hkr hw hM hKN htn hX hb0 hN hP hl
  show Calls _ _ #[.pointer (some ⟨g, 0, none⟩), .agg #[.int .i64 d.k, .string d.v, .string d.a, .string d.x, .slice d.g d.m d.c], .slice ka K kc] W _
  generalize nF d k K = F at *
  generalize nM k K = M at *
  generalize tnOf d :: Ts.flatten = X at *
  go_enter Try.func70, Try.ntmps70
  go_wp2_with fail
  refine KN.out.mono ?_
  rintro e w1 ⟨v, G, rfl, hown, hon, hsm, hb1, hsb⟩
  obtain ⟨a1, c1, rfl, hc1, hc2, hq1⟩ := own_nq hown hon
  have hty : 0 < M → ∃ b off cur fr, a1 = some ⟨b, off, none⟩ ∧ w1.heap[b]? = some (Obj.cells cur 36 fr) := by
    intro hM
    rcases hown.2 with ⟨h0, _⟩ | ⟨g', cap', cur', h1, _, h2, _⟩
    · cases h0; omega
    · cases h1
      exact ⟨g', 0, cur', _, rfl, h2⟩
  have htG : tnF G M = X := by rw [tnF_same hsm]; exact HTN.out
  have hNt : Nt B w1 ⟨a1, M, c1, G⟩ X := ⟨hq1, hc1, hc2, htG, hty, hsb⟩
  have hP1 := HP.out.below hb1 HP.out.lt
  have hbb := HB0.out.trans (hb1.mono HB0.out.size)
  have KD := Lib.hid (Depth_some a1 M c1 G M D w1 hq1 hc1 hc2 (by omega) (deep_tn htG HX.out))
  have HNT := Lib.hid hNt
  have HP1 := Lib.hid hP1
  have HBB := Lib.hid hbb
  clear hown hon hsm hb1 hsb hq1 hty htG hNt hP1 hbb c5 x0 x1 x2 x3 x4 KN HTN HX HB0 HP hc1 hc2
  go_wp2_with fail
  refine KD.out.mono ?_
  rintro e w2 ⟨rfl, hb2⟩
  have hP2 := HP1.out.below hb2 HP1.out.lt
  have f5 := hP2.f 5
  have c5 := Pc.c5 hP2
  have HP2 := Lib.hid hP2
  have HNT2 := Lib.hid (HNT.out.ex (Ex.of [] hb2) (Off.none _))
  have HX2 := Lib.hid ((Ex.of [g] HBB.out).trans (Ex.of [g] (hb2.mono (Nat.le_refl _))))
  clear hb2 hP2 KD
  have key : ∀ b : Bool, b = decide (40 < D) → (Nt B (w2.setCell ⟨g, 5, none⟩ (.bool b)) ⟨a1, M, c1, G⟩ X ∧ Bk 70 (w2.setCell ⟨g, 5, none⟩ (.bool b)) g (pcs pa n pc i oa on oc ta tn tc wh (decide (40 < D))) ∧ Ex [g] W (w2.setCell ⟨g, 5, none⟩ (.bool b))) := by
    rintro b rfl
    exact ⟨HNT2.out.ex (Ex.setCell (Ex.refl [g] w2) (p := ⟨g, 5, none⟩) (.inl List.mem_cons_self) _) (Off.one HP2.out (by decide) (by decide) (by decide)), HP2.out.set 5 _, HX2.out.setCell (p := ⟨g, 5, none⟩) (.inl List.mem_cons_self) _⟩
  have HKEY := Lib.hid key
  clear key
  by_cases h40 : 40 < D
  · have e4 : (40 : Int) < (D : Int) := by omega
    go_wp2_with fail
    go_ret
    exact ⟨⟨a1, M, c1, G⟩, rfl, HKEY.out true (by simp [h40])⟩
  · have e4 : ¬ (40 : Int) < (D : Int) := by omega
    go_wp2_with fail
    go_ret
    exact ⟨⟨a1, M, c1, G⟩, rfl, HKEY.out _ (decide_eq_decide.2 (by omega))⟩
theorem grow_deep {W : World} {g : Nat} {pa : Option Addr} {n pc i : Nat} {oa : Option Addr} {on oc : Nat} {ta : Option Addr} {tn tc : Nat} {wh : Bool} (d : Nd) (ka : Option Addr) (K kc : Nat) (h : Bk 70 W g (pcs pa n pc i oa on oc ta tn tc wh true)) :
    Calls Try.prog 70 #[.pointer (some ⟨g, 0, none⟩), d.val, .slice ka K kc] W (ValEnd (.slice none 0 0) W) := by
  have hb0 := box_below W (.cells #[.int .i64 d.k, .string d.v, .string d.a, .string d.x, .slice d.g d.m d.c] 36)
  have hP := h.alloc (.cells #[.int .i64 d.k, .string d.v, .string d.a, .string d.x, .slice d.g d.m d.c] 36)
  have c5 := Pc.c5 hP
  have hgl := h.lt
  have HB0 := Lib.hid hb0
  clear h hP hb0
  show Calls _ _ #[.pointer (some ⟨g, 0, none⟩), .agg #[.int .i64 d.k, .string d.v, .string d.a, .string d.x, .slice d.g d.m d.c], .slice ka K kc] W _
  go_enter Try.func70, Try.ntmps70
  go_wp2_with fail
  go_ret
  exact ⟨rfl, HB0.out⟩
end Go.Proofs.Ytljkmdmbndjngaa
/-
  The parser's state in memory as a whole: its box, its parts, its stack; what stays.
-/
namespace Go.Proofs.Ytljkmdmbndjngaa
set_option linter.unusedVariables false
set_option linter.unusedSimpArgs false
open Go.RowKit

theorem ps_mark {q : Pk} (h : Ps q) {c : UInt8} (hc : cls c = 6) (ht : q.t = [c]) : q.k = 6 := by
  obtain ⟨c', t, e, hk, _⟩ := h.of
  rw [ht] at e
  injection e with e _
  rw [hk, ← e, hc]; rfl
theorem ps_one {q : Pk} (h : Ps q) (hk : q.k = 5 ∨ q.k = 6) : ∃ c, q.t = [c] := by
  obtain ⟨c, t, e, hk', _, _, _, hm⟩ := h.of
  cases t with
  | nil => exact ⟨c, e⟩
  | cons d t =>
    have h2 : cls c = 5 ∨ cls c = 6 := by rcases hk with hk | hk <;> omega
    have := hm d List.mem_cons_self
    rcases h2 with h2 | h2 <;> rw [h2] at this <;> cases this
theorem ps_ne {q : Pk} (h : Ps q) : q.t ≠ [] := by
  obtain ⟨c, t, e, _⟩ := h.of
  rw [e]; simp
theorem ps_kind {q : Pk} (h : Ps q) : 1 ≤ q.k ∧ q.k ≤ 6 := by
  obtain ⟨c, t, e, hk, h1, h6, _⟩ := h.of
  omega
/-- All parts as Lex tells them. -/
def Pall (ts : List Tk) : Prop := ∀ q ∈ pks ts, Ps q ∧ q.t.length ≤ 256
theorem Pall.at {ts : List Tk} (h : Pall ts) {i : Nat} {q : Pk} {l : List Pk} (e : (pks ts).drop i = q :: l) : Ps q ∧ q.t.length ≤ 256 := h q (List.mem_of_mem_drop (show q ∈ (pks ts).drop i by rw [e]; exact List.mem_cons_self))
theorem drop_next {ts : List Tk} {i : Nat} {q : Pk} {l : List Pk} (e : (pks ts).drop i = q :: l) : (pks ts).drop (i + 1) = l ∧ i < ts.length := by
  refine ⟨by rw [← List.drop_drop, e]; rfl, ?_⟩
  rcases Nat.lt_or_ge i ts.length with h | h
  · exact h
  · rw [pks_out h] at e; cases e
theorem Pall.mk {ts : List Tk} (h : Pall ts) {i : Nat} {c : UInt8} (hc : cls c = 6) : isMk c ((pks ts).drop i) ↔ tx0 ((pks ts).drop i) = [c] := by
  cases e : (pks ts).drop i with
  | nil => exact ⟨fun h => h.elim, fun h => by cases h⟩
  | cons q l => exact ⟨fun h => h.2, fun g => ⟨ps_mark (h.at e).1 hc g, g⟩⟩
theorem Pall.vb {ts : List Tk} (h : Pall ts) {i : Nat} : isVb ((pks ts).drop i) ↔ (kd0 ((pks ts).drop i) = 4 ∨ kd0 ((pks ts).drop i) = 3 ∨ tx0 ((pks ts).drop i) = [123]) := by
  cases e : (pks ts).drop i with
  | nil => exact ⟨fun h => h.elim, fun h => by rcases h with h | h | h <;> cases h⟩
  | cons q l =>
    refine ⟨fun g => ?_, fun g => ?_⟩
    · rcases g with g | g | g
      · exact .inr (.inl g)
      · exact .inl g
      · exact .inr (.inr g.2)
    · rcases g with g | g | g
      · exact .inr (.inl g)
      · exact .inl g
      · exact .inr (.inr ⟨ps_mark (h.at e).1 (by decide) g, g⟩)

/-- The parts' slice, and what its block is. -/
structure Pq (W : World) (a : Option Addr) (ts : List Tk) : Prop where
  qs : Qs W a ts.length (rtk ts)
  ty : 0 < ts.length → ∃ b off cur fr, a = some ⟨b, off, none⟩ ∧ W.heap[b]? = some (Obj.cells cur 66 fr)
theorem Pq.kept {W W' : World} {a : Option Addr} {ts : List Tk} (h : Pq W a ts) (hk : ∀ (b : Nat) (cur : Array Value) (fr : Nat × Nat), W.heap[b]? = some (Obj.cells cur 66 fr) → W'.heap[b]? = W.heap[b]?) : Pq W' a ts := by
  refine ⟨fun hn => ?_, fun hn => ?_⟩
  · obtain ⟨b, off, e, hc⟩ := h.qs hn
    obtain ⟨b', off', cur, fr, e', hb⟩ := h.ty hn
    rw [e] at e'
    cases e'
    have hw := hk b cur fr hb
    exact ⟨b, off, e, fun j hj => ⟨(World.cell?_of_block (a := ⟨b, off + j * 3, none⟩) hw).trans (hc j hj).1, (World.cell?_of_block (a := ⟨b, off + j * 3 + 1, none⟩) hw).trans (hc j hj).2.1, (World.cell?_of_block (a := ⟨b, off + j * 3 + 2, none⟩) hw).trans (hc j hj).2.2⟩⟩
  · obtain ⟨b, off, cur, fr, e, hb⟩ := h.ty hn
    exact ⟨b, off, cur, fr, e, (hk b cur fr hb).trans hb⟩
theorem Pq.ex {W W' : World} {S : List Nat} {a : Option Addr} {ts : List Tk} (h : Pq W a ts) (hx : Ex S W W') (ho : Off S W) : Pq W' a ts := h.kept fun b cur fr hb => hx.block b (Array.getElem?_eq_some_iff.1 hb).1 fun hm => (ho b hm _ _ _ hb).2.2 rfl
/-- What is kept by the parser's own doing: all ahead of a base, and nodes, texts, parts wherever they are. -/
structure Fr (B : Nat) (W W' : World) : Prop where
  below : Below B W W'
  kept : ∀ (b : Nat) (cur : Array Value) (fr : Nat × Nat) (t : TypeId), W.heap[b]? = some (Obj.cells cur t fr) → (t = 36 ∨ t = 9 ∨ t = 66) → W'.heap[b]? = W.heap[b]?
section
variable {B : Nat} {W w W' : World}
theorem Fr.refl (B : Nat) (W : World) : Fr B W W := ⟨Below.refl _ _, fun _ _ _ _ _ _ => rfl⟩
theorem Fr.trans (h : Fr B W w) (h2 : Fr B w W') : Fr B W W' := ⟨h.below.trans h2.below, fun b cur fr t hb ht => (h2.kept b cur fr t ((h.kept b cur fr t hb ht).trans hb) ht).trans (h.kept b cur fr t hb ht)⟩
theorem Fr.of {S : List Nat} (h : Ex S W W') (ho : Off S W) (hB : B ≤ W.heap.size) (hs : ∀ k ∈ S, B ≤ k) : Fr B W W' := by
  refine ⟨h.below hB hs, fun b cur fr t hb ht => h.block b (Array.getElem?_eq_some_iff.1 hb).1 fun hm => ?_⟩
  have := ho b hm cur fr t hb
  rcases ht with h | h | h
  · exact this.1 h
  · exact this.2.1 h
  · exact this.2.2 h
theorem Fr.ofB (h : Below W.heap.size W W') (hB : B ≤ W.heap.size) : Fr B W W' := Fr.of (Ex.of [] h) (Off.none _) hB (fun k hk => by cases hk)
theorem Fr.pq (h : Fr B W W') {a : Option Addr} {ts : List Tk} (hq : Pq W a ts) : Pq W' a ts := hq.kept fun b cur fr hb => h.kept b cur fr _ hb (.inr (.inr rfl))
theorem Fr.tok (h : Fr B W W') {g : Nat} {cs : List Value} (hb : Bk 66 W g cs) : Bk 66 W' g cs := (h.kept g _ _ _ hb (.inr (.inr rfl))).trans hb
theorem Fr.node (h : Fr B W W') {g : Nat} {cs : List Value} (hb : Bk 36 W g cs) : Bk 36 W' g cs := (h.kept g _ _ _ hb (.inl rfl)).trans hb
end
/-- Trees in a row, to be put below. -/
structure KR (B : Nat) (W : World) (dp : Bool) (lo : Nat) (ka : Option Addr) (kn kc : Nat) (kd : Nat → Kd) (ls : List (List Tn)) : Prop where
  kl : kn = ls.length
  row : W.ownsRow lo 22 1 (.slice ka kn kc) kn (kvs kd kn)
  lo : B ≤ lo
  nt : dp = false → ∀ i (h : i < ls.length), Nt B W (kd i) ls[i]
theorem KR.ex {B : Nat} {W W' : World} {S : List Nat} {dp : Bool} {lo : Nat} {ka : Option Addr} {kn kc : Nat} {kd : Nat → Kd} {ls : List (List Tn)} (h : KR B W dp lo ka kn kc kd ls) (hx : Ex S W W') (ho : Off S W) (hk : ∀ k, (Value.slice ka kn kc).ownBlock = some k → k ∉ S) : KR B W' dp lo ka kn kc kd ls :=
  ⟨h.kl, own_ex h.row hx hk, h.lo, fun hd i hi => (h.nt hd i hi).ex hx ho⟩
theorem KR.nil (B : Nat) (W : World) (dp : Bool) (lo : Nat) (hlo : B ≤ lo) (kd : Nat → Kd) : KR B W dp lo none 0 0 kd [] := ⟨rfl, World.ownsRow_nil _ _ _ _, hlo, fun _ i h => absurd h (Nat.not_lt_zero _)⟩
/-- The parser as a whole. -/
structure PM (B : Nat) (ts : List Tk) (W : World) (g : Nat) (pa : Option Addr) (n pc i : Nat) (oa : Option Addr) (on oc : Nat) (ta : Option Addr) (tn tc : Nat) (wh dp : Bool) (ms : List Mb) (K : List Bg) : Prop where
  bk : Bk 70 W g (pcs pa n pc i oa on oc ta tn tc wh dp)
  pq : Pq W pa ts
  hn : n = ts.length
  row : W.ownsRow B 100 7 (.slice oa on oc) on (obs ms)
  hon : on = ms.length
  sr : SR B W dp ms K
  hg : B ≤ g
section
variable {B : Nat} {ts : List Tk} {W W' : World} {g : Nat} {pa : Option Addr} {n pc i : Nat} {oa : Option Addr} {on oc : Nat} {ta : Option Addr} {tn tc : Nat} {wh dp : Bool} {ms : List Mb} {K : List Bg}
theorem PM.size (h : PM B ts W g pa n pc i oa on oc ta tn tc wh dp ms K) : B ≤ W.heap.size := Nat.le_trans h.hg (Nat.le_of_lt h.bk.lt)
theorem PM.len (h : PM B ts W g pa n pc i oa on oc ta tn tc wh dp ms K) : on = K.length := h.hon.trans h.sr.len
theorem PM.offg (h : PM B ts W g pa n pc i oa on oc ta tn tc wh dp ms K) : Off [g] W := Off.one h.bk (by decide) (by decide) (by decide)
theorem PM.offs (h : PM B ts W g pa n pc i oa on oc ta tn tc wh dp ms K) : Off (g :: (Value.slice oa on oc).ownBlock.toList) W := h.offg.app (Off.row h.row (by decide) (by decide) (by decide))
theorem PM.base (h : PM B ts W g pa n pc i oa on oc ta tn tc wh dp ms K) : ∀ k ∈ g :: (Value.slice oa on oc).ownBlock.toList, B ≤ k := by
  intro k hk
  rcases List.mem_cons.1 hk with rfl | hk
  · exact h.hg
  · exact (h.row.lt k (by simpa using hk)).1
/-- The stack's row, where what has changed is elsewhere. -/
theorem PM.ownG (h : PM B ts W g pa n pc i oa on oc ta tn tc wh dp ms K) : ∀ k, (Value.slice oa on oc).ownBlock = some k → k ∉ [g] := by
  intro k hk hm
  rcases List.mem_singleton.1 hm with rfl
  exact own_not h.row h.bk (by decide) (by rw [hk]; simp)
theorem SR.not {l : List Mb} (h : SR B W dp l K) {S : List Nat} (hS : ∀ s ∈ S, ∃ cur t fr, W.heap[s]? = some (.cells cur t fr) ∧ t ≠ 22) : ∀ c ∈ l, ∀ k, (Value.slice c.ka c.kn c.kc).ownBlock = some k → k ∉ S := by
  intro c hc k hk hm
  obtain ⟨cur, t, fr, h1, h2⟩ := hS k hm
  exact h.off h1 h2 c hc k hk rfl
theorem PM.tyS (h : PM B ts W g pa n pc i oa on oc ta tn tc wh dp ms K) : ∀ s ∈ g :: (Value.slice oa on oc).ownBlock.toList, ∃ cur t fr, W.heap[s]? = some (.cells cur t fr) ∧ t ≠ 22 := by
  intro s hs
  rcases List.mem_cons.1 hs with rfl | hs
  · exact ⟨_, _, _, h.bk, by decide⟩
  · have hs : (Value.slice oa on oc).ownBlock = some s := by simpa using hs
    rcases h.row.2 with ⟨h1, _⟩ | ⟨k, cap, cur, h1, _, h2, _⟩
    · rw [h1] at hs; cases hs
    · rw [h1] at hs
      cases hs
      exact ⟨_, _, _, h2, by decide⟩
theorem PM.tyG (h : PM B ts W g pa n pc i oa on oc ta tn tc wh dp ms K) : ∀ s ∈ [g], ∃ cur t fr, W.heap[s]? = some (.cells cur t fr) ∧ t ≠ 22 := by
  intro s hs
  rcases List.mem_singleton.1 hs with rfl
  exact ⟨_, _, _, h.bk, by decide⟩
/-- Only the parser's own box has changed. -/
theorem PM.ex (h : PM B ts W g pa n pc i oa on oc ta tn tc wh dp ms K) (hx : Ex [g] W W') {i' : Nat} {ta' : Option Addr} {tn' tc' : Nat} {wh' : Bool} (hb : Bk 70 W' g (pcs pa n pc i' oa on oc ta' tn' tc' wh' dp)) : PM B ts W' g pa n pc i' oa on oc ta' tn' tc' wh' dp ms K :=
  ⟨hb, h.pq.ex hx h.offg, h.hn, own_ex h.row hx h.ownG, h.hon, h.sr.ex hx h.offg (h.sr.not h.tyG), h.hg⟩
theorem PM.below (h : PM B ts W g pa n pc i oa on oc ta tn tc wh dp ms K) (hb : Below W.heap.size W W') : PM B ts W' g pa n pc i oa on oc ta tn tc wh dp ms K := h.ex (Ex.of [g] hb) (h.bk.on hb)
/-- Too deep from now on, perhaps. -/
theorem PM.deeper {dp' : Bool} (h : PM B ts W g pa n pc i oa on oc ta tn tc wh dp ms K) (hx : Ex [g] W W') {i' : Nat} {ta' : Option Addr} {tn' tc' : Nat} {wh' : Bool} (hb : Bk 70 W' g (pcs pa n pc i' oa on oc ta' tn' tc' wh' dp')) (hd : dp = true → dp' = true) : PM B ts W' g pa n pc i' oa on oc ta' tn' tc' wh' dp' ms K := by
  have h2 := h.sr.ex hx h.offg (h.sr.not h.tyG)
  refine ⟨hb, h.pq.ex hx h.offg, h.hn, own_ex h.row hx h.ownG, h.hon, ?_, h.hg⟩
  cases dp' with
  | true => exact h2.deep
  | false => cases dp with
    | false => exact h2
    | true => exact absurd (hd rfl) (by decide)
/-- Something is begun. -/
theorem PM.push (h : PM B ts W g pa n pc i oa on oc ta tn tc wh dp ms K) (hx : Ex (g :: (Value.slice oa on oc).ownBlock.toList) W W') {b : Mb} {p : Bg} {oa' : Option Addr} {oc' : Nat} (hb : Bk 70 W' g (pcs pa n pc i oa' (on + 1) oc' ta tn tc wh dp)) (hr : W'.ownsRow B 100 7 (.slice oa' (on + 1) oc') (on + 1) (obs (b :: ms)))
    (hk : KR B W dp b.lo b.ka b.kn b.kc b.kd p.ks) (hnode : tnOf b.d = p.n) (hdm : b.d.m = 0) (hon : b.d.on W) (hu : b.u.data.toList = p.u.toList) (hlo : ∀ c ∈ ms, ∀ k, (Value.slice c.ka c.kn c.kc).ownBlock = some k → k < b.lo) (hkS : ∀ k, (Value.slice b.ka b.kn b.kc).ownBlock = some k → k ∉ g :: (Value.slice oa on oc).ownBlock.toList) :
    PM B ts W' g pa n pc i oa' (on + 1) oc' ta tn tc wh dp (b :: ms) (p :: K) := by
  have hk2 := hk.ex hx h.offs hkS
  exact ⟨hb, h.pq.ex hx h.offs, h.hn, hr, by rw [h.hon]; rfl, ⟨⟨hnode, hdm, on_any hon hdm, hu, hk2.kl, hk2.row, hk2.lo, hk2.nt⟩, hlo, h.sr.ex hx h.offs (h.sr.not h.tyS)⟩, h.hg⟩
end
end Go.Proofs.Ytljkmdmbndjngaa

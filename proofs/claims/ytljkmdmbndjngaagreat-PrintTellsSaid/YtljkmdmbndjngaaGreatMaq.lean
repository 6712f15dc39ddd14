import Derived.Test.YtljkmdmbndjngaaGreatMap
import Derived.BigRegion
import Derived.BigQuiet
import Derived.Laws.OwnMore
import Derived.Deep.RegionLaw
import Derived.Deep.AppendLies
import Derived.Deep.RegionHeld3
/-
  The reference's atom.
-/
namespace Go.Proofs.YtljkmdmbndjngaaGreat
set_option linter.unusedVariables false
set_option linter.unusedSimpArgs false
open Go.RowKit

section
variable {t : TypeId} {W W' : World} {g : Nat} {u v x : Value}
theorem Bk.set3 (h : Bk t W g [u, v, x]) (u' v' x' : Value) : Bk t (((W.setCell ⟨g, 0, none⟩ u').setCell ⟨g, 1, none⟩ v').setCell ⟨g, 2, none⟩ x') g [u', v', x'] := ((h.set 0 u').set 1 v').set 2 x'
theorem below3 {B : Nat} (hb : Below B W W') (hg : B ≤ g) (u v x : Value) : Below B W (((W'.setCell ⟨g, 0, none⟩ u).setCell ⟨g, 1, none⟩ v).setCell ⟨g, 2, none⟩ x) := ((hb.setCell hg u).setCell hg v).setCell hg x
end
theorem numT_len (l : List UInt8) : (numT l).length ≤ l.length := by
  unfold numT
  split
  · unfold swapN
    cases l with
    | nil => exact Nat.le_refl _
    | cons c r => simp only; split <;> simp
  · simp
theorem rule_base {f : FuncId} {args : Array Value} {wb w : World} {x : Option (List Tn)} {i : Nat} (hb : Below wb.heap.size wb w) (h : Calls Tryz.prog f args w (GtEnd x i w)) : Calls Tryz.prog f args w fun e W' => ∃ a n c L, e = .returned (.agg #[.slice a n c, .int .i64 i, .bool x.isSome]) ∧ Nl w.heap.size W' a n c L ∧ n ≤ 1000 ∧ (∀ X, x = some X → L = X) ∧ Below w.heap.size w W' ∧ Below wb.heap.size wb W' :=
  h.mono fun _ _ ⟨a, n, c, L, h1, h2, h3, h4, h5⟩ => ⟨a, n, c, L, h1, h2, h3, h4, h5, hb.trans (h5.mono hb.size)⟩
/-- A name alone, in memory. -/
def nameN (x : ByteArray) : Nd := ⟨2, ⟨#[]⟩, ⟨#[]⟩, x, none, 0, 0, []⟩
theorem nameN_on (x : ByteArray) (W : World) (h : x.size ≤ maxLen) : (nameN x).on W := ⟨St.nil _ _, Nat.le_refl _, Nat.zero_le _, (by decide : (-9223372036854775808 : Int) ≤ 2), (by decide : (2 : Int) ≤ 9223372036854775807), Nat.zero_le _, Nat.zero_le _, h, fun s hs => by cases hs⟩
/-- One node in a block of its own. -/
theorem nl_one {B : Nat} {W : World} {g : Nat} {d : Nd} (h : Bk 37 W g d.cells) (hd : d.on W) (hB : B ≤ g) (hg : 0 < d.m → ∀ p, d.g = some p → B ≤ p.block) : Nl B W (some ⟨g, 0, none⟩) 1 1 [tnOf d] := by
  refine ⟨fun _ => d, ⟨fun _ => ⟨g, 0, rfl, fun j hj => ?_⟩, fun _ _ => hd⟩, Nat.le_refl _, by unfold maxLen; omega, rfl, fun _ p e => by cases e; exact hB, fun _ _ => hg⟩
  obtain rfl : j = 0 := by omega
  exact ⟨h.c 0, h.c 1, h.c 2, h.c 3, h.c 4⟩
def Few (ts : List Tk) : Prop := ∀ t ∈ ts, t.text.length ≤ 300
/-- closed, behind a place. -/
def ClosedBehind (ts : List Tk) (i : Nat) : Prop := ∀ (j : Nat) (ch : UInt8) (a : Option Addr) (n c : Nat) (W : World) (x : Option (List Tn)) (r : List Pk), i < j → Qs W a n (rtk ts) → n = ts.length → n ≤ 300 → j ≤ n → Rd' numT (.cl ch) ((pks ts).drop j) x r →
    Calls Tryz.prog 86 #[.slice a n c, .int .i64 j, .string ⟨#[ch]⟩] W (GtEnd x (n - r.length) W)

set_option maxHeartbeats 1600000 in
theorem atom_word (ts : List Tk) (i : Nat) (a : Option Addr) (n c : Nat) (W : World) (h : Qs W a n (rtk ts)) (hn : n = ts.length) (hm : n ≤ 300) (hf : Few ts) {q : Pk} {r : List Pk} (hd : (pks ts).drop i = q :: r) (hq : q.k = 2) (hi : n - r.length = i + 1) :
    Calls Tryz.prog 115 #[.slice a n c, .int .i64 i] W (GtEnd (some [⟨2, [], [], q.t, []⟩]) (i + 1) W) := by
  have hb0 := box_below W (.cells #[.slice none 0 0, .int .i64 0, .bool false] 87)
  have hB := Bk.new 87 W [.slice none 0 0, .int .i64 0, .bool false]
  have K1 := rkind_is ts a n c _ (h.below hb0) hn (by omega) i
  have K2 := rtext_is ts a n c _ (h.below hb0) hn (by omega) i
  rw [hd] at K1 K2
  replace K1 : Calls _ _ _ _ (PureEnd (.int .i64 q.k) _) := K1
  replace K2 : Calls _ _ _ _ (PureEnd (.string (tx q.t)) _) := K2
  rw [hq] at K1
  have hsz : (tx q.t).size ≤ maxLen := by
    have : q ∈ pks ts := List.mem_of_mem_drop (show q ∈ (pks ts).drop i by rw [hd]; exact List.mem_cons_self)
    obtain ⟨t, ht, rfl⟩ := List.mem_map.1 this
    have := hf t ht
    rw [tx_size]; unfold maxLen
    show t.text.length ≤ _
    omega
  obtain ⟨T, hT⟩ : ∃ T, T = tx q.t := ⟨_, rfl⟩
  rw [← hT] at K2 hsz
  have e : q.t = T.data.toList := by rw [hT]; rfl
  rw [e]
  clear hT e hd
  replace K1 := Lib.hid K1
  replace K2 := Lib.hid K2
  have hB2 := hB.alloc (.cells (nameN T).cells.toArray 37)
  have f0 := hB2.f 0
  have f1 := hB2.f 1
  have f2 := hB2.f 2
  have y0 := hB2.p0
  have y1 := hB2.p1
  have y2 := hB2.p2
  rw [show (nameN T).cells.toArray = #[.int .i64 2, .string ⟨#[]⟩, .string ⟨#[]⟩, .string T, .slice none 0 0] from rfl] at f0 f1 f2 y0 y1 y2
  have hi3 : i ≤ 300 := by omega
  have HSZ := Lib.hid hsz
  clear hB hB2 hb0 h hn hi hq hf hsz hm
  go_enter Tryz.func115, Tryz.ntmps115
  go_wp2_with fail
  refine K1.out.mono ?_
  rintro e w1 ⟨rfl, rfl⟩
  go_wp2_with fail
  refine K2.out.mono ?_
  rintro e w1 ⟨rfl, rfl⟩
  go_wp2_with fail
  have hR := (Bk.new 87 W [.slice (some ⟨W.heap.size + 1, 0, none⟩) 1 1, .int .i64 ((i : Int) + 1), .bool true]).alloc (.cells (nameN T).cells.toArray 37)
  have hN := Bk.new' 37 (W.alloc (.cells [Value.slice (some ⟨W.heap.size + 1, 0, none⟩) 1 1, .int .i64 ((i : Int) + 1), .bool true].toArray 87)) (g := W.heap.size + 1) (by simp) (nameN T).cells
  have hbl := (box_below W (.cells [Value.slice (some ⟨W.heap.size + 1, 0, none⟩) 1 1, .int .i64 ((i : Int) + 1), .bool true].toArray 87)).alloc (by simp) (.cells (nameN T).cells.toArray 37)
  have r0 := hR.p0
  have r1 := hR.p1
  have r2 := hR.p2
  have HFIN := nl_one (B := W.heap.size) hN (nameN_on T _ HSZ.out) (by omega) (fun h => absurd h (Nat.lt_irrefl 0))
  rw [show (nameN T).cells.toArray = #[.int .i64 2, .string ⟨#[]⟩, .string ⟨#[]⟩, .string T, .slice none 0 0] from rfl, show [Value.slice (some ⟨W.heap.size + 1, 0, none⟩) 1 1, .int .i64 ((i : Int) + 1), .bool true].toArray = #[.slice (some ⟨W.heap.size + 1, 0, none⟩) 1 1, .int .i64 ((i : Int) + 1), .bool true] from rfl] at r0 r1 r2 HFIN hbl
  exact bodyPost_ret (v := .agg #[.slice (some ⟨W.heap.size + 1, 0, none⟩) 1 1, .int .i64 ((i : Int) + 1), .bool true]) (by simp [results, Tryz.results115, go_sem, r0, r1, r2]) rfl ⟨_, _, _, _, rfl, HFIN, by omega, fun X hX => by cases hX; rfl, hbl⟩
theorem below_one {W W' : World} {g : Nat} (hb : Below W.heap.size W W') (hg : W.heap.size ≤ g) (u : Value) (k : Nat) : Below W.heap.size W (W'.setCell ⟨g, k, none⟩ u) := hb.setCell hg u
/-- A box of the reference is filled: what is read elsewhere stays. -/
theorem Nl.fill {B : Nat} {W : World} {a9 : Option Addr} {g n9 c9 : Nat} {L : List Tn} (h : Nl B W a9 n9 c9 L) {a a' : Option Addr} {n n' c c' : Nat} {i i' : Int} {b b' : Bool} {t : TypeId} (hB : Bk t W g [.slice a n c, .int .i64 i, .bool b]) :
    Nl B (((W.setCell ⟨g, 0, none⟩ (.slice a' n' c')).setCell ⟨g, 1, none⟩ (.int .i64 i')).setCell ⟨g, 2, none⟩ (.bool b')) a9 n9 c9 L :=
  h.but (fun k hk => (Below.heap_setCell _ ⟨g, 2, none⟩ _ k hk).trans ((Below.heap_setCell _ ⟨g, 1, none⟩ _ k hk).trans (Below.heap_setCell _ ⟨g, 0, none⟩ _ k hk))) (hB.no rfl)
set_option maxHeartbeats 1600000 in
theorem atom_par (ts : List Tk) (i : Nat) (a : Option Addr) (n c : Nat) (W : World) (h : Qs W a n (rtk ts)) (hn : n = ts.length) (hm : n ≤ 300) (hi : i < n) {x : Option (List Tn)} {q : Pk} {r r' : List Pk} (hd : (pks ts).drop i = q :: r) (hq : q.k = 6) (ht : q.t = [40]) (h1 : Rd' numT (.cl 41) r x r') (HC : ClosedBehind ts i) :
    Calls Tryz.prog 115 #[.slice a n c, .int .i64 i] W (GtEnd x (n - r'.length) W) := by
  have hb0 := box_below W (.cells #[.slice none 0 0, .int .i64 0, .bool false] 87)
  have hB := Bk.new 87 W [.slice none 0 0, .int .i64 0, .bool false]
  have K1 := rkind_is ts a n c _ (h.below hb0) hn (by omega) i
  have K2 := rmark_is ts a n c _ (h.below hb0) hn (by omega) i ⟨#[40]⟩
  rw [hd] at K1 K2
  rw [show mkB (q :: r) (ByteArray.mk #[40]).data.toList = true from mkB_yes.2 ⟨hq, ht⟩] at K2
  replace K1 : Calls _ _ _ _ (PureEnd (.int .i64 q.k) _) := K1
  rw [hq] at K1
  have e1 : (pks ts).drop (i + 1) = r := by rw [← List.drop_drop, hd]; rfl
  have K3 := HC (i + 1) 41 a n c (W.alloc (.cells #[.slice none 0 0, .int .i64 0, .bool false] 87)) x r' (by omega) (h.below hb0) hn hm (by omega) (by rw [e1]; exact h1)
  replace K1 := Lib.hid K1
  replace K2 := Lib.hid K2
  replace K3 := Lib.hid K3
  generalize n - r'.length = p at *
  have HB := Lib.hid hB
  have HB0 := Lib.hid hb0
  have w1 : IntKind.i64.wrap ((i : Int) + 1) = (i : Int) + 1 := wrn (by omega) (by omega)
  clear hB hb0 hd hq ht h1 HC hn e1 h
  go_enter Tryz.func115, Tryz.ntmps115
  go_wp2_with fail
  refine K1.out.mono ?_
  rintro e w1 ⟨rfl, rfl⟩
  go_wp2_with fail
  refine K2.out.mono ?_
  rintro e w1 ⟨rfl, rfl⟩
  go_wp2_with fail
  refine K3.out.mono ?_
  rintro e w2 ⟨a2, n2, c2, L, rfl, hL, hn2, hx, hb2⟩
  have hB2 := HB.out.on hb2
  have hbb := HB0.out.trans (hb2.mono HB0.out.size)
  have y0 := hB2.p0
  have y1 := hB2.p1
  have y2 := hB2.p2
  have f0 := hB2.f 0
  have f1 := hB2.f 1
  have f2 := hB2.f 2
  have HL := Lib.hid ((hL.base HB0.out.size).fill (a' := a2) (n' := n2) (c' := c2) (i' := p) (b' := x.isSome) hB2)
  have HX := Lib.hid hx
  clear K1 K2 K3 hL hx hb2
  go_wp2_with fail
  have hR := hB2.set3 (.slice a2 n2 c2) (.int .i64 (p : Int)) (.bool x.isSome)
  have r0 := hR.p0
  have r1 := hR.p1
  have r2 := hR.p2
  exact bodyPost_ret (v := .agg #[.slice a2 n2 c2, .int .i64 (p : Int), .bool x.isSome]) (by simp [results, Tryz.results115, go_sem, r0, r1, r2]) rfl ⟨_, _, _, _, rfl, HL.out, hn2, HX.out, below3 hbb (Nat.le_refl _) _ _ _⟩
/-- The first numbers of a list of parts. -/
def numsL (l : List Pk) (k : Nat) : List ByteArray := ((nmL l).take k).map fun t => tx (numT t)
theorem numsL_succ {l : List Pk} {k : Nat} {t : List UInt8} (h : (nmL l)[k]? = some t) : numsL l (k + 1) = numsL l k ++ [tx (numT t)] := by
  unfold numsL
  rw [List.take_add_one, h, List.map_append]; rfl
theorem numsL_len {l : List Pk} {k : Nat} (h : k ≤ (nmL l).length) : (numsL l k).length = k := by unfold numsL; rw [List.length_map, List.length_take]; omega
theorem numsL_size {l : List Pk} {B : Nat} (h : ∀ q ∈ l, q.t.length ≤ B) (k : Nat) : ∀ s ∈ numsL l k, s.size ≤ B := by
  intro s hs
  obtain ⟨t, ht, rfl⟩ := List.mem_map.1 hs
  obtain ⟨q, hq, _, rfl⟩ := nmL_of (P := fun q => q.t.length ≤ B) h t (List.mem_of_mem_take ht)
  have := numT_len q.t
  rw [tx_size]
  omega
theorem numsL_list (l : List Pk) : (numsL l (nmL l).length).map (·.data.toList) = (nmL l).map numT := by
  unfold numsL
  rw [List.take_length, List.map_map]
  exact List.map_congr_left fun t _ => rfl
def litD (g : Option Addr) (k c : Nat) (ns : List ByteArray) : Nd := ⟨1, ⟨#[]⟩, ⟨#[]⟩, ⟨#[]⟩, g, k, c, ns⟩
theorem litD_on {W : World} {g : Option Addr} {k c : Nat} {ns : List ByteArray} (h : St W g k ns) (hc : k ≤ c) (hm : c ≤ maxLen) (hs : ∀ s ∈ ns, s.size ≤ 300) : (litD g k c ns).on W :=
  ⟨h, hc, hm, (by decide : (-9223372036854775808 : Int) ≤ 1), (by decide : (1 : Int) ≤ 9223372036854775807), Nat.zero_le _, Nat.zero_le _, Nat.zero_le _, fun s h => Nat.le_trans (hs s h) (by unfold maxLen; omega)⟩
def AtomEnd (l : List Pk) (i : Nat) (W : World) (e : Ending) (W' : World) : Prop :=
  GtEnd (if (nmL l).length = 0 ∨ 100 < (nmL l).length then none else some [⟨1, [], [], [], (nmL l).map numT⟩]) (if 100 < (nmL l).length then i + 100 else i + (nmL l).length) W e W'
set_option maxRecDepth 10000 in
set_option maxHeartbeats 3200000 in
theorem atom_nums (ts : List Tk) (i : Nat) (a : Option Addr) (n c : Nat) (W : World) (h : Qs W a n (rtk ts)) (hn : n = ts.length) (hm : n ≤ 300) (hi : i ≤ n) (hf : Few ts) (h2 : ¬ isK 2 ((pks ts).drop i)) (h6 : ¬ isMk 40 ((pks ts).drop i)) :
    Calls Tryz.prog 115 #[.slice a n c, .int .i64 i] W (AtomEnd ((pks ts).drop i) i W) := by
  have hb0 := box_below W (.cells #[.slice none 0 0, .int .i64 0, .bool false] 87)
  have hB := Bk.new 87 W [.slice none 0 0, .int .i64 0, .bool false]
  have K1 := Lib.hid (fun w (hb : Below W.heap.size W w) k => by have := rkind_is ts a n c w (h.below hb) hn (by omega) (i + k); rwa [← List.drop_drop, Int.natCast_add] at this : ∀ w, Below W.heap.size W w → ∀ k : Nat, Calls Tryz.prog 81 #[.slice a n c, .int .i64 ((i : Int) + (k : Int))] w (PureEnd (.int .i64 (kd0 (((pks ts).drop i).drop k))) w))
  have K2 := Lib.hid (fun w (hb : Below W.heap.size W w) k => by have := rtext_is ts a n c w (h.below hb) hn (by omega) (i + k); rwa [← List.drop_drop, Int.natCast_add] at this : ∀ w, Below W.heap.size W w → ∀ k : Nat, Calls Tryz.prog 85 #[.slice a n c, .int .i64 ((i : Int) + (k : Int))] w (PureEnd (.string (tx (tx0 (((pks ts).drop i).drop k)))) w))
  have K3 := rmark_is ts a n c _ (h.below hb0) hn (by omega) i ⟨#[40]⟩
  rw [show mkB ((pks ts).drop i) (ByteArray.mk #[40]).data.toList = false from mkB_no h6] at K3
  have hl : ((pks ts).drop i).length = n - i := by rw [List.length_drop, pks_len, hn]
  have hT : ∀ q ∈ (pks ts).drop i, q.t.length ≤ 300 := by
    intro q hq
    obtain ⟨t, ht, rfl⟩ := List.mem_map.1 (List.mem_of_mem_drop hq)
    exact hf t ht
  have hk2 : kd0 ((pks ts).drop i) ≠ 2 := fun e => h2 ((kd0_yes (by decide)).1 e)
  have KN := Lib.hid (fun (t : List UInt8) (ht : t.length ≤ 300) w => rNumber_is t (by omega) w)
  generalize (pks ts).drop i = l at *
  have hN := nmL_le l
  obtain ⟨N, hNN⟩ : ∃ N, N = (nmL l).length := ⟨_, rfl⟩
  have HNN := Lib.hid hNN
  have HT := Lib.hid hT
  replace K3 := Lib.hid K3
  have HB := Lib.hid hB
  have HB0 := Lib.hid hb0
  have hNn : i + N ≤ 300 := by omega
  have ek : (kd0 l == 2) = false := beq_eq_false_iff_ne.2 hk2
  have K10 := K1.out _ HB0.out 0
  rw [show (i : Int) + ((0 : Nat) : Int) = (i : Int) by omega, List.drop_zero] at K10
  replace K10 := Lib.hid K10
  unfold AtomEnd
  rw [← hNN]
  obtain ⟨X0, hX0⟩ : ∃ X0 : Option (List Tn), X0 = (if N = 0 ∨ 100 < N then none else some [⟨1, [], [], [], (nmL l).map numT⟩]) := ⟨_, rfl⟩
  obtain ⟨p0, hp0⟩ : ∃ p0 : Nat, p0 = (if 100 < N then i + 100 else i + N) := ⟨_, rfl⟩
  rw [← hX0, ← hp0]
  have HX0 := Lib.hid hX0
  have HP0 := Lib.hid hp0
  clear hX0 hp0
  clear hn h h2 h6 hl hT hk2 hN hNN hb0 hB hm hi
  go_enter Tryz.func115, Tryz.ntmps115
  go_wp2_with fail
  refine K10.out.mono ?_
  rintro e w1 ⟨rfl, rfl⟩
  go_wp2_with fail
  refine K3.out.mono ?_
  rintro e w1 ⟨rfl, rfl⟩
  clear K3 K10 ek
  go_wp2_with fail
  go_loopw [1, 5] (fun iv nv wr => ∃ k : Nat, iv = .int .i64 ((i : Int) + k) ∧ k ≤ N ∧ k ≤ 100 ∧ wr.ownsRow (W.heap.size + 1) 9 1 nv k (valsS (numsL l k)) ∧ Bk 87 wr W.heap.size [.slice none 0 0, .int .i64 0, .bool false] ∧ Below W.heap.size W wr) (fun iv _ _ => i + N - (intOf iv).toNat)
  case atStart => exact ⟨0, by simp, by omega, by omega, World.ownsRow_nil _ _ _ _, HB.out, HB0.out⟩
  case round =>
    clear HB HB0
    obtain ⟨k, rfl, hk, hk1, ho, hB, hb⟩ := hrel
    by_cases hlt : k < N
    · obtain ⟨q, l', hq1, hq2, hq3⟩ := nmL_at (ts := l) (k := k) (by rw [← HNN.out]; exact hlt)
      have hqt : q.t.length ≤ 300 := HT.out q (List.mem_of_mem_drop (show q ∈ l.drop k by rw [hq1]; exact List.mem_cons_self))
      have A1 := K1.out wr hb k
      have A2 := K2.out wr hb k
      rw [hq1] at A1 A2
      replace A1 : Calls _ _ _ _ (PureEnd (.int .i64 q.k) _) := A1
      replace A2 : Calls _ _ _ _ (PureEnd (.string (tx q.t)) _) := A2
      rw [hq2] at A1
      have A3 := KN.out q.t hqt wr
      have HA1 := Lib.hid A1
      have HA2 := Lib.hid A2
      have HA3 := Lib.hid A3
      have HNS := Lib.hid (numsL_succ (l := l) hq3)
      generalize tx q.t = T at *
      generalize numB q.t = nb at *
      clear hqt A1 A2 A3 hq1 hq2 hq3
      go_wp2_with fail
      refine HA1.out.mono ?_
      rintro e w1 ⟨rfl, rfl⟩
      go_wp2_with fail
      refine HA2.out.mono ?_
      rintro e w1 ⟨rfl, rfl⟩
      go_wp2_with fail
      refine HA3.out.mono ?_
      rintro e w1 ⟨rfl, rfl⟩
      generalize tx (numT q.t) = TN at *
      clear HA1 HA2 HA3
      have hsz := hB.lt
      obtain ⟨i0, hi0, hz0, hz1, hz2⟩ := info_parts infoS
      go_wp2_with (at_builtin; refine wpList_append_own _ rfl (.tmp 38) (.tmp 40) 35 rfl (W.heap.size + 1) 9 i0 (.string ⟨#[]⟩) 1 16 Tryz.underlying35 hi0 hz0 hz1 hz2 rfl (by decide) _ _ _ rfl (ho.alloc _) ⟨wr.heap.size, 0, none⟩ 1 1 [.string TN] rfl rfl ?c1 ?c2 ?c3 ?c4 ?c5 ?_)
      case c1 =>
        intro j u hj
        rw [Go.WideShapes.add_plain, Nat.zero_add]
        exact (Bk.new 9 wr [.string TN]).c j |>.trans hj
      case c2 => intro u hu; rw [List.mem_singleton] at hu; rw [hu]; rfl
      case c3 => unfold maxLen; omega
      case c4 => omega
      case c5 => show _ ≤ (wr.heap.push _).size; simp; omega
      intro v1 w2 hown1 hg1 _
      have hb2 : Below W.heap.size W w2 := (hb.alloc hb.size _).grown hg1 (by show _ ≤ (wr.heap.push _).size; simp; omega) (fun q hq => by have := (ho.lt q hq).1; omega)
      have hB2 : Bk 87 w2 W.heap.size [.slice none 0 0, .int .i64 0, .bool false] := (hg1.block W.heap.size (by show _ < (wr.heap.push _).size; simp; omega) (fun e => by have := (ho.lt _ e.symm).1; omega)).trans (hB.alloc _)
      rw [show valsS (numsL l k) ++ [Value.string TN] = valsS (numsL l (k + 1)) by rw [HNS.out]; unfold valsS; rw [List.map_append]; rfl] at hown1
      obtain ⟨a1, c1, rfl, hc1, hc2, _⟩ := own_st hown1
      have HO := Lib.hid hown1
      have w3 : IntKind.i64.wrap ((i : Int) + (k : Int) + 1) = (i : Int) + (k : Int) + 1 := wrn (by omega) (by omega)
      clear ho hB hb hsz hg1 hown1
      by_cases h100 : k = 100
      · subst h100
        have f0 := hB2.f 0
        have f1 := hB2.f 1
        have f2 := hB2.f 2
        have y0 := hB2.p0
        have y1 := hB2.p1
        have y2 := hB2.p2
        have hgt : 100 < N := by omega
        clear hlt
        go_wp2_with fail
        have hR := hB2.set3 (.slice none 0 0) (.int .i64 ((i : Int) + 100)) (.bool false)
        have r0 := hR.p0
        have r1 := hR.p1
        have r2 := hR.p2
        have hX0 := HX0.out
        have hp0 := HP0.out
        rw [if_pos (.inr hgt)] at hX0
        rw [if_pos hgt] at hp0
        subst hX0 hp0
        exact bodyPost_ret (v := .agg #[.slice none 0 0, .int .i64 ((i : Int) + 100), .bool false]) (by simp [results, Tryz.results115, go_sem, r0, r1, r2]) rfl ⟨_, _, _, _, rfl, Nl.nil _ _, by omega, (fun X hX => by cases hX), below3 hb2 (Nat.le_refl _) _ _ _⟩
      · have e100 : ¬ (100 : Int) < (k : Int) + 1 := by omega
        clear h100
        go_wp2_with fail
        refine ⟨⟨k + 1, by congr 1 <;> omega, by omega, by omega, HO.out, hB2, hb2⟩, by simp [intOf]; omega⟩
    · obtain rfl : k = N := by omega
      have A1 := K1.out wr hb k
      rw [HNN.out] at A1
      have hne : kd0 (l.drop (nmL l).length) ≠ 1 := fun e => nmL_stop ((kd0_yes (by decide)).1 e)
      rw [← HNN.out] at A1 hne
      generalize kd0 (l.drop k) = kk at *
      have ek : (kk == 1) = false := beq_eq_false_iff_ne.2 hne
      have hlow := ho.lt
      obtain ⟨a1, c1, rfl, hc1, hc2, hst⟩ := own_st ho
      have HLOW := Lib.hid (fun (p : Addr) (e : a1 = some p) => Nat.le_trans (Nat.le_succ _) (hlow p.block (by rw [e]; rfl)).1 : ∀ p : Addr, a1 = some p → W.heap.size ≤ p.block)
      clear hlow
      have hS := numsL_size HT.out k
      have HD := Lib.hid (fun w (hb : Below wr.heap.size wr w) => litD_on (hst.below hb) hc1 hc2 hS)
      have HA1 := Lib.hid A1
      have hlist := numsL_list l
      rw [← HNN.out] at hlist
      have HLI := Lib.hid hlist
      have hgt : ¬ 100 < k := by omega
      clear A1 hne ho hst hS hlist hlt
      have hA := hB.alloc (.cells (litD a1 k c1 (numsL l k)).cells.toArray 37)
      have f0 := hA.f 0
      have f1 := hA.f 1
      have f2 := hA.f 2
      have y0 := hA.p0
      have y1 := hA.p1
      have y2 := hA.p2
      rw [show (litD a1 k c1 (numsL l k)).cells.toArray = #[.int .i64 1, .string ⟨#[]⟩, .string ⟨#[]⟩, .string ⟨#[]⟩, .slice a1 k c1] from rfl] at f0 f1 f2 y0 y1 y2
      have HB := Lib.hid hB
      clear hA hB
      go_wp2_with fail
      refine HA1.out.mono ?_
      rintro e w1 ⟨rfl, rfl⟩
      go_wp2_with fail
      have hR := (HB.out.alloc (.cells (litD a1 k c1 (numsL l k)).cells.toArray 37)).set3 (.slice (some ⟨wr.heap.size, 0, none⟩) 1 1) (.int .i64 ((i : Int) + (k : Int))) (.bool (decide (0 < k)))
      have r0 := hR.p0
      have r1 := hR.p1
      have r2 := hR.p2
      have hN := nl_one (B := W.heap.size) (Bk.new 37 wr (litD a1 k c1 (numsL l k)).cells) (HD.out _ (box_below wr _)) hb.size (fun _ p e => HLOW.out p e)
      have HFIN := Lib.hid (hN.fill (a' := some ⟨wr.heap.size, 0, none⟩) (n' := 1) (c' := 1) (i' := (i : Int) + (k : Int)) (b' := decide (0 < k)) (HB.out.alloc (.cells (litD a1 k c1 (numsL l k)).cells.toArray 37)))
      have hbb := hb.alloc hb.size (.cells (litD a1 k c1 (numsL l k)).cells.toArray 37)
      rw [show (litD a1 k c1 (numsL l k)).cells.toArray = #[.int .i64 1, .string ⟨#[]⟩, .string ⟨#[]⟩, .string ⟨#[]⟩, .slice a1 k c1] from rfl] at r0 r1 r2 HFIN hbb
      have hp0 := HP0.out
      rw [if_neg hgt] at hp0
      subst hp0
      refine bodyPost_ret (v := .agg #[.slice (some ⟨wr.heap.size, 0, none⟩) 1 1, .int .i64 ((i : Int) + (k : Int)), .bool (decide (0 < k))]) (by simp [results, Tryz.results115, go_sem, r0, r1, r2]) rfl ⟨_, _, _, [tnOf (litD a1 k c1 (numsL l k))], ?_, HFIN.out, by omega, fun X hX => ?_, below3 hbb (Nat.le_refl _) _ _ _⟩
      · rw [HX0.out]
        by_cases h0 : k = 0
        · subst h0; rfl
        · rw [if_neg (by omega), decide_eq_true (by omega)]; rfl
      · rw [HX0.out] at hX
        by_cases h0 : k = 0
        · rw [if_pos (.inl h0)] at hX; cases hX
        · rw [if_neg (by omega)] at hX
          injection hX with hX
          rw [← hX, ← HLI.out]; rfl
theorem atom_is (ts : List Tk) (i : Nat) (a : Option Addr) (n c : Nat) (W : World) (x : Option (List Tn)) (r : List Pk) (h : Qs W a n (rtk ts)) (hn : n = ts.length) (hm : n ≤ 300) (hi : i ≤ n) (hf : Few ts) (HC : ClosedBehind ts i) (hR : Rd' numT .atom ((pks ts).drop i) x r) :
    Calls Tryz.prog 115 #[.slice a n c, .int .i64 i] W (GtEnd x (n - r.length) W) := by
  have hl : ((pks ts).drop i).length = n - i := by rw [List.length_drop, pks_len, hn]
  generalize hg : (pks ts).drop i = l at *
  have AN := fun (h2 : ¬ isK 2 l) (h6 : ¬ isMk 40 l) => atom_nums ts i a n c W h hn hm hi hf (by rw [hg]; exact h2) (by rw [hg]; exact h6)
  unfold AtomEnd at AN
  rw [hg] at AN
  have n1 : ∀ {l : List Pk} {k : Nat}, k < (nmL l).length → ¬ isK 2 l ∧ ¬ isMk 40 l := by
    intro l k hk
    obtain ⟨q, l', e, h1, _⟩ := nmL_at (ts := l) (k := 0) (by omega)
    rw [List.drop_zero] at e
    subst e
    exact ⟨fun g => by have g : q.k = 2 := g; omega, fun g => by have g := g.1; omega⟩
  cases hR with
  | @m_word q r hk =>
    have hl2 : r.length + 1 = n - i := hl
    rw [show n - r.length = i + 1 by omega]
    exact atom_word ts i a n c W h hn hm hf hg hk (by omega)
  | @m_par q r r' x hq ht h1 =>
    have hl2 : r.length + 1 = n - i := hl
    exact atom_par ts i a n c W h hn hm (by omega) hg hq ht h1 HC
  | m_bad h2 h6 h1 =>
    have e : (nmL r).length = 0 := by
      rcases Nat.eq_zero_or_pos (nmL r).length with h0 | h0
      · exact h0
      · exact absurd (isK_drop (k := 0) h0) h1
    have := AN h2 h6
    rw [e] at this
    rw [show n - r.length = i by omega]
    exact this
  | @m_many l hk =>
    obtain ⟨h2, h6⟩ := n1 hk
    have := AN h2 h6
    rw [if_pos (.inr hk), if_pos hk] at this
    have := nmL_le l
    rw [List.length_drop, show n - (l.length - 100) = i + 100 by omega]
    assumption
  | @m_nums l h0 h1 =>
    obtain ⟨h2, h6⟩ := n1 h0
    have := AN h2 h6
    rw [if_neg (by omega), if_neg (by omega)] at this
    have := nmL_le l
    rw [List.length_drop, show n - (l.length - (nmL l).length) = i + (nmL l).length by omega]
    assumption
end Go.Proofs.YtljkmdmbndjngaaGreat
/-
  The parser's small steps: next, isVerb, upTo, last.
-/
namespace Go.Proofs.YtljkmdmbndjngaaGreat
set_option linter.unusedVariables false
set_option linter.unusedSimpArgs false
open Go.RowKit

/-- The parser's cells. -/
def pcs (pa : Option Addr) (n pc i : Nat) (oa : Option Addr) (on oc : Nat) (ta : Option Addr) (tn tc : Nat) (wh dp : Bool) : List Value := [.slice pa n pc, .int .i64 i, .slice oa on oc, .slice ta tn tc, .bool wh, .bool dp]
section
variable {W : World} {g : Nat} {pa : Option Addr} {n pc i : Nat} {oa : Option Addr} {on oc : Nat} {ta : Option Addr} {tn tc : Nat} {wh dp : Bool}
theorem Pc.c0 (h : Bk 84 W g (pcs pa n pc i oa on oc ta tn tc wh dp)) : W.cell? ⟨g, 0, none⟩ = some (.slice pa n pc) := h.c 0
theorem Pc.c1 (h : Bk 84 W g (pcs pa n pc i oa on oc ta tn tc wh dp)) : W.cell? ⟨g, 1, none⟩ = some (.int .i64 i) := h.c 1
theorem Pc.c2 (h : Bk 84 W g (pcs pa n pc i oa on oc ta tn tc wh dp)) : W.cell? ⟨g, 2, none⟩ = some (.slice oa on oc) := h.c 2
theorem Pc.c3 (h : Bk 84 W g (pcs pa n pc i oa on oc ta tn tc wh dp)) : W.cell? ⟨g, 3, none⟩ = some (.slice ta tn tc) := h.c 3
theorem Pc.c4 (h : Bk 84 W g (pcs pa n pc i oa on oc ta tn tc wh dp)) : W.cell? ⟨g, 4, none⟩ = some (.bool wh) := h.c 4
theorem Pc.c5 (h : Bk 84 W g (pcs pa n pc i oa on oc ta tn tc wh dp)) : W.cell? ⟨g, 5, none⟩ = some (.bool dp) := h.c 5
end
def NxEnd (l : List Pk) (W : World) (e : Ending) (W' : World) : Prop := ∃ p : Int, e = .returned (.agg #[.int .i64 (kd0 l), .string (tx (tx0 l)), .int .i64 p]) ∧ Below W.heap.size W W'
def ptr (g : Nat) : Value := .pointer (some ⟨g, 0, none⟩)
set_option maxRecDepth 10000 in
set_option maxHeartbeats 3200000 in
theorem next_is (ts : List Tk) {W : World} {g : Nat} {pa : Option Addr} {n pc i : Nat} {oa : Option Addr} {on oc : Nat} {ta : Option Addr} {tn tc : Nat} {wh dp : Bool} (h : Bk 84 W g (pcs pa n pc i oa on oc ta tn tc wh dp)) (hq : Qs W pa n (rtk ts)) (hn : n = ts.length) (hm : n ≤ 300) :
    Calls Tryz.prog 96 #[.pointer (some ⟨g, 0, none⟩)] W (NxEnd ((pks ts).drop i) W) := by
  have hb0 := box_below W (.cells #[.int .i64 0, .string ⟨#[]⟩, .int .i64 0] 80)
  have hT := Bk.new 80 W [.int .i64 0, .string ⟨#[]⟩, .int .i64 0]
  have hP := h.alloc (.cells #[.int .i64 0, .string ⟨#[]⟩, .int .i64 0] 80)
  have c0 := Pc.c0 hP
  have c1 := Pc.c1 hP
  have hgW : g < W.heap.size := h.lt
  have f0 := hT.f 0
  have f1 := hT.f 1
  have f2 := hT.f 2
  have y0 := hT.p0
  have y1 := hT.p1
  have y2 := hT.p2
  by_cases hi : i < n
  · obtain ⟨t, ht⟩ : ∃ t, ts[i]? = some t := ⟨_, List.getElem?_eq_getElem (by omega)⟩
    rw [pks_at ht]
    obtain ⟨b, off, rfl, hc⟩ := hq (by omega)
    obtain ⟨ck, cx, cp⟩ := hc i hi
    rw [rtk_at ht] at ck cx cp
    have hbW : b < W.heap.size := World.block_lt_of_cell? W _ ck
    have dk := (hb0.cell (p := ⟨b, off + i * 3, none⟩) hbW).trans ck
    have dx := (hb0.cell (p := ⟨b, off + i * 3 + 1, none⟩) hbW).trans cx
    have dq := (hb0.cell (p := ⟨b, off + i * 3 + 2, none⟩) hbW).trans cp
    have e2 : (i : Int) < (n : Int) := by omega
    have HB0 := Lib.hid hb0
    have HT := Lib.hid hT
    clear hc ck cx cp hq h hP ht hn hi hT hb0
    show Calls _ _ _ _ (NxEnd (t.pk :: _) W)
    generalize hk9 : (t.kind : Int) = k9 at *
    generalize hx9 : tx t.text = x9 at *
    generalize hp9 : (t.at_ : Int) = p9 at *
    have HE := Lib.hid (⟨hk9, hx9⟩ : (t.kind : Int) = k9 ∧ tx t.text = x9)
    simp only at dk dx dq
    clear hk9 hx9 hp9
    go_enter Tryz.func96, Tryz.ntmps96
    go_wp2_with fail
    go_quiet (fail)
    have hT2 := HT.out.drewN nq
    have hb2 := below_drewN HB0.out nq
    obtain ⟨w1, hw1⟩ : ∃ w1, w1 = (W.alloc (.cells #[.int .i64 0, .string ⟨#[]⟩, .int .i64 0] 80)).drewN nq := ⟨_, rfl⟩
    replace c0 : w1.cell? ⟨g, 0, none⟩ = some (.slice (some ⟨b, off, none⟩) n pc) := by rw [hw1]; exact c0
    replace c1 : w1.cell? ⟨g, 1, none⟩ = some (.int .i64 i) := by rw [hw1]; exact c1
    replace dk : w1.cell? ⟨b, off + i * 3, none⟩ = some (.int .i64 k9) := by rw [hw1]; exact dk
    replace dx : w1.cell? ⟨b, off + i * 3 + 1, none⟩ = some (.string x9) := by rw [hw1]; exact dx
    replace dq : w1.cell? ⟨b, off + i * 3 + 2, none⟩ = some (.int .i64 p9) := by rw [hw1]; exact dq
    clear f0 f1 f2 y0 y1 y2
    rw [← hw1] at hT2 hb2 ⊢
    have f0 := hT2.f 0
    have f1 := hT2.f 1
    have f2 := hT2.f 2
    have y0 := hT2.p0
    have y1 := hT2.p1
    have y2 := hT2.p2
    have HT2 := Lib.hid hT2
    have HB2 := Lib.hid hb2
    clear hT2 hb2 hw1 HT HB0
    go_wp2_with fail
    go_region
    have hR := (HT2.out.set3 (.int .i64 k9) (.string x9) (.int .i64 p9)).drew
    have hB := (below3 HB2.out (Nat.le_refl _) (.int .i64 k9) (.string x9) (.int .i64 p9)).drew
    have r0 := hR.p0
    have r1 := hR.p1
    have r2 := hR.p2
    have HB := Lib.hid hB
    clear hR hB f0 f1 f2 y0 y1 y2 c0 c1 dk dx dq
    generalize ((((w1.setCell ⟨W.heap.size, 0, none⟩ (.int .i64 k9)).setCell ⟨W.heap.size, 1, none⟩ (.string x9)).setCell ⟨W.heap.size, 2, none⟩ (.int .i64 p9))).drew = wz at *
    go_wp2_with fail
    exact bodyPost_ret (v := .agg #[.int .i64 k9, .string x9, .int .i64 p9]) (by simp [results, Tryz.results96, go_sem, r0, r1, r2]) rfl ⟨p9, by rw [← HE.out.1, ← HE.out.2]; rfl, HB.out⟩
  · rw [pks_out (by omega)]
    have e2 : ¬ (i : Int) < (n : Int) := by omega
    have HB0 := Lib.hid hb0
    have HT := Lib.hid hT
    clear hq h hP hi hT hb0 hn
    go_enter Tryz.func96, Tryz.ntmps96
    go_wp2_with fail
    go_quiet (fail)
    have hT2 := HT.out.drewN nq
    have hb2 := below_drewN HB0.out nq
    obtain ⟨w1, hw1⟩ : ∃ w1, w1 = (W.alloc (.cells #[.int .i64 0, .string ⟨#[]⟩, .int .i64 0] 80)).drewN nq := ⟨_, rfl⟩
    clear f0 f1 f2 y0 y1 y2 c0 c1
    rw [← hw1] at hT2 hb2 ⊢
    have f0 := hT2.f 0
    have f1 := hT2.f 1
    have f2 := hT2.f 2
    have y0 := hT2.p0
    have y1 := hT2.p1
    have y2 := hT2.p2
    have hR := hT2.set3 (.int .i64 0) (.string ⟨#[]⟩) (.int .i64 0)
    have HB := Lib.hid (below3 hb2 (Nat.le_refl _) (.int .i64 0) (.string ⟨#[]⟩) (.int .i64 0))
    have HR := Lib.hid hR
    clear hT2 hb2 hw1 HT HB0 hR
    go_wp2_with fail
    have r0 := HR.out.p0
    have r1 := HR.out.p1
    have r2 := HR.out.p2
    exact bodyPost_ret (v := .agg #[.int .i64 0, .string ⟨#[]⟩, .int .i64 0]) (by simp [results, Tryz.results96, go_sem, r0, r1, r2]) rfl ⟨0, rfl, HB.out⟩
theorem pIsVerb_is (k p : Int) (x : ByteArray) (W : World) : Calls Tryz.prog 99 #[.agg #[.int .i64 k, .string x, .int .i64 p]] W (ValEnd (.bool (decide (k = 4) || decide (k = 3) || decide (x.data.toList = [123]))) W) := by
  have hT := Bk.new 80 W [.int .i64 k, .string x, .int .i64 p]
  have HB := Lib.hid (box_below W (.cells #[.int .i64 k, .string x, .int .i64 p] 80))
  have y0 := hT.p0
  have y1 := hT.p1
  have y2 := hT.p2
  clear hT
  by_cases h4 : k = 4
  · subst h4
    go_enter Tryz.func99, Tryz.ntmps99
    go_wp2_with fail
    go_ret
    exact ⟨by simp, HB.out⟩
  have e4 : (k == 4) = false := beq_eq_false_iff_ne.2 h4
  by_cases h3 : k = 3
  · subst h3
    go_enter Tryz.func99, Tryz.ntmps99
    go_wp2_with fail
    go_ret
    exact ⟨by simp, HB.out⟩
  have e3 : (k == 3) = false := beq_eq_false_iff_ne.2 h3
  have ex : (x.toList == [123]) = decide (x.data.toList = [123]) := by
    rw [str_tl]
    by_cases h : x.data.toList = [123]
    · rw [h]; simp
    · rw [decide_eq_false h]; exact beq_eq_false_iff_ne.2 h
  have HX := Lib.hid ex
  cases hb : decide (x.data.toList = [123]) with
  | false =>
    rw [hb] at ex
    clear hb
    go_enter Tryz.func99, Tryz.ntmps99
    go_wp2_with fail
    go_ret
    exact ⟨by simp [h3, h4], HB.out⟩
  | true =>
    rw [hb] at ex
    clear hb
    go_enter Tryz.func99, Tryz.ntmps99
    go_wp2_with fail
    go_ret
    exact ⟨by simp [h3, h4], HB.out⟩
theorem infoBg : (Tryz.prog.info? 129).map (fun i => (i.zero, i.size, i.bytes)) = some (some (.agg #[.int .i64 0, .string ⟨#[]⟩, .string ⟨#[]⟩, .string ⟨#[]⟩, .slice none 0 0, .slice none 0 0, .string ⟨#[]⟩]), 7, 120) := by kernel_rfl
/-- The stack's row: a slice, its length. -/
theorem obs_at (b : Mb) (l : List Mb) : ∀ i, i < 7 → (obs (b :: l))[l.length * 7 + i]? = b.cells[i]? := by
  intro i hi
  show (obs l ++ b.cells)[l.length * 7 + i]? = _
  have hl := obs_len l
  rw [List.getElem?_append_right (by omega), hl, Nat.add_sub_cancel_left]
theorem obs_take (b : Mb) (l : List Mb) : (obs (b :: l)).take (l.length * 7) = obs l := by
  show (obs l ++ b.cells).take _ = _
  rw [← obs_len l, List.take_append_of_le_length (Nat.le_refl _), List.take_length]
theorem own_cut {w : World} {base e s n k : Nat} {a : Option Addr} {cap : Nat} {xs : List Value} (h : w.ownsRow base e s (.slice a n cap) n xs) (hk : k ≤ n) (ha : a ≠ none) : w.ownsRow base e s (.slice a k cap) k (xs.take (k * s)) := by
  have hl := h.1
  rcases h.2 with ⟨h0, _⟩ | ⟨g', cap', cur, hv, h0, hg, h1, h2, h3, h4⟩
  · cases h0; exact absurd rfl ha
  · injection hv with hv hn hc
    subst hv hc
    refine ⟨by rw [List.length_take, hl]; exact Nat.min_eq_left (Nat.mul_le_mul_right _ hk), .inr ⟨_, _, cur, rfl, h0, hg, by omega, h2, h3, ?_⟩⟩
    rw [← h4, List.take_take, Nat.min_eq_left (Nat.mul_le_mul_right _ hk)]
/-- A stack that is not empty: its block, and the last one's cells. -/
theorem own_top {w : World} {base n : Nat} {a : Option Addr} {cap : Nat} {b : Mb} {l : List Mb} (h : w.ownsRow base 129 7 (.slice a n cap) n (obs (b :: l))) (hn : n = l.length + 1) :
    ∃ q, a = some ⟨q, 0, none⟩ ∧ base ≤ q ∧ n ≤ cap ∧ cap ≤ maxLen ∧ (∀ i, i < 7 → w.cell? ⟨q, l.length * 7 + i, none⟩ = b.cells[i]?) ∧ (∃ cur, w.heap[q]? = some (.cells cur 129 (0, 0))) ∧ w.ownsRow base 129 7 (.slice a l.length cap) l.length (obs l) := by
  rcases h.2 with ⟨_, h0⟩ | ⟨q, cap', cur, hv, h0, hg, h1, h2, h3, h4⟩
  · omega
  · injection hv with hv hn' hc
    subst hv hc
    have hcut := own_cut h (k := l.length) (by omega) (by simp)
    rw [obs_take] at hcut
    exact ⟨q, rfl, h0, h1, h2, fun i hi => by rw [h.cellAt _ (by omega), obs_at b l i hi], ⟨cur, hg⟩, hcut⟩
def topU : List Mb → ByteArray
  | [] => ⟨#[]⟩
  | b :: _ => b.u
set_option maxRecDepth 10000 in
set_option maxHeartbeats 3200000 in
theorem upTo_is {B : Nat} {W : World} {g : Nat} {pa : Option Addr} {n pc i : Nat} {oa : Option Addr} {on oc : Nat} {ta : Option Addr} {tn tc : Nat} {wh dp : Bool} {ms : List Mb} (h : Bk 84 W g (pcs pa n pc i oa on oc ta tn tc wh dp)) (hr : W.ownsRow B 129 7 (.slice oa on oc) on (obs ms)) (hn : on = ms.length) (hm : on ≤ 1000) :
    Calls Tryz.prog 102 #[.pointer (some ⟨g, 0, none⟩)] W (ValEnd (.string (topU ms)) W) := by
  have c2 := Pc.c2 h
  cases ms with
  | nil =>
    obtain rfl : on = 0 := hn
    clear h hr
    go_enter Tryz.func102, Tryz.ntmps102
    go_wp2_with fail
    go_ret
    exact ⟨rfl, Below.refl _ _⟩
  | cons b l =>
    obtain ⟨q, rfl, _, _, _, hc, _, _⟩ := own_top hr hn
    obtain ⟨m, hm9⟩ : ∃ m, m = l.length := ⟨_, rfl⟩
    rw [← hm9] at hc
    obtain rfl : on = m + 1 := by rw [hm9]; exact hn
    have cu : W.cell? ⟨q, m * 7 + 6, none⟩ = some (.string b.u) := hc 6 (by omega)
    have w1 : IntKind.i64.wrap ((m : Int) + 1 - 1) = (m : Int) := by rw [Int.add_sub_cancel]; exact wrn (by omega) (by omega)
    have w2 : IntKind.i64.wrap (m : Int) = (m : Int) := wrn (by omega) (by omega)
    have w3 : IntKind.i64.wrap ((m : Int) + 1) = (m : Int) + 1 := wrn (by omega) (by omega)
    have e1 : (((m : Int) + 1) == 0) = false := beq_eq_false_iff_ne.2 (by omega)
    clear h hr hn hc hm9
    show Calls _ _ _ _ (ValEnd (.string b.u) W)
    go_enter Tryz.func102, Tryz.ntmps102
    go_wp2_with fail
    go_quiet (fail)
    go_wp2_with fail
    go_ret
    exact ⟨rfl, below_drewN (Below.refl _ _) _⟩
end Go.Proofs.YtljkmdmbndjngaaGreat
/-
  The parser's small steps: last, begin.
-/
namespace Go.Proofs.YtljkmdmbndjngaaGreat
set_option linter.unusedVariables false
set_option linter.unusedSimpArgs false
open Go.RowKit

def zeroB : List Value := [.int .i64 0, .string ⟨#[]⟩, .string ⟨#[]⟩, .string ⟨#[]⟩, .slice none 0 0, .slice none 0 0, .string ⟨#[]⟩]
set_option maxRecDepth 10000 in
set_option maxHeartbeats 6400000 in
theorem last_is {B : Nat} {W : World} {g : Nat} {pa : Option Addr} {n pc i : Nat} {oa : Option Addr} {on oc : Nat} {ta : Option Addr} {tn tc : Nat} {wh dp : Bool} {b : Mb} {l : List Mb} (h : Bk 84 W g (pcs pa n pc i oa on oc ta tn tc wh dp)) (hr : W.ownsRow B 129 7 (.slice oa on oc) on (obs (b :: l))) (hn : on = l.length + 1) (hm : on ≤ 1000) :
    Calls Tryz.prog 114 #[.pointer (some ⟨g, 0, none⟩)] W fun e W' => e = .returned b.val ∧ Ex [g] W W' ∧ Bk 84 W' g (pcs pa n pc i oa l.length oc ta tn tc wh dp) ∧ W'.ownsRow B 129 7 (.slice oa l.length oc) l.length (obs l) := by
  obtain ⟨q, rfl, hBq, hoc, hocm, hc, ⟨cur, hcur⟩, hcut⟩ := own_top hr hn
  have hqg : q ≠ g := by
    rintro rfl
    rw [show W.heap[q]? = _ from h] at hcur
    cases hcur
  have hgl := h.lt
  have hql : q < W.heap.size := (Array.getElem?_eq_some_iff.1 hcur).1
  obtain ⟨m, hm9⟩ : ∃ m, m = l.length := ⟨_, rfl⟩
  rw [← hm9] at hc hn hcut ⊢
  subst hn
  obtain ⟨⟨dk, dv, da, dx, dg, dm, dc, dn⟩, ka, kn, kc, kd, u, lo⟩ := b
  have w1 : IntKind.i64.wrap ((m : Int) + 1 - 1) = (m : Int) := by rw [Int.add_sub_cancel]; exact wrn (by omega) (by omega)
  have w2 : IntKind.i64.wrap (m : Int) = (m : Int) := wrn (by omega) (by omega)
  have w3 : IntKind.i64.wrap ((m : Int) + 1) = (m : Int) + 1 := wrn (by omega) (by omega)
  have hb0 := box_below W (.cells #[.int .i64 0, .string ⟨#[]⟩, .string ⟨#[]⟩, .string ⟨#[]⟩, .slice none 0 0, .slice none 0 0, .string ⟨#[]⟩] 129)
  have hR := Bk.new 129 W zeroB
  have hP := h.alloc (.cells zeroB.toArray 129)
  have c2 : (W.alloc (.cells zeroB.toArray 129)).cell? ⟨g, 2, none⟩ = _ := Pc.c2 hP
  have g7 : ∀ i x, i < 7 → (Mb.mk ⟨dk, dv, da, dx, dg, dm, dc, dn⟩ ka kn kc kd u lo).cells[i]? = some x → (W.alloc (.cells zeroB.toArray 129)).cell? ⟨q, m * 7 + i, none⟩ = some x := fun i x hi hx => (hb0.cell (p := ⟨q, m * 7 + i, none⟩) hql).trans ((hc i hi).trans hx)
  have k0 := g7 0 _ (by omega) rfl
  have k1 := g7 1 _ (by omega) rfl
  have k2 := g7 2 _ (by omega) rfl
  have k3 := g7 3 _ (by omega) rfl
  have k4 := g7 4 _ (by omega) rfl
  have k5 := g7 5 _ (by omega) rfl
  have k6 := g7 6 _ (by omega) rfl
  rw [Nat.add_zero] at k0
  have hbx := box_below (W.alloc (.cells zeroB.toArray 129)) (.cells zeroB.toArray 129)
  have lt1 : ∀ {p : Addr} {x : Value}, (W.alloc (.cells zeroB.toArray 129)).cell? p = some x → ((W.alloc (.cells zeroB.toArray 129)).alloc (.cells zeroB.toArray 129)).cell? p = some x := fun h => (hbx.cell (World.block_lt_of_cell? _ _ h)).trans h
  have c2' := lt1 c2
  have k0' := lt1 k0
  have k1' := lt1 k1
  have k2' := lt1 k2
  have k3' := lt1 k3
  have k4' := lt1 k4
  have k5' := lt1 k5
  have k6' := lt1 k6
  have HM := Lib.hid hm9
  have HP := Lib.hid h
  have HC := Lib.hid hcut
  clear g7 hc hcur hr hP h hcut hm9 lt1 hbx
  show Calls _ _ _ _ (fun e W' => e = .returned (.agg #[.int .i64 dk, .string dv, .string da, .string dx, .slice dg dm dc, .slice ka kn kc, .string u]) ∧ _)
  rw [show zeroB.toArray = #[.int .i64 0, .string ⟨#[]⟩, .string ⟨#[]⟩, .string ⟨#[]⟩, .slice none 0 0, .slice none 0 0, .string ⟨#[]⟩] from rfl] at c2 k0 k1 k2 k3 k4 k5 k6 c2' k0' k1' k2' k3' k4' k5' k6'
  go_enter Tryz.func114, Tryz.ntmps114
  go_wp2_with fail
  go_region
  clear c2 k0 k1 k2 k3 k4 k5 k6 c2' k0' k1' k2' k3' k4' k5' k6'
  have hx1 := (((Ex.refl [g] W).alloc (.cells zeroB.toArray 129)).alloc (.cells [.int .i64 dk, .string dv, .string da, .string dx, .slice dg dm dc, .slice ka kn kc, .string u].toArray 129)).drew
  have s1 : (W.alloc (.cells zeroB.toArray 129)).heap.size = W.heap.size + 1 := by simp
  have hT := (Bk.new' 129 (W.alloc (.cells zeroB.toArray 129)) s1.symm [.int .i64 dk, .string dv, .string da, .string dx, .slice dg dm dc, .slice ka kn kc, .string u]).drew
  have hR1 := (hR.alloc (.cells [.int .i64 dk, .string dv, .string da, .string dx, .slice dg dm dc, .slice ka kn kc, .string u].toArray 129)).drew
  have hP1 := ((HP.out.alloc (.cells zeroB.toArray 129)).alloc (.cells [.int .i64 dk, .string dv, .string da, .string dx, .slice dg dm dc, .slice ka kn kc, .string u].toArray 129)).drew
  have hC1 := (HC.out.alloc (.cells zeroB.toArray 129)).alloc (.cells [.int .i64 dk, .string dv, .string da, .string dx, .slice dg dm dc, .slice ka kn kc, .string u].toArray 129)
  rw [show zeroB.toArray = #[.int .i64 0, .string ⟨#[]⟩, .string ⟨#[]⟩, .string ⟨#[]⟩, .slice none 0 0, .slice none 0 0, .string ⟨#[]⟩] from rfl, show [Value.int .i64 dk, .string dv, .string da, .string dx, .slice dg dm dc, .slice ka kn kc, .string u].toArray = #[.int .i64 dk, .string dv, .string da, .string dx, .slice dg dm dc, .slice ka kn kc, .string u] from rfl] at hx1 hT hR1 hP1 hC1
  obtain ⟨w1, hw1⟩ : ∃ w1, w1 = ((W.alloc (.cells #[.int .i64 0, .string ⟨#[]⟩, .string ⟨#[]⟩, .string ⟨#[]⟩, .slice none 0 0, .slice none 0 0, .string ⟨#[]⟩] 129)).alloc (.cells #[.int .i64 dk, .string dv, .string da, .string dx, .slice dg dm dc, .slice ka kn kc, .string u] 129)).drew := ⟨_, rfl⟩
  have hC2 : w1.ownsRow B 129 7 (.slice (some ⟨q, 0, none⟩) m oc) m (obs l) := by rw [hw1]; exact hC1
  rw [← hw1] at hx1 hT hR1 hP1 ⊢
  clear hw1 hC1 hR hb0 s1
  have HX := Lib.hid hx1
  have HT := Lib.hid hT
  have HR := Lib.hid hR1
  have HP1 := Lib.hid hP1
  have HC2 := Lib.hid hC2
  have c2 := Pc.c2 hP1
  have fp2 := hP1.f 2
  have e3 : (m : Int) ≤ (oc : Int) := by omega
  clear hx1 hT hR1 hP1 hC2
  go_wp2_with fail
  go_region
  have hP2 := ((HP1.out.set 2 (.slice (some ⟨q, 0, none⟩) m oc))).drew
  have hT2 := (HT.out.setOther (p := ⟨g, 2, none⟩) (show W.heap.size + 1 ≠ g by omega) (.slice (some ⟨q, 0, none⟩) m oc)).drew
  have hR2 := (HR.out.setOther (p := ⟨g, 2, none⟩) (show W.heap.size ≠ g by omega) (.slice (some ⟨q, 0, none⟩) m oc)).drew
  have hx2 := (HX.out.setCell (p := ⟨g, 2, none⟩) (.inl List.mem_cons_self) (.slice (some ⟨q, 0, none⟩) m oc)).drew
  have hC3 := own_ex HC2.out (Ex.setCell (Ex.refl [g] w1) (p := ⟨g, 2, none⟩) (.inl List.mem_cons_self) (.slice (some ⟨q, 0, none⟩) m oc)).drew (fun k hk => by
    have hk : some q = some k := hk
    injection hk with hk
    subst hk
    simp [hqg])
  clear c2 fp2
  generalize (w1.setCell ⟨g, 2, none⟩ (.slice (some ⟨q, 0, none⟩) m oc)).drew = w2 at *
  have HX2 := Lib.hid hx2
  have HP2 := Lib.hid hP2
  have HC3 := Lib.hid hC3
  have HR2 := Lib.hid hR2
  have t0 := hT2.p0
  have t1 := hT2.p1
  have t2 := hT2.p2
  have t3 := hT2.p3
  have t4 := hT2.p4
  have t5 := hT2.p5
  have t6 := hT2.p6
  have r0 := hR2.p0
  have r1 := hR2.p1
  have r2 := hR2.p2
  have r3 := hR2.p3
  have r4 := hR2.p4
  have r5 := hR2.p5
  have r6 := hR2.p6
  have f0 := hR2.f 0
  have f1 := hR2.f 1
  have f2 := hR2.f 2
  have f3 := hR2.f 3
  have f4 := hR2.f 4
  have f5 := hR2.f 5
  have f6 := hR2.f 6
  clear hx2 hP2 hC3 hT2 hR2 HX HT HR HP1 HC2
  go_wp2_with fail
  have hR3 := ((((((HR2.out.set 0 (.int .i64 dk)).set 1 (.string dv)).set 2 (.string da)).set 3 (.string dx)).set 4 (.slice dg dm dc)).set 5 (.slice ka kn kc)).set 6 (.string u)
  have hne : g ≠ W.heap.size := by omega
  have hP3 := ((((((HP2.out.setOther (p := ⟨W.heap.size, 0, none⟩) hne (.int .i64 dk)).setOther (p := ⟨W.heap.size, 1, none⟩) hne (.string dv)).setOther (p := ⟨W.heap.size, 2, none⟩) hne (.string da)).setOther (p := ⟨W.heap.size, 3, none⟩) hne (.string dx)).setOther (p := ⟨W.heap.size, 4, none⟩) hne (.slice dg dm dc)).setOther (p := ⟨W.heap.size, 5, none⟩) hne (.slice ka kn kc)).setOther (p := ⟨W.heap.size, 6, none⟩) hne (.string u)
  have hX3 := ((((((HX2.out.setCell (p := ⟨W.heap.size, 0, none⟩) (.inr (Nat.le_refl _)) (.int .i64 dk)).setCell (p := ⟨W.heap.size, 1, none⟩) (.inr (Nat.le_refl _)) (.string dv)).setCell (p := ⟨W.heap.size, 2, none⟩) (.inr (Nat.le_refl _)) (.string da)).setCell (p := ⟨W.heap.size, 3, none⟩) (.inr (Nat.le_refl _)) (.string dx)).setCell (p := ⟨W.heap.size, 4, none⟩) (.inr (Nat.le_refl _)) (.slice dg dm dc)).setCell (p := ⟨W.heap.size, 5, none⟩) (.inr (Nat.le_refl _)) (.slice ka kn kc)).setCell (p := ⟨W.heap.size, 6, none⟩) (.inr (Nat.le_refl _)) (.string u)
  have hmem : ∀ i, (⟨W.heap.size, i, none⟩ : Addr).block ∈ [W.heap.size] := fun _ => List.mem_cons_self
  have hE := ((((((Ex.setCell (Ex.refl [W.heap.size] w2) (p := ⟨W.heap.size, 0, none⟩) (.inl (hmem 0)) (.int .i64 dk)).setCell (p := ⟨W.heap.size, 1, none⟩) (.inl (hmem 1)) (.string dv)).setCell (p := ⟨W.heap.size, 2, none⟩) (.inl (hmem 2)) (.string da)).setCell (p := ⟨W.heap.size, 3, none⟩) (.inl (hmem 3)) (.string dx)).setCell (p := ⟨W.heap.size, 4, none⟩) (.inl (hmem 4)) (.slice dg dm dc)).setCell (p := ⟨W.heap.size, 5, none⟩) (.inl (hmem 5)) (.slice ka kn kc)).setCell (p := ⟨W.heap.size, 6, none⟩) (.inl (hmem 6)) (.string u)
  have hC4 := own_ex HC3.out hE (fun k hk => by
    have hk : some q = some k := hk
    injection hk with hk
    subst hk
    simp only [List.mem_singleton]
    omega)
  have o0 := hR3.p0
  have o1 := hR3.p1
  have o2 := hR3.p2
  have o3 := hR3.p3
  have o4 := hR3.p4
  have o5 := hR3.p5
  have o6 := hR3.p6
  exact bodyPost_ret (v := .agg #[.int .i64 dk, .string dv, .string da, .string dx, .slice dg dm dc, .slice ka kn kc, .string u]) (by simp [results, Tryz.results114, go_sem, o0, o1, o2, o3, o4, o5, o6]) rfl ⟨rfl, hX3, hP3, hC4⟩
end Go.Proofs.YtljkmdmbndjngaaGreat
/-
  The parser's small steps: begin.
-/
namespace Go.Proofs.YtljkmdmbndjngaaGreat
set_option linter.unusedVariables false
set_option linter.unusedSimpArgs false
open Go.RowKit

/-- 'append(l, x)', x in a new block, l the call's own, as one step of a region that draws: any element. -/
theorem step_push_any {ops : Array Oper} {o : Oper} {a : Act} {K : Act → World → Prop} {Q : Exit → Act → World → Prop} {E : Prop} {w : World} (wr : World) (s x : Operand) (t e : TypeId) (z : Value) (size bytes : Nat)
    (hti : (Tryz.prog.info? e).map (fun i => (i.zero, i.size, i.bytes)) = some (some z, size, bytes)) (htu : Tryz.prog.underlying t = some (.slice e)) (hzs : z.cells.size = size) (hsz : 0 < size)
    (base : Nat) (av : Option Addr) (n cv : Nat) (xs news : List Value) (hl : news.length = size) (h1c : ∀ u ∈ news, u.oneCell' = true)
    (ho : o.op = .call { callee := .builtin .append, args := #[s, x], argTypes := #[t, t] }) (hgd : o.guard = none)
    (hs : a.eval s = .slice av n cv) (hx : a.eval x = .slice (some ⟨wr.heap.size, 0, none⟩) 1 1) (hh : w.heap = wr.heap.push (.cells news.toArray e)) (h1 : w.os = wr.os) (h2 : w.tape = wr.tape) (h3 : w.output = wr.output)
    (hown : wr.ownsRow base e size (.slice av n cv) n xs) (hbase : base ≤ wr.heap.size) (hn : n ≤ 5000) (hby : bytes ≤ 1000)
    (h : ∀ av' cv' w', w'.ownsRow base e size (.slice av' (n + 1) cv') (n + 1) (xs ++ news) → Ex (Value.slice av n cv).ownBlock.toList wr w' → K (a.put o.dst (.slice av' (n + 1) cv')) w') :
    if Region.wanted o (yielded ops a.tmps) = true then Oper.wp Tryz.prog o a w K Q else E := by
  obtain ⟨i0, hi, hz0, hz1, hz2⟩ := info_parts hti
  have hown2 : w.ownsRow base e size (.slice av n cv) n xs := by
    have h4 := hown.alloc (.cells news.toArray e)
    unfold World.ownsRow at h4 ⊢
    rw [hh]
    exact h4
  have hb2 : Ex (Value.slice av n cv).ownBlock.toList wr w := by
    have h4 := (Ex.refl (Value.slice av n cv).ownBlock.toList wr).alloc (.cells news.toArray e)
    exact ⟨h1, h2, h3, by rw [hh]; exact h4.size, fun k hk hs => by rw [hh]; exact h4.block k hk hs⟩
  have hbyt : (n + 1) * bytes ≤ 140737488355328 := Nat.le_trans (Nat.mul_le_mul (show n + 1 ≤ 5001 by omega) hby) (by decide)
  refine step_append_lies w hgd s x t ho base e i0 z size bytes htu hi hz0 hz1 hz2 hzs hsz _ _ _ hs hown2 ⟨wr.heap.size, 0, none⟩ 1 1 news hx (by rw [hl, Nat.one_mul]) ?_ h1c (by decide) (by unfold maxLen; omega) hbyt (by rw [hh, Array.size_push]; omega) _ rfl ?_
  · have h5 : w.heap[wr.heap.size]? = some (.cells news.toArray e (0, 0)) := by rw [hh]; simp
    intro j u hj
    rw [Go.WideShapes.add_plain, Nat.zero_add, cell_of_row _ _ j _ _ _ h5]
    simpa using hj
  · intro g cap w' o1 o2 _ _
    exact h _ _ w' o1 (hb2.grown o2 (fun q hq => .inl (by rw [hq]; simp)))
theorem mb_one (b : Mb) : ∀ u ∈ b.cells, u.oneCell' = true := by
  intro u hu
  have hu : u ∈ [Value.int .i64 b.d.k, .string b.d.v, .string b.d.a, .string b.d.x, .slice b.d.g b.d.m b.d.c, .slice b.ka b.kn b.kc, .string b.u] := hu
  simp only [List.mem_cons, List.not_mem_nil, or_false] at hu
  rcases hu with rfl | rfl | rfl | rfl | rfl | rfl | rfl <;> rfl
theorem own_not {W : World} {base e s n g : Nat} {v : Value} {xs : List Value} (h : W.ownsRow base e s v n xs) {cur : Array Value} {t : TypeId} {fr : Nat × Nat} (hg : W.heap[g]? = some (.cells cur t fr)) (ht : t ≠ e) : g ∉ v.ownBlock.toList := by
  intro hm
  rcases h.2 with ⟨rfl, _⟩ | ⟨k, cap, cur', rfl, _, h2, _⟩
  · cases hm
  · have : g = k := by simpa [Value.ownBlock] using hm
    subst this
    rw [hg] at h2
    cases h2
    exact ht rfl
set_option maxRecDepth 10000 in
set_option maxHeartbeats 6400000 in
theorem begin_is {B : Nat} {W : World} {g : Nat} {pa : Option Addr} {n pc i : Nat} {oa : Option Addr} {on oc : Nat} {ta : Option Addr} {tn tc : Nat} {wh dp : Bool} {l : List Mb} (b : Mb) (h : Bk 84 W g (pcs pa n pc i oa on oc ta tn tc wh dp)) (hr : W.ownsRow B 129 7 (.slice oa on oc) on (obs l)) (hB : B ≤ W.heap.size) (hm : on ≤ 1000) :
    Calls Tryz.prog 95 #[.pointer (some ⟨g, 0, none⟩), b.d.val, .string b.u, .slice b.ka b.kn b.kc] W fun e W' => e = .returned (.tuple #[]) ∧ Ex (g :: (Value.slice oa on oc).ownBlock.toList) W W' ∧ ∃ oa' oc', Bk 84 W' g (pcs pa n pc i oa' (on + 1) oc' ta tn tc wh dp) ∧ W'.ownsRow B 129 7 (.slice oa' (on + 1) oc') (on + 1) (obs (b :: l)) := by
  have HOB := Lib.hid (show obs (b :: l) = obs l ++ b.cells from rfl)
  have H1 := Lib.hid (mb_one b)
  obtain ⟨⟨dk, dv, da, dx, dg, dm, dc, dn⟩, ka, kn, kc, kd, u, lo⟩ := b
  have hgl := h.lt
  have hno := own_not hr h (by decide)
  have hb0 := box_below W (.cells #[.int .i64 dk, .string dv, .string da, .string dx, .slice dg dm dc] 37)
  have hN := Bk.new 37 W [.int .i64 dk, .string dv, .string da, .string dx, .slice dg dm dc]
  have hP := h.alloc (.cells #[.int .i64 dk, .string dv, .string da, .string dx, .slice dg dm dc] 37)
  have hR := own_below5 hr hb0
  have hX := (Ex.refl (g :: (Value.slice oa on oc).ownBlock.toList) W).alloc (.cells #[.int .i64 dk, .string dv, .string da, .string dx, .slice dg dm dc] 37)
  have hsz1 : B ≤ (W.alloc (.cells #[.int .i64 dk, .string dv, .string da, .string dx, .slice dg dm dc] 37)).heap.size := Nat.le_trans hB hb0.size
  have hne : (W.heap.size : Nat) ≠ g := by omega
  have hno2 := own_not hR hN (by decide)
  clear h hr hb0 hB
  show Calls _ _ #[.pointer (some ⟨g, 0, none⟩), .agg #[.int .i64 dk, .string dv, .string da, .string dx, .slice dg dm dc], .string u, .slice ka kn kc] W _
  go_enter Tryz.func95, Tryz.ntmps95
  go_wp2_with fail
  rw [show [Value.int .i64 dk, .string dv, .string da, .string dx, .slice dg dm dc].toArray = #[.int .i64 dk, .string dv, .string da, .string dx, .slice dg dm dc] from rfl] at hN
  obtain ⟨w1, hw1⟩ : ∃ w1, w1 = W.alloc (.cells #[.int .i64 dk, .string dv, .string da, .string dx, .slice dg dm dc] 37) := ⟨_, rfl⟩
  rw [← hw1] at hN hP hR hX hsz1 ⊢
  clear hw1
  have c2 := Pc.c2 hP
  have x0 := hN.p0
  have x1 := hN.p1
  have x2 := hN.p2
  have x3 := hN.p3
  have x4 := hN.p4
  have hl1 : W.heap.size < w1.heap.size := hN.lt
  have hg1 : g < w1.heap.size := hP.lt
  have hbx := box_below w1 (.cells #[.int .i64 dk, .string dv, .string da, .string dx, .slice dg dm dc, .slice ka kn kc, .string u] 129)
  have c2' := (hbx.cell (p := ⟨g, 2, none⟩) hg1).trans c2
  have x0' := (hbx.cell (p := ⟨W.heap.size, 0, none⟩) hl1).trans x0
  have x1' := (hbx.cell (p := ⟨W.heap.size, 1, none⟩) hl1).trans x1
  have x2' := (hbx.cell (p := ⟨W.heap.size, 2, none⟩) hl1).trans x2
  have x3' := (hbx.cell (p := ⟨W.heap.size, 3, none⟩) hl1).trans x3
  have x4' := (hbx.cell (p := ⟨W.heap.size, 4, none⟩) hl1).trans x4
  have HR := Lib.hid hR
  have HX := Lib.hid hX
  have HP := Lib.hid hP
  have HN := Lib.hid hN
  have HNO := Lib.hid (⟨hno, hno2⟩ : g ∉ (Value.slice oa on oc).ownBlock.toList ∧ W.heap.size ∉ (Value.slice oa on oc).ownBlock.toList)
  clear hR hX hP hN hno hno2 hbx
  have hn5 : on ≤ 5000 := by omega
  go_region_law (first
      | (refine step_push_any w1 (.tmp 12) (.tmp 17) 82 129 _ 7 120 infoBg Tryz.underlying82 rfl (by decide) B oa on oc (obs l) [.int .i64 dk, .string dv, .string da, .string dx, .slice dg dm dc, .slice ka kn kc, .string u] rfl H1.out rfl rfl rfl rfl rfl rfl rfl rfl HR.out hsz1 hn5 (by decide) ?_; intro oa' oc' w3 hown3 hex3; have hP3 := HP.out.ex hex3 HNO.out.1; have hN3 := HN.out.ex hex3 HNO.out.2; have y2 := Pc.c2 hP3; have f2 := hP3.f 2)
      | fail)
  all_goals
    clear c2 x0 x1 x2 x3 x4 c2' x0' x1' x2' x3' x4' y2 f2
    have hP4 := hP3.set 2 (.slice oa' (on + 1) oc')
    have hX4 := ((HX.out.trans (hex3.mono (fun k hk => List.mem_cons_of_mem _ hk))).setCell (p := ⟨g, 2, none⟩) (.inl List.mem_cons_self) (.slice oa' (on + 1) oc'))
    have hg3 : w3.heap[g]? = _ := hP3
    have hno3 := own_not hown3 hg3 (by decide)
    have hR4 := own_ex hown3 (Ex.setCell (Ex.refl [g] w3) (p := ⟨g, 2, none⟩) (.inl List.mem_cons_self) (.slice oa' (on + 1) oc')) (fun k hk => by
      intro hm
      rcases List.mem_singleton.1 hm with rfl
      exact hno3 (by rw [hk]; simp))
    have HP4 := Lib.hid hP4
    have HX4 := Lib.hid hX4
    have HR4 := Lib.hid hR4
    clear hP3 hN3 hex3 hown3 hg3 hno3 hP4 hX4 hR4
    go_wp2_with fail
    first | go_end0 | refine bodyPost_end (results_none rfl _ _ _) rfl ?_
    exact ⟨rfl, HX4.out, _, _, HP4.out, by rw [HOB.out]; exact HR4.out⟩
end Go.Proofs.YtljkmdmbndjngaaGreat

import Derived.Test.YtljkmdmbndjngaaMal
/-
  The parser's small steps: numbers, withAdv.
-/
namespace Go.Proofs.Ytljkmdmbndjngaa
set_option linter.unusedVariables false
set_option linter.unusedSimpArgs false
open Go.RowKit

def slN : Value → Nat
  | .slice _ n _ => n
  | _ => 0
theorem tok_f0 (k : Int) (x : ByteArray) (p : Int) (w : World) : (Instr.field 66 (.agg #[.int .i64 k, .string x, .int .i64 p]) 0).run Try.prog w = .ok (.int .i64 k) w := by kernel_rfl
theorem tok_f1 (k : Int) (x : ByteArray) (p : Int) (w : World) : (Instr.field 66 (.agg #[.int .i64 k, .string x, .int .i64 p]) 1).run Try.prog w = .ok (.string x) w := by kernel_rfl
theorem kd0_at {l : List Pk} {k : Nat} {q : Pk} {r : List Pk} (h : l.drop k = q :: r) : kd0 (l.drop k) = q.k := by rw [h]; rfl
set_option maxRecDepth 10000 in
set_option maxHeartbeats 3200000 in
theorem numbers_is (ts : List Tk) (hP : Pall ts) {W : World} {g : Nat} {pa : Option Addr} {n pc i : Nat} {oa : Option Addr} {on oc : Nat} {ta : Option Addr} {tn tc : Nat} {wh dp : Bool} (h : Bk 70 W g (pcs pa n pc i oa on oc ta tn tc wh dp)) (hq : Pq W pa ts) (hn : n = ts.length) (hm : n ≤ 300) (hi : i ≤ n) {N : Nat} (hN : N = ((nmL ((pks ts).drop i)).take 100).length) :
    Calls Try.prog 71 #[.pointer (some ⟨g, 0, none⟩)] W fun e W' => ∃ a c, e = .returned (.slice a N c) ∧ W'.ownsRow W.heap.size 9 1 (.slice a N c) N (valsS (numsL ((pks ts).drop i) N)) ∧ Bk 70 W' g (pcs pa n pc (i + N) oa on oc ta tn tc wh dp) ∧ Ex [g] W W' := by
  have K1 := Lib.hid (fun w k (hb : Bk 70 w g (pcs pa n pc (i + k) oa on oc ta tn tc wh dp)) (hx : Ex [g] W w) => by
    have := next_is ts hb (hn ▸ (hq.ex hx (Off.one h (by decide) (by decide) (by decide))).qs) hn hm
    rwa [← List.drop_drop] at this : ∀ w (k : Nat), Bk 70 w g (pcs pa n pc (i + k) oa on oc ta tn tc wh dp) → Ex [g] W w → Calls Try.prog 69 #[.pointer (some ⟨g, 0, none⟩)] w (NxEnd (((pks ts).drop i).drop k) w))
  have hl : ((pks ts).drop i).length = n - i := by rw [List.length_drop, pks_len, hn]
  have hT : ∀ q ∈ (pks ts).drop i, q.t.length ≤ 256 := fun q hq => (hP q (List.mem_of_mem_drop hq)).2
  have KN := Lib.hid (fun (t : List UInt8) (ht : t.length ≤ 256) w => Number_is t (by omega) w)
  generalize (pks ts).drop i = l at *
  have hNl := nmL_le l
  rw [List.length_take] at hN
  have HNN := Lib.hid (show N ≤ 100 ∧ N ≤ (nmL l).length ∧ (N < 100 → N = (nmL l).length) by omega)
  have hN1 : N ≤ 100 := by omega
  have HT := Lib.hid hT
  have hNn : i + N ≤ 300 := by omega
  have H0 := Lib.hid h
  clear hq hn hm hi hl hT hNl hN h
  go_enter Try.func71, Try.ntmps71
  go_wp2_with fail
  go_loopw [3] (fun nv wr => ∃ k : Nat, k ≤ N ∧ wr.ownsRow W.heap.size 9 1 nv k (valsS (numsL l k)) ∧ Bk 70 wr g (pcs pa n pc (i + k) oa on oc ta tn tc wh dp) ∧ Ex [g] W wr) (fun nv _ => 101 - slN nv)
  case atStart => exact ⟨0, by omega, World.ownsRow_nil _ _ _ _, H0.out, Ex.refl _ _⟩
  case round =>
    obtain ⟨k, hk, ho, hB, hx⟩ := hrel
    obtain ⟨a0, c0, rfl, hca, hcb, _⟩ := own_st ho
    by_cases hlt : k < N
    · obtain ⟨q, l', hq1, hq2, hq3⟩ := nmL_at (ts := l) (k := k) (by have := HNN.out; omega)
      have hqt : q.t.length ≤ 256 := HT.out q (List.mem_of_mem_drop (show q ∈ l.drop k by rw [hq1]; exact List.mem_cons_self))
      have A1 := Lib.hid (fun w (hb : Bk 70 w g (pcs pa n pc (i + k) oa on oc ta tn tc wh dp)) (hx : Ex [g] W w) => by
        have := K1.out w k hb hx
        rwa [hq1, show NxEnd (q :: l') w = fun e W' => ∃ p : Int, e = .returned (.agg #[.int .i64 1, .string (tx q.t), .int .i64 p]) ∧ Below w.heap.size w W' by unfold NxEnd; rw [show kd0 (q :: l') = q.k from rfl, hq2]; rfl] at this)
      have A3 := Lib.hid (fun w => KN.out q.t hqt w)
      have HNS := Lib.hid (numsL_succ (l := l) hq3)
      generalize tx q.t = T at *
      generalize numB q.t = nb at *
      have e1 : (k : Int) < 100 := by omega
      have HO := Lib.hid ho
      have HB := Lib.hid hB
      have HX := Lib.hid hx
      clear hqt hq1 hq2 hq3 ho hB hx
      go_wp2_with fail
      refine (A1.out wr HB.out HX.out).mono ?_
      rintro e w1 ⟨p1, rfl, hb1⟩
      have hf := tok_f0
      have hB1 := HB.out.on hb1
      have hx1 := HX.out.trans (Ex.of [g] hb1)
      have ho1 := own_below5 HO.out hb1
      clear hb1
      have HB1 := Lib.hid hB1
      have HX1 := Lib.hid hx1
      have HO1 := Lib.hid ho1
      clear hB1 hx1 ho1
      go_wp2_with fail
      refine (A1.out w1 HB1.out HX1.out).mono ?_
      rintro e w2 ⟨p2, rfl, hb2⟩
      have hf1 := tok_f1
      have hB2 := HB1.out.on hb2
      have hx2 := HX1.out.trans (Ex.of [g] hb2)
      have ho2 := own_below5 HO1.out hb2
      clear hb2
      have HB2 := Lib.hid hB2
      have HX2 := Lib.hid hx2
      have HO2 := Lib.hid ho2
      clear hB2 hx2 ho2
      go_wp2_with fail
      refine (A3.out w2).mono ?_
      rintro e w3 ⟨rfl, rfl⟩
      generalize tx (numT q.t) = TN at *
      clear A1 A3 K1
      have hsz := HX2.out.size
      have hBa := HB2.out.alloc (.cells #[.string TN] 9)
      have hxa := HX2.out.alloc (.cells #[.string TN] 9)
      have hglt := H0.out.lt
      obtain ⟨i0, hi0, hz0, hz1, hz2⟩ := info_parts infoS
      go_wp2_with (at_builtin; refine wpList_append_own _ rfl (.tmp 22) (.tmp 24) 34 rfl (W.heap.size) 9 i0 (.string ⟨#[]⟩) 1 16 Try.underlying34 hi0 hz0 hz1 hz2 rfl (by decide) _ _ _ rfl (HO2.out.alloc _) ⟨w2.heap.size, 0, none⟩ 1 1 [.string TN] rfl rfl ?c1 ?c2 ?c3 ?c4 ?c5 ?_)
      case c1 =>
        intro j u hj
        rw [Go.WideShapes.add_plain, Nat.zero_add]
        exact (Bk.new 9 w2 [.string TN]).c j |>.trans hj
      case c2 => intro u hu; rw [List.mem_singleton] at hu; rw [hu]; rfl
      case c3 => unfold maxLen; omega
      case c4 => omega
      case c5 => show _ ≤ (w2.heap.push _).size; simp; omega
      intro v1 w4 hown1 hg1 _
      have hnob : ∀ q, (Value.slice a0 k c0).ownBlock = some q → W.heap.size ≤ q := fun q hq => (HO2.out.lt q hq).1
      have hx4 := hxa.grown hg1 (fun q hq => .inr (hnob q hq))
      have hB4 : Bk 70 w4 g (pcs pa n pc (i + k) oa on oc ta tn tc wh dp) := (hg1.block g hBa.lt (fun e => by have := hnob g e.symm; omega)).trans hBa
      rw [show valsS (numsL l k) ++ [Value.string TN] = valsS (numsL l (k + 1)) by rw [HNS.out]; unfold valsS; rw [List.map_append]; rfl] at hown1
      obtain ⟨a1, c1, rfl, hc1, hc2, _⟩ := own_st hown1
      have c1' := Pc.c1 hB4
      have f1 := hB4.f 1
      have w3 : IntKind.i64.wrap (((i + k : Nat) : Int) + 1) = ((i + k : Nat) : Int) + 1 := wrn (by omega) (by omega)
      have HO4 := Lib.hid hown1
      have HB4 := Lib.hid hB4
      have HX4 := Lib.hid hx4
      clear hnob hx4 hB4 hown1 hg1 hBa hxa
      go_wp2_with fail
      have hB5 : Bk 70 (w4.setCell ⟨g, 1, none⟩ (.int .i64 (((i + k : Nat) : Int) + 1))) g (pcs pa n pc (i + (k + 1)) oa on oc ta tn tc wh dp) := by
        have := HB4.out.set 1 (.int .i64 (((i + k : Nat) : Int) + 1))
        rwa [show (pcs pa n pc (i + k) oa on oc ta tn tc wh dp).set 1 (.int .i64 (((i + k : Nat) : Int) + 1)) = pcs pa n pc (i + (k + 1)) oa on oc ta tn tc wh dp by unfold pcs; rw [show ((i + (k + 1) : Nat) : Int) = ((i + k : Nat) : Int) + 1 by omega]; rfl] at this
      have hx5 := HX4.out.setCell (p := ⟨g, 1, none⟩) (.inl List.mem_cons_self) (.int .i64 (((i + k : Nat) : Int) + 1))
      have ho5 := (own_ex HO4.out (Ex.setCell (Ex.refl [g] w4) (p := ⟨g, 1, none⟩) (.inl List.mem_cons_self) (.int .i64 (((i + k : Nat) : Int) + 1))) (fun q hq hm => by
        rcases List.mem_singleton.1 hm with rfl
        have := (HO4.out.lt q hq).1
        omega))
      refine ⟨⟨k + 1, by omega, ho5, ?_, hx5⟩, by simp [slN]; omega⟩
      exact hB5
    · obtain rfl : k = N := by omega
      have HO := Lib.hid ho
      have HB := Lib.hid hB
      have HX := Lib.hid hx
      by_cases h100 : k < 100
      · have A1 := K1.out wr k hB hx
        have hne : kd0 (l.drop k) ≠ 1 := by
          have := HNN.out.2.2 h100
          rw [this]
          exact fun e => nmL_stop ((kd0_yes (by decide)).1 e)
        unfold NxEnd at A1
        generalize kd0 (l.drop k) = kk at *
        generalize tx (tx0 (l.drop k)) = TT at *
        have ek : (kk == 1) = false := beq_eq_false_iff_ne.2 hne
        have e1 : (k : Int) < 100 := by omega
        have HA := Lib.hid A1
        clear A1 ho hB hx hne K1 hlt
        go_wp2_with fail
        refine HA.out.mono ?_
        rintro e w1 ⟨p1, rfl, hb1⟩
        have hf := tok_f0
        have hB1 := HB.out.on hb1
        have hx1 := HX.out.trans (Ex.of [g] hb1)
        have ho1 := own_below5 HO.out hb1
        clear hb1
        have HB1 := Lib.hid hB1
        have HX1 := Lib.hid hx1
        have HO1 := Lib.hid ho1
        clear hB1 hx1 ho1
        go_wp2_with fail
        go_ret
        exact ⟨_, _, rfl, HO1.out, HB1.out, HX1.out⟩
      · have e1 : ¬ (k : Int) < 100 := by omega
        clear ho hB hx K1 hlt
        go_wp2_with fail
        go_ret
        exact ⟨_, _, rfl, HO.out, HB.out, HX.out⟩
end Go.Proofs.Ytljkmdmbndjngaa
/-
  The parser's withAdv.
-/
namespace Go.Proofs.Ytljkmdmbndjngaa
set_option linter.unusedVariables false
set_option linter.unusedSimpArgs false
open Go.RowKit

/-- Is an adverb next that a verb of a kind may have? -/
def hasA (k : Int) (l : List Pk) : Bool := decide (kd0 l = 5) && (advs k).any fun c => tx0 l == [c]
def advA (k : Int) (l : List Pk) : List UInt8 := if hasA k l then tx0 l else []
def advN (k : Int) (l : List Pk) : Nat := if hasA k l then 1 else 0
theorem hasA_one {k : Int} {l : List Pk} {c : UInt8} (h5 : kd0 l = 5) (hc : tx0 l = [c]) : decide (0 ≤ Lib.indexByte (advs k) c) = hasA k l := by
  unfold hasA
  rw [h5, hc]
  refine Bool.eq_iff_iff.2 ?_
  have h := adv_one c (advs k)
  rw [show advB ⟨#[c]⟩ (advs k) = (advs k).any fun d => [c] == [d] from Bool.false_or _] at h
  rw [decide_eq_true_iff, indexByte_nn, ← h]
  simp
theorem hasA_no {k : Int} {l : List Pk} (h5 : kd0 l ≠ 5) : hasA k l = false := by unfold hasA; rw [decide_eq_false h5]; rfl
section
variable {t : TypeId} {W : World} {g : Nat}
theorem Bk.set5 {c0 c1 c2 c3 c4 : Value} (h : Bk t W g [c0, c1, c2, c3, c4]) (u0 u1 u2 u3 u4 : Value) : Bk t (((((W.setCell ⟨g, 0, none⟩ u0).setCell ⟨g, 1, none⟩ u1).setCell ⟨g, 2, none⟩ u2).setCell ⟨g, 3, none⟩ u3).setCell ⟨g, 4, none⟩ u4) g [u0, u1, u2, u3, u4] := ((((h.set 0 u0).set 1 u1).set 2 u2).set 3 u3).set 4 u4
theorem Bk.far5 {cs : List Value} {k : Nat} (h : Bk t W g cs) (hk : g ≠ k) (u0 u1 u2 u3 u4 : Value) : Bk t (((((W.setCell ⟨k, 0, none⟩ u0).setCell ⟨k, 1, none⟩ u1).setCell ⟨k, 2, none⟩ u2).setCell ⟨k, 3, none⟩ u3).setCell ⟨k, 4, none⟩ u4) g cs := ((((h.setOther (p := ⟨k, 0, none⟩) hk u0).setOther (p := ⟨k, 1, none⟩) hk u1).setOther (p := ⟨k, 2, none⟩) hk u2).setOther (p := ⟨k, 3, none⟩) hk u3).setOther (p := ⟨k, 4, none⟩) hk u4
theorem Ex.set5 {S : List Nat} {w : World} {k : Nat} (h : Ex S w W) (hk : w.heap.size ≤ k) (u0 u1 u2 u3 u4 : Value) : Ex S w (((((W.setCell ⟨k, 0, none⟩ u0).setCell ⟨k, 1, none⟩ u1).setCell ⟨k, 2, none⟩ u2).setCell ⟨k, 3, none⟩ u3).setCell ⟨k, 4, none⟩ u4) := ((((h.setCell (p := ⟨k, 0, none⟩) (.inr hk) u0).setCell (p := ⟨k, 1, none⟩) (.inr hk) u1).setCell (p := ⟨k, 2, none⟩) (.inr hk) u2).setCell (p := ⟨k, 3, none⟩) (.inr hk) u3).setCell (p := ⟨k, 4, none⟩) (.inr hk) u4
end
/-- One part on. -/
theorem Bk.step {W : World} {g : Nat} {pa : Option Addr} {n pc i : Nat} {oa : Option Addr} {on oc : Nat} {ta : Option Addr} {tn tc : Nat} {wh dp : Bool} (h : Bk 70 W g (pcs pa n pc i oa on oc ta tn tc wh dp)) : Bk 70 (W.setCell ⟨g, 1, none⟩ (.int .i64 ((i : Int) + 1))) g (pcs pa n pc (i + 1) oa on oc ta tn tc wh dp) := h.set 1 _
def AdEnd (k : Int) (l : List Pk) (v x : ByteArray) (ng : Option Addr) (nm nc : Nat) (g : Nat) (pa : Option Addr) (n pc i : Nat) (oa : Option Addr) (on oc : Nat) (ta : Option Addr) (tn tc : Nat) (wh dp : Bool) (W : World) (e : Ending) (W' : World) : Prop :=
  e = .returned (.agg #[.int .i64 k, .string v, .string (tx (advA k l)), .string x, .slice ng nm nc]) ∧ Bk 70 W' g (pcs pa n pc (i + advN k l) oa on oc ta tn tc wh dp) ∧ Ex [g] W W'
set_option maxRecDepth 10000 in
set_option maxHeartbeats 3200000 in
theorem withAdv_3 (ts : List Tk) (hP : Pall ts) {W : World} {g : Nat} {pa : Option Addr} {n pc i : Nat} {oa : Option Addr} {on oc : Nat} {ta : Option Addr} {tn tc : Nat} {wh dp : Bool} (h : Bk 70 W g (pcs pa n pc i oa on oc ta tn tc wh dp)) (hq : Pq W pa ts) (hn : n = ts.length) (hm : n ≤ 300) (hi : i ≤ n) (v x : ByteArray) (ng : Option Addr) (nm nc : Nat) :
    Calls Try.prog 83 #[.pointer (some ⟨g, 0, none⟩), .agg #[.int .i64 3, .string v, .string ⟨#[]⟩, .string x, .slice ng nm nc]] W (AdEnd 3 ((pks ts).drop i) v x ng nm nc g pa n pc i oa on oc ta tn tc wh dp W) := by
  have hb0 := (box_below W (.cells #[.int .i64 3, .string v, .string ⟨#[]⟩, .string x, .slice ng nm nc] 36)).alloc (by simp) (.cells #[.int .i64 0, .string ⟨#[]⟩, .string ⟨#[]⟩, .string ⟨#[]⟩, .slice none 0 0] 36)
  have s1 : (W.alloc (.cells #[.int .i64 3, .string v, .string ⟨#[]⟩, .string x, .slice ng nm nc] 36)).heap.size = W.heap.size + 1 := by simp
  have hA := (Bk.new 36 W [.int .i64 3, .string v, .string ⟨#[]⟩, .string x, .slice ng nm nc]).alloc (.cells #[.int .i64 0, .string ⟨#[]⟩, .string ⟨#[]⟩, .string ⟨#[]⟩, .slice none 0 0] 36)
  have hR := Bk.new' 36 (W.alloc (.cells #[.int .i64 3, .string v, .string ⟨#[]⟩, .string x, .slice ng nm nc] 36)) s1.symm [.int .i64 0, .string ⟨#[]⟩, .string ⟨#[]⟩, .string ⟨#[]⟩, .slice none 0 0]
  have hB := (h.alloc (.cells #[.int .i64 3, .string v, .string ⟨#[]⟩, .string x, .slice ng nm nc] 36)).alloc (.cells #[.int .i64 0, .string ⟨#[]⟩, .string ⟨#[]⟩, .string ⟨#[]⟩, .slice none 0 0] 36)
  have hB : Bk 70 ((W.alloc (.cells #[.int .i64 3, .string v, .string ⟨#[]⟩, .string x, .slice ng nm nc] 36)).alloc (.cells #[.int .i64 0, .string ⟨#[]⟩, .string ⟨#[]⟩, .string ⟨#[]⟩, .slice none 0 0] 36)) g (pcs pa n pc i oa on oc ta tn tc wh dp) := hB
  rw [show [Value.int .i64 3, .string v, .string ⟨#[]⟩, .string x, .slice ng nm nc].toArray = #[.int .i64 3, .string v, .string ⟨#[]⟩, .string x, .slice ng nm nc] from rfl] at hA
  rw [show [Value.int .i64 0, .string ⟨#[]⟩, .string ⟨#[]⟩, .string ⟨#[]⟩, .slice none 0 0].toArray = #[.int .i64 0, .string ⟨#[]⟩, .string ⟨#[]⟩, .string ⟨#[]⟩, .slice none 0 0] from rfl] at hR
  have K1 := Lib.hid (next_is ts hB (hn ▸ (hq.ex (Ex.of [] hb0) (Off.none _)).qs) hn hm)
  have hgW : g < W.heap.size := h.lt
  have hi3 : i ≤ 300 := by omega
  have h5 : kd0 ((pks ts).drop i) = 5 → ∃ c, tx0 ((pks ts).drop i) = [c] := by
    intro h5
    cases e : (pks ts).drop i with
    | nil => rw [e] at h5; cases h5
    | cons q l =>
      rw [e] at h5
      exact ps_one (hP.at e).1 (.inl h5)
  have H5 := Lib.hid h5
  clear h5
  generalize (pks ts).drop i = l at *
  have x0 := hA.p0
  have HA := Lib.hid hA
  have HR := Lib.hid hR
  have HB := Lib.hid hB
  have HB0 := Lib.hid hb0
  clear hA hR hB hb0 s1 h hq hn hm hi
  go_enter Try.func83, Try.ntmps83
  go_wp2_with fail
  refine K1.out.mono ?_
  rintro e w2 ⟨p1, rfl, hb2⟩
  have hA2 := HA.out.on hb2
  have hR2 := HR.out.on hb2
  have hB2 := HB.out.on hb2
  have hbb := HB0.out.trans (hb2.mono HB0.out.size)
  have hX2 := (Ex.of [g] hbb).alloc (.cells #[.int .i64 (kd0 l), .string (tx (tx0 l)), .int .i64 p1] 66)
  have hA3 := hA2.alloc (.cells #[.int .i64 (kd0 l), .string (tx (tx0 l)), .int .i64 p1] 66)
  have hR3 := hR2.alloc (.cells #[.int .i64 (kd0 l), .string (tx (tx0 l)), .int .i64 p1] 66)
  have hB3 := hB2.alloc (.cells #[.int .i64 (kd0 l), .string (tx (tx0 l)), .int .i64 p1] 66)
  have hT3 := Bk.new 66 w2 [.int .i64 (kd0 l), .string (tx (tx0 l)), .int .i64 p1]
  rw [show [Value.int .i64 (kd0 l), .string (tx (tx0 l)), .int .i64 p1].toArray = #[.int .i64 (kd0 l), .string (tx (tx0 l)), .int .i64 p1] from rfl] at hT3
  have hgt : g < w2.heap.size := hB2.lt
  have hat : W.heap.size + 1 < w2.heap.size := hR2.lt
  clear K1 x0 HA HR HB HB0 hb2 hA2 hR2 hB2 hbb
  have t0 := hT3.p0
  have t1 := hT3.p1
  have HA3 := Lib.hid hA3
  have HR3 := Lib.hid hR3
  have HB3 := Lib.hid hB3
  have HT3 := Lib.hid hT3
  have HX3 := Lib.hid hX2
  clear hA3 hR3 hB3 hT3 hX2
  go_upto_region 5 with fail
  generalize w2.alloc (.cells #[.int .i64 (kd0 l), .string (tx (tx0 l)), .int .i64 p1] 66) = w3 at *
  by_cases h5 : kd0 l = 5
  · obtain ⟨c, hc⟩ := H5.out h5
    have KC := fun w => Try.strings_Contains_one ⟨#[39, 47, 92, 96]⟩ c w
    rw [show (ByteArray.mk #[39, 47, 92, 96]).data.toList = advs 3 from rfl, hasA_one h5 hc] at KC
    have hTT : tx (tx0 l) = ⟨#[c]⟩ := by rw [hc]; rfl
    replace KC := Lib.hid KC
    have hTA : tx (advA 3 l) = if hasA 3 l then ⟨#[c]⟩ else ⟨#[]⟩ := by unfold advA; split <;> first | exact hTT | rfl
    have hTN : advN 3 l = if hasA 3 l then 1 else 0 := rfl
    have HTA := Lib.hid hTA
    have HTN := Lib.hid hTN
    clear hTA hTN
    rw [hTT] at t1 HT3 ⊢
    rw [h5] at t0 HT3
    generalize hasA 3 l = hv at *
    clear h5 hc hTT H5
    go_wp2_with fail
    refine (KC.out _).mono ?_
    rintro e w8 ⟨rfl, hw8⟩
    rw [hw8]
    clear KC hw8 w8
    cases hv with
    | true =>
      have c1 := Pc.c1 HB3.out
      have f1 := HB3.out.f 1
      have w9 : IntKind.i64.wrap ((i : Int) + 1) = (i : Int) + 1 := wrn (by omega) (by omega)
      go_upto_region 7 with fail
      have HB4 := Lib.hid HB3.out.step
      have hT4 := HT3.out.setOther (p := ⟨g, 1, none⟩) (show w2.heap.size ≠ g by omega) (.int .i64 ((i : Int) + 1))
      have hA4 := HA3.out.setOther (p := ⟨g, 1, none⟩) (show W.heap.size ≠ g by omega) (.int .i64 ((i : Int) + 1))
      have HR4 := Lib.hid (HR3.out.setOther (p := ⟨g, 1, none⟩) (show W.heap.size + 1 ≠ g by omega) (.int .i64 ((i : Int) + 1)))
      have HX4 := Lib.hid (HX3.out.setCell (p := ⟨g, 1, none⟩) (.inl List.mem_cons_self) (.int .i64 ((i : Int) + 1)))
      clear c1 f1 t0 t1 HB3 HT3 HA3 HR3 HX3
      generalize w3.setCell ⟨g, 1, none⟩ (.int .i64 ((i : Int) + 1)) = w4 at *
      have t1 := hT4.p1
      have a2 := hA4.p2
      have f2 := hA4.f 2
      have HA4 := Lib.hid hA4
      clear hA4 hT4
      go_upto_region 8 with fail
      have hA5 : Bk 36 _ W.heap.size [.int .i64 3, .string v, .string ⟨#[c]⟩, .string x, .slice ng nm nc] := HA4.out.set 2 (.string ⟨#[c]⟩)
      have hR5 := HR4.out.setOther (p := ⟨W.heap.size, 2, none⟩) (show W.heap.size + 1 ≠ W.heap.size by omega) (.string ⟨#[c]⟩)
      have HB5 := Lib.hid (HB4.out.setOther (p := ⟨W.heap.size, 2, none⟩) (show g ≠ W.heap.size by omega) (.string ⟨#[c]⟩))
      have HX5 := Lib.hid (HX4.out.setCell (p := ⟨W.heap.size, 2, none⟩) (.inr (Nat.le_refl _)) (.string ⟨#[c]⟩))
      clear t1 a2 f2 HA4 HR4 HB4 HX4
      generalize w4.setCell ⟨W.heap.size, 2, none⟩ (.string ⟨#[c]⟩) = w5 at *
      have a0 := hA5.p0
      have a1 := hA5.p1
      have a2 := hA5.p2
      have a3 := hA5.p3
      have a4 := hA5.p4
      have r0 := hR5.p0
      have r1 := hR5.p1
      have r2 := hR5.p2
      have r3 := hR5.p3
      have r4 := hR5.p4
      have f0 := hR5.f 0
      have f1 := hR5.f 1
      have f2 := hR5.f 2
      have f3 := hR5.f 3
      have f4 := hR5.f 4
      have HR5 := Lib.hid hR5
      clear hA5 hR5
      go_wp2_with fail
      have hN := HR5.out.set5 (.int .i64 3) (.string v) (.string ⟨#[c]⟩) (.string x) (.slice ng nm nc)
      have z0 := hN.p0
      have z1 := hN.p1
      have z2 := hN.p2
      have z3 := hN.p3
      have z4 := hN.p4
      exact bodyPost_ret (v := .agg #[.int .i64 3, .string v, .string ⟨#[c]⟩, .string x, .slice ng nm nc]) (by simp [results, Try.results83, go_sem, z0, z1, z2, z3, z4]) rfl ⟨by rw [HTA.out] <;> rfl, by rw [HTN.out]; exact HB5.out.far5 (by omega) _ _ _ _ _, HX5.out.set5 (by omega) _ _ _ _ _⟩
    | false =>
      go_upto_region 8 with fail
      have hA5 := HA3.out
      have hR5 := HR3.out
      have HB5 := Lib.hid HB3.out
      have HX5 := Lib.hid HX3.out
      clear t0 t1 HA3 HR3 HB3 HX3 HT3
      have a0 := hA5.p0
      have a1 := hA5.p1
      have a2 := hA5.p2
      have a3 := hA5.p3
      have a4 := hA5.p4
      have r0 := hR5.p0
      have r1 := hR5.p1
      have r2 := hR5.p2
      have r3 := hR5.p3
      have r4 := hR5.p4
      have f0 := hR5.f 0
      have f1 := hR5.f 1
      have f2 := hR5.f 2
      have f3 := hR5.f 3
      have f4 := hR5.f 4
      have HR5 := Lib.hid hR5
      clear hA5 hR5
      go_wp2_with fail
      have hN := HR5.out.set5 (.int .i64 3) (.string v) (.string ⟨#[]⟩) (.string x) (.slice ng nm nc)
      have z0 := hN.p0
      have z1 := hN.p1
      have z2 := hN.p2
      have z3 := hN.p3
      have z4 := hN.p4
      exact bodyPost_ret (v := .agg #[.int .i64 3, .string v, .string ⟨#[]⟩, .string x, .slice ng nm nc]) (by simp [results, Try.results83, go_sem, z0, z1, z2, z3, z4]) rfl ⟨by rw [HTA.out] <;> rfl, by rw [HTN.out]; exact HB5.out.far5 (by omega) _ _ _ _ _, HX5.out.set5 (by omega) _ _ _ _ _⟩
  · have hTA : tx (advA 3 l) = ⟨#[]⟩ := by unfold advA; rw [hasA_no h5]; rfl
    have hTN : advN 3 l = 0 := by unfold advN; rw [hasA_no h5]; rfl
    have HTA := Lib.hid hTA
    have HTN := Lib.hid hTN
    clear hTA hTN
    have e5 : (kd0 l == 5) = false := beq_eq_false_iff_ne.2 h5
    clear H5
    generalize kd0 l = k9 at *
    generalize tx (tx0 l) = T9 at *
    go_upto_region 8 with fail
    have hA5 := HA3.out
    have hR5 := HR3.out
    have HB5 := Lib.hid HB3.out
    have HX5 := Lib.hid HX3.out
    clear t0 t1 HA3 HR3 HB3 HX3 HT3
    have a0 := hA5.p0
    have a1 := hA5.p1
    have a2 := hA5.p2
    have a3 := hA5.p3
    have a4 := hA5.p4
    have r0 := hR5.p0
    have r1 := hR5.p1
    have r2 := hR5.p2
    have r3 := hR5.p3
    have r4 := hR5.p4
    have f0 := hR5.f 0
    have f1 := hR5.f 1
    have f2 := hR5.f 2
    have f3 := hR5.f 3
    have f4 := hR5.f 4
    have HR5 := Lib.hid hR5
    clear hA5 hR5
    go_wp2_with fail
    have hN := HR5.out.set5 (.int .i64 3) (.string v) (.string ⟨#[]⟩) (.string x) (.slice ng nm nc)
    have z0 := hN.p0
    have z1 := hN.p1
    have z2 := hN.p2
    have z3 := hN.p3
    have z4 := hN.p4
    exact bodyPost_ret (v := .agg #[.int .i64 3, .string v, .string ⟨#[]⟩, .string x, .slice ng nm nc]) (by simp [results, Try.results83, go_sem, z0, z1, z2, z3, z4]) rfl ⟨by rw [HTA.out] <;> rfl, by rw [HTN.out]; exact HB5.out.far5 (by omega) _ _ _ _ _, HX5.out.set5 (by omega) _ _ _ _ _⟩
set_option maxRecDepth 10000 in
set_option maxHeartbeats 3200000 in
theorem withAdv_4 (ts : List Tk) (hP : Pall ts) {W : World} {g : Nat} {pa : Option Addr} {n pc i : Nat} {oa : Option Addr} {on oc : Nat} {ta : Option Addr} {tn tc : Nat} {wh dp : Bool} (h : Bk 70 W g (pcs pa n pc i oa on oc ta tn tc wh dp)) (hq : Pq W pa ts) (hn : n = ts.length) (hm : n ≤ 300) (hi : i ≤ n) (v x : ByteArray) (ng : Option Addr) (nm nc : Nat) :
    Calls Try.prog 83 #[.pointer (some ⟨g, 0, none⟩), .agg #[.int .i64 4, .string v, .string ⟨#[]⟩, .string x, .slice ng nm nc]] W (AdEnd 4 ((pks ts).drop i) v x ng nm nc g pa n pc i oa on oc ta tn tc wh dp W) := by
  have hb0 := (box_below W (.cells #[.int .i64 4, .string v, .string ⟨#[]⟩, .string x, .slice ng nm nc] 36)).alloc (by simp) (.cells #[.int .i64 0, .string ⟨#[]⟩, .string ⟨#[]⟩, .string ⟨#[]⟩, .slice none 0 0] 36)
  have s1 : (W.alloc (.cells #[.int .i64 4, .string v, .string ⟨#[]⟩, .string x, .slice ng nm nc] 36)).heap.size = W.heap.size + 1 := by simp
  have hA := (Bk.new 36 W [.int .i64 4, .string v, .string ⟨#[]⟩, .string x, .slice ng nm nc]).alloc (.cells #[.int .i64 0, .string ⟨#[]⟩, .string ⟨#[]⟩, .string ⟨#[]⟩, .slice none 0 0] 36)
  have hR := Bk.new' 36 (W.alloc (.cells #[.int .i64 4, .string v, .string ⟨#[]⟩, .string x, .slice ng nm nc] 36)) s1.symm [.int .i64 0, .string ⟨#[]⟩, .string ⟨#[]⟩, .string ⟨#[]⟩, .slice none 0 0]
  have hB := (h.alloc (.cells #[.int .i64 4, .string v, .string ⟨#[]⟩, .string x, .slice ng nm nc] 36)).alloc (.cells #[.int .i64 0, .string ⟨#[]⟩, .string ⟨#[]⟩, .string ⟨#[]⟩, .slice none 0 0] 36)
  have hB : Bk 70 ((W.alloc (.cells #[.int .i64 4, .string v, .string ⟨#[]⟩, .string x, .slice ng nm nc] 36)).alloc (.cells #[.int .i64 0, .string ⟨#[]⟩, .string ⟨#[]⟩, .string ⟨#[]⟩, .slice none 0 0] 36)) g (pcs pa n pc i oa on oc ta tn tc wh dp) := hB
  rw [show [Value.int .i64 4, .string v, .string ⟨#[]⟩, .string x, .slice ng nm nc].toArray = #[.int .i64 4, .string v, .string ⟨#[]⟩, .string x, .slice ng nm nc] from rfl] at hA
  rw [show [Value.int .i64 0, .string ⟨#[]⟩, .string ⟨#[]⟩, .string ⟨#[]⟩, .slice none 0 0].toArray = #[.int .i64 0, .string ⟨#[]⟩, .string ⟨#[]⟩, .string ⟨#[]⟩, .slice none 0 0] from rfl] at hR
  have K1 := Lib.hid (next_is ts hB (hn ▸ (hq.ex (Ex.of [] hb0) (Off.none _)).qs) hn hm)
  have hgW : g < W.heap.size := h.lt
  have hi3 : i ≤ 300 := by omega
  have h5 : kd0 ((pks ts).drop i) = 5 → ∃ c, tx0 ((pks ts).drop i) = [c] := by
    intro h5
    cases e : (pks ts).drop i with
    | nil => rw [e] at h5; cases h5
    | cons q l =>
      rw [e] at h5
      exact ps_one (hP.at e).1 (.inl h5)
  have H5 := Lib.hid h5
  clear h5
  generalize (pks ts).drop i = l at *
  have x0 := hA.p0
  have HA := Lib.hid hA
  have HR := Lib.hid hR
  have HB := Lib.hid hB
  have HB0 := Lib.hid hb0
  clear hA hR hB hb0 s1 h hq hn hm hi
  go_enter Try.func83, Try.ntmps83
  go_wp2_with fail
  refine K1.out.mono ?_
  rintro e w2 ⟨p1, rfl, hb2⟩
  have hA2 := HA.out.on hb2
  have hR2 := HR.out.on hb2
  have hB2 := HB.out.on hb2
  have hbb := HB0.out.trans (hb2.mono HB0.out.size)
  have hX2 := (Ex.of [g] hbb).alloc (.cells #[.int .i64 (kd0 l), .string (tx (tx0 l)), .int .i64 p1] 66)
  have hA3 := hA2.alloc (.cells #[.int .i64 (kd0 l), .string (tx (tx0 l)), .int .i64 p1] 66)
  have hR3 := hR2.alloc (.cells #[.int .i64 (kd0 l), .string (tx (tx0 l)), .int .i64 p1] 66)
  have hB3 := hB2.alloc (.cells #[.int .i64 (kd0 l), .string (tx (tx0 l)), .int .i64 p1] 66)
  have hT3 := Bk.new 66 w2 [.int .i64 (kd0 l), .string (tx (tx0 l)), .int .i64 p1]
  rw [show [Value.int .i64 (kd0 l), .string (tx (tx0 l)), .int .i64 p1].toArray = #[.int .i64 (kd0 l), .string (tx (tx0 l)), .int .i64 p1] from rfl] at hT3
  have hgt : g < w2.heap.size := hB2.lt
  have hat : W.heap.size + 1 < w2.heap.size := hR2.lt
  clear K1 x0 HA HR HB HB0 hb2 hA2 hR2 hB2 hbb
  have t0 := hT3.p0
  have t1 := hT3.p1
  have HA3 := Lib.hid hA3
  have HR3 := Lib.hid hR3
  have HB3 := Lib.hid hB3
  have HT3 := Lib.hid hT3
  have HX3 := Lib.hid hX2
  clear hA3 hR3 hB3 hT3 hX2
  go_upto_region 5 with fail
  generalize w2.alloc (.cells #[.int .i64 (kd0 l), .string (tx (tx0 l)), .int .i64 p1] 66) = w3 at *
  by_cases h5 : kd0 l = 5
  · obtain ⟨c, hc⟩ := H5.out h5
    have KC := fun w => Try.strings_Contains_one ⟨#[39, 46]⟩ c w
    rw [show (ByteArray.mk #[39, 46]).data.toList = advs 4 from rfl, hasA_one h5 hc] at KC
    have hTT : tx (tx0 l) = ⟨#[c]⟩ := by rw [hc]; rfl
    replace KC := Lib.hid KC
    have hTA : tx (advA 4 l) = if hasA 4 l then ⟨#[c]⟩ else ⟨#[]⟩ := by unfold advA; split <;> first | exact hTT | rfl
    have hTN : advN 4 l = if hasA 4 l then 1 else 0 := rfl
    have HTA := Lib.hid hTA
    have HTN := Lib.hid hTN
    clear hTA hTN
    rw [hTT] at t1 HT3 ⊢
    rw [h5] at t0 HT3
    generalize hasA 4 l = hv at *
    clear h5 hc hTT H5
    go_wp2_with fail
    refine (KC.out _).mono ?_
    rintro e w8 ⟨rfl, hw8⟩
    rw [hw8]
    clear KC hw8 w8
    cases hv with
    | true =>
      have c1 := Pc.c1 HB3.out
      have f1 := HB3.out.f 1
      have w9 : IntKind.i64.wrap ((i : Int) + 1) = (i : Int) + 1 := wrn (by omega) (by omega)
      go_upto_region 7 with fail
      have HB4 := Lib.hid HB3.out.step
      have hT4 := HT3.out.setOther (p := ⟨g, 1, none⟩) (show w2.heap.size ≠ g by omega) (.int .i64 ((i : Int) + 1))
      have hA4 := HA3.out.setOther (p := ⟨g, 1, none⟩) (show W.heap.size ≠ g by omega) (.int .i64 ((i : Int) + 1))
      have HR4 := Lib.hid (HR3.out.setOther (p := ⟨g, 1, none⟩) (show W.heap.size + 1 ≠ g by omega) (.int .i64 ((i : Int) + 1)))
      have HX4 := Lib.hid (HX3.out.setCell (p := ⟨g, 1, none⟩) (.inl List.mem_cons_self) (.int .i64 ((i : Int) + 1)))
      clear c1 f1 t0 t1 HB3 HT3 HA3 HR3 HX3
      generalize w3.setCell ⟨g, 1, none⟩ (.int .i64 ((i : Int) + 1)) = w4 at *
      have t1 := hT4.p1
      have a2 := hA4.p2
      have f2 := hA4.f 2
      have HA4 := Lib.hid hA4
      clear hA4 hT4
      go_upto_region 8 with fail
      have hA5 : Bk 36 _ W.heap.size [.int .i64 4, .string v, .string ⟨#[c]⟩, .string x, .slice ng nm nc] := HA4.out.set 2 (.string ⟨#[c]⟩)
      have hR5 := HR4.out.setOther (p := ⟨W.heap.size, 2, none⟩) (show W.heap.size + 1 ≠ W.heap.size by omega) (.string ⟨#[c]⟩)
      have HB5 := Lib.hid (HB4.out.setOther (p := ⟨W.heap.size, 2, none⟩) (show g ≠ W.heap.size by omega) (.string ⟨#[c]⟩))
      have HX5 := Lib.hid (HX4.out.setCell (p := ⟨W.heap.size, 2, none⟩) (.inr (Nat.le_refl _)) (.string ⟨#[c]⟩))
      clear t1 a2 f2 HA4 HR4 HB4 HX4
      generalize w4.setCell ⟨W.heap.size, 2, none⟩ (.string ⟨#[c]⟩) = w5 at *
      have a0 := hA5.p0
      have a1 := hA5.p1
      have a2 := hA5.p2
      have a3 := hA5.p3
      have a4 := hA5.p4
      have r0 := hR5.p0
      have r1 := hR5.p1
      have r2 := hR5.p2
      have r3 := hR5.p3
      have r4 := hR5.p4
      have f0 := hR5.f 0
      have f1 := hR5.f 1
      have f2 := hR5.f 2
      have f3 := hR5.f 3
      have f4 := hR5.f 4
      have HR5 := Lib.hid hR5
      clear hA5 hR5
      go_wp2_with fail
      have hN := HR5.out.set5 (.int .i64 4) (.string v) (.string ⟨#[c]⟩) (.string x) (.slice ng nm nc)
      have z0 := hN.p0
      have z1 := hN.p1
      have z2 := hN.p2
      have z3 := hN.p3
      have z4 := hN.p4
      exact bodyPost_ret (v := .agg #[.int .i64 4, .string v, .string ⟨#[c]⟩, .string x, .slice ng nm nc]) (by simp [results, Try.results83, go_sem, z0, z1, z2, z3, z4]) rfl ⟨by rw [HTA.out] <;> rfl, by rw [HTN.out]; exact HB5.out.far5 (by omega) _ _ _ _ _, HX5.out.set5 (by omega) _ _ _ _ _⟩
    | false =>
      go_upto_region 8 with fail
      have hA5 := HA3.out
      have hR5 := HR3.out
      have HB5 := Lib.hid HB3.out
      have HX5 := Lib.hid HX3.out
      clear t0 t1 HA3 HR3 HB3 HX3 HT3
      have a0 := hA5.p0
      have a1 := hA5.p1
      have a2 := hA5.p2
      have a3 := hA5.p3
      have a4 := hA5.p4
      have r0 := hR5.p0
      have r1 := hR5.p1
      have r2 := hR5.p2
      have r3 := hR5.p3
      have r4 := hR5.p4
      have f0 := hR5.f 0
      have f1 := hR5.f 1
      have f2 := hR5.f 2
      have f3 := hR5.f 3
      have f4 := hR5.f 4
      have HR5 := Lib.hid hR5
      clear hA5 hR5
      go_wp2_with fail
      have hN := HR5.out.set5 (.int .i64 4) (.string v) (.string ⟨#[]⟩) (.string x) (.slice ng nm nc)
      have z0 := hN.p0
      have z1 := hN.p1
      have z2 := hN.p2
      have z3 := hN.p3
      have z4 := hN.p4
      exact bodyPost_ret (v := .agg #[.int .i64 4, .string v, .string ⟨#[]⟩, .string x, .slice ng nm nc]) (by simp [results, Try.results83, go_sem, z0, z1, z2, z3, z4]) rfl ⟨by rw [HTA.out] <;> rfl, by rw [HTN.out]; exact HB5.out.far5 (by omega) _ _ _ _ _, HX5.out.set5 (by omega) _ _ _ _ _⟩
  · have hTA : tx (advA 4 l) = ⟨#[]⟩ := by unfold advA; rw [hasA_no h5]; rfl
    have hTN : advN 4 l = 0 := by unfold advN; rw [hasA_no h5]; rfl
    have HTA := Lib.hid hTA
    have HTN := Lib.hid hTN
    clear hTA hTN
    have e5 : (kd0 l == 5) = false := beq_eq_false_iff_ne.2 h5
    clear H5
    generalize kd0 l = k9 at *
    generalize tx (tx0 l) = T9 at *
    go_upto_region 8 with fail
    have hA5 := HA3.out
    have hR5 := HR3.out
    have HB5 := Lib.hid HB3.out
    have HX5 := Lib.hid HX3.out
    clear t0 t1 HA3 HR3 HB3 HX3 HT3
    have a0 := hA5.p0
    have a1 := hA5.p1
    have a2 := hA5.p2
    have a3 := hA5.p3
    have a4 := hA5.p4
    have r0 := hR5.p0
    have r1 := hR5.p1
    have r2 := hR5.p2
    have r3 := hR5.p3
    have r4 := hR5.p4
    have f0 := hR5.f 0
    have f1 := hR5.f 1
    have f2 := hR5.f 2
    have f3 := hR5.f 3
    have f4 := hR5.f 4
    have HR5 := Lib.hid hR5
    clear hA5 hR5
    go_wp2_with fail
    have hN := HR5.out.set5 (.int .i64 4) (.string v) (.string ⟨#[]⟩) (.string x) (.slice ng nm nc)
    have z0 := hN.p0
    have z1 := hN.p1
    have z2 := hN.p2
    have z3 := hN.p3
    have z4 := hN.p4
    exact bodyPost_ret (v := .agg #[.int .i64 4, .string v, .string ⟨#[]⟩, .string x, .slice ng nm nc]) (by simp [results, Try.results83, go_sem, z0, z1, z2, z3, z4]) rfl ⟨by rw [HTA.out] <;> rfl, by rw [HTN.out]; exact HB5.out.far5 (by omega) _ _ _ _ _, HX5.out.set5 (by omega) _ _ _ _ _⟩
theorem withAdv_is (ts : List Tk) (hP : Pall ts) {W : World} {g : Nat} {pa : Option Addr} {n pc i : Nat} {oa : Option Addr} {on oc : Nat} {ta : Option Addr} {tn tc : Nat} {wh dp : Bool} (h : Bk 70 W g (pcs pa n pc i oa on oc ta tn tc wh dp)) (hq : Pq W pa ts) (hn : n = ts.length) (hm : n ≤ 300) (hi : i ≤ n) {k : Int} (hk : k = 3 ∨ k = 4) (v x : ByteArray) (ng : Option Addr) (nm nc : Nat) :
    Calls Try.prog 83 #[.pointer (some ⟨g, 0, none⟩), .agg #[.int .i64 k, .string v, .string ⟨#[]⟩, .string x, .slice ng nm nc]] W (AdEnd k ((pks ts).drop i) v x ng nm nc g pa n pc i oa on oc ta tn tc wh dp W) := by
  rcases hk with rfl | rfl
  · exact withAdv_3 ts hP h hq hn hm hi v x ng nm nc
  · exact withAdv_4 ts hP h hq hn hm hi v x ng nm nc
end Go.Proofs.Ytljkmdmbndjngaa
/-
  The parser's states before a term and behind one; verb.
-/
namespace Go.Proofs.Ytljkmdmbndjngaa
set_option linter.unusedVariables false
set_option linter.unusedSimpArgs false
open Go.RowKit

section
variable {M : List UInt8 → List UInt8}
theorem Mc.ad_inv {k : Int} {v : List UInt8} {ls : List (List Tn)} {l : List Pk} {K : List Bg} {x : Option (List Tn)} {r : List Pk} (h : Mc M (.ad k v ls) l K x r) (hp : ∀ q l', l = q :: l' → q.k = 5 → ∃ c, q.t = [c]) : Mc M .to (l.drop (advN k l)) (⟨nv k v (advA k l) [], ls, none⟩ :: K) x r := by
  cases h with
  | @d_is _ _ _ q c l r K x h ht hc h1 =>
    have e : hasA k (q :: l) = true := by
      unfold hasA
      rw [show kd0 (q :: l) = q.k from rfl, show tx0 (q :: l) = q.t from rfl, h, ht, Bool.and_eq_true]
      exact ⟨rfl, List.any_eq_true.2 ⟨c, hc, by simp⟩⟩
    unfold advN advA
    rw [if_pos e, if_pos e, show tx0 (q :: l) = q.t from rfl, ht]
    exact h1
  | @d_no _ _ _ ts r K x h h1 =>
    have e : hasA k l = false := by
      cases hh : hasA k l with
      | false => rfl
      | true =>
        unfold hasA at hh
        rw [Bool.and_eq_true, decide_eq_true_iff, List.any_eq_true] at hh
        obtain ⟨h5, c, hc, he⟩ := hh
        cases l with
        | nil => cases h5
        | cons q l' => exact absurd (show q.t = [c] by simpa [tx0] using he) (h q l' rfl h5 c hc)
    unfold advN advA
    rw [e]
    exact h1
theorem Mc.vb_inv {k : Int} {ls : List (List Tn)} {l : List Pk} {K : List Bg} {x : Option (List Tn)} {r : List Pk} (h : Mc M (.vb k ls) l K x r) : ∃ q l', l = q :: l' ∧ (((q.k = 3 ∨ q.k = 4) ∧ Mc M (.ad k q.t ls) l' K x r) ∨ (q.k = 6 ∧ q.t = [123] ∧ Mc M .to l' (⟨nv k q.t [] [], ls, some 125⟩ :: K) x r)) := by
  cases h with
  | v_one h h1 => exact ⟨_, _, rfl, .inl ⟨h, h1⟩⟩
  | v_body h ht h1 => exact ⟨_, _, rfl, .inr ⟨h, ht, h1⟩⟩
end
/-- Before a term. -/
def ToS (B N : Nat) (ts : List Tk) (g : Nat) (pa : Option Addr) (n pc : Nat) (x : Option (List Tn)) (r : List Pk) (i0 : Nat) (W : World) : Prop :=
  ∃ (i : Nat) (oa : Option Addr) (on oc : Nat) (ta : Option Addr) (tn tc : Nat) (dp : Bool) (ms : List Mb) (K : List Bg), PM B ts W g pa n pc i oa on oc ta tn tc false dp ms K ∧ Mc numT .to ((pks ts).drop i) K x r ∧ Iv dp N K [] (n - i) ∧ i0 ≤ i ∧ i ≤ n
/-- Behind a term. -/
def FrS (B N : Nat) (ts : List Tk) (g : Nat) (pa : Option Addr) (n pc : Nat) (x : Option (List Tn)) (r : List Pk) (i0 : Nat) (W : World) : Prop :=
  ∃ (i : Nat) (oa : Option Addr) (on oc : Nat) (kk : Kd) (dp : Bool) (ms : List Mb) (K : List Bg) (T : List Tn), PM B ts W g pa n pc i oa on oc kk.a kk.n kk.c false dp ms K ∧ (dp = false → Nt B W kk T) ∧ Mc numT (.fr T) ((pks ts).drop i) K x r ∧ Iv dp N K [T] (n - i) ∧ i0 ≤ i ∧ i ≤ n
theorem KR.not {B : Nat} {W : World} {dp : Bool} {lo : Nat} {ka : Option Addr} {kn kc : Nat} {kd : Nat → Kd} {ls : List (List Tn)} (h : KR B W dp lo ka kn kc kd ls) {S : List Nat} (hS : ∀ s ∈ S, ∃ cur t fr, W.heap[s]? = some (.cells cur t fr) ∧ t ≠ 22) : ∀ k, (Value.slice ka kn kc).ownBlock = some k → k ∉ S := by
  intro k hk hm
  obtain ⟨cur, t, fr, h1, h2⟩ := hS k hm
  exact own_not h.row h1 h2 (by rw [hk]; simp)
theorem wB_ne {b : Bg} (h : b.n.k ≠ 6) : wB b = 1 + wl b.ks := by unfold wB; rw [if_neg h]
theorem tx_nil : tx [] = ⟨#[]⟩ := rfl
theorem bVerbN (k : Int) (v a : List UInt8) (h3 : k = 3 ∨ k = 4) (hv : v.length ≤ 300) (ha : a.length ≤ 300) (W : World) : (Nd.mk k (tx v) (tx a) ⟨#[]⟩ none 0 0 []).on W :=
  ⟨St.nil _ _, Nat.le_refl _, Nat.zero_le _, by show _ ≤ k; omega, by show k ≤ _; omega, by show (tx v).size ≤ _; rw [tx_size]; unfold maxLen; omega, by show (tx a).size ≤ _; rw [tx_size]; unfold maxLen; omega, Nat.zero_le _, fun s hs => by cases hs⟩
theorem advA_len {k : Int} {l : List Pk} (h : ∀ q ∈ l, q.t.length ≤ 256) : (advA k l).length ≤ 300 := by
  unfold advA
  split
  · cases l with
    | nil => exact Nat.zero_le _
    | cons q l => have := h q List.mem_cons_self; show q.t.length ≤ _; omega
  · exact Nat.zero_le _
theorem advN_le {k : Int} {l : List Pk} : advN k l ≤ l.length := by
  unfold advN
  split
  · rename_i h
    cases l with
    | nil => cases h
    | cons q l => simp
  · omega
theorem kd_verb {k : Int} {v a : List UInt8} (h3 : k = 3 ∨ k = 4) (hv : v ≠ [123]) : kdT (nv k v a []) = k - 2 := by
  unfold kdT nv
  rcases h3 with rfl | rfl
  · simp [hv]
  · simp [hv]
theorem kd_body {k : Int} {a : List UInt8} (h3 : k = 3 ∨ k = 4) : kdT (nv k [123] a []) = k - 1 := by
  unfold kdT nv
  rcases h3 with rfl | rfl
  · simp
  · simp
set_option maxRecDepth 10000 in
set_option maxHeartbeats 3200000 in
theorem verb_is (ts : List Tk) (hP : Pall ts) {B N : Nat} {W : World} {g : Nat} {pa : Option Addr} {n pc i : Nat} {oa : Option Addr} {on oc : Nat} {ta : Option Addr} {tn tc : Nat} {dp : Bool} {ms : List Mb} {K : List Bg} (h : PM B ts W g pa n pc i oa on oc ta tn tc false dp ms K) (hm : n ≤ 300) (hN : N ≤ 1000) {k : Int} (hk : k = 3 ∨ k = 4)
    {lo : Nat} {ka : Option Addr} {kn kc : Nat} {kd : Nat → Kd} {ls : List (List Tn)} (kr : KR B W dp lo ka kn kc kd ls) (hls : (ls.length : Int) + 3 = k) (hlo : ∀ c ∈ ms, ∀ q, (Value.slice c.ka c.kn c.kc).ownBlock = some q → q < lo) {x : Option (List Tn)} {r : List Pk} (hMc : Mc numT (.vb k ls) ((pks ts).drop i) K x r) (hI : Iv dp N K ls (n - i)) :
    Calls Try.prog 73 #[.pointer (some ⟨g, 0, none⟩), .int .i64 k, .slice ka kn kc] W fun e W' => e = .returned (.tuple #[]) ∧ ToS B N ts g pa n pc x r (i + 1) W' ∧ Fr B W W' := by
  obtain ⟨q, l, e, hc⟩ := hMc.vb_inv
  obtain ⟨e1, hin⟩ := drop_next e
  obtain ⟨hPs, hPl⟩ := hP.at e
  have hon : on ≤ 1000 := by
    have h1 := h.len
    have h2 := hI.wt
    have h3 : K.length ≤ wK K := by
      clear hMc hI h hc h1 h2
      induction K with
      | nil => exact Nat.zero_le _
      | cons b K ih =>
        rw [wK_cons]
        have : 1 ≤ wB b := by unfold wB; split <;> omega
        simp only [List.length_cons]; omega
    omega
  have hi3 : i < 300 := by have := h.hn; omega
  have hin2 : i + 1 ≤ n := by have := h.hn; omega
  have K1 := next_is ts h.bk (h.hn ▸ h.pq.qs) h.hn hm
  rw [e, show NxEnd (q :: l) W = fun e W' => ∃ p : Int, e = .returned (.agg #[.int .i64 q.k, .string (tx q.t), .int .i64 p]) ∧ Below W.heap.size W W' from rfl] at K1
  have HH := Lib.hid h
  have HKR := Lib.hid kr
  replace K1 := Lib.hid K1
  have hgl := h.bk.lt
  have hnn := h.hn
  have hl9 : (pks ts).drop (i + 1) = l := e1
  clear h kr e hMc
  have hf1 := tok_f1
  obtain ⟨T, hT⟩ : ∃ T, T = tx q.t := ⟨_, rfl⟩
  rw [← hT] at K1
  have HT0 := Lib.hid hT
  clear hT
  go_enter Try.func73, Try.ntmps73
  go_wp2_with fail
  refine K1.out.mono ?_
  rintro e w1 ⟨p1, rfl, hb1⟩
  have hH1 := HH.out.below hb1
  have hKR1 := HKR.out.ex (Ex.of [] hb1) (Off.none _) (fun k hk => by simp)
  have hbx := box_below w1 (.cells #[.int .i64 k, .string T, .string ⟨#[]⟩, .string ⟨#[]⟩, .slice none 0 0] 36)
  have hN2 := Bk.new 36 w1 [.int .i64 k, .string T, .string ⟨#[]⟩, .string ⟨#[]⟩, .slice none 0 0]
  rw [show [Value.int .i64 k, .string T, .string ⟨#[]⟩, .string ⟨#[]⟩, .slice none 0 0].toArray = #[.int .i64 k, .string T, .string ⟨#[]⟩, .string ⟨#[]⟩, .slice none 0 0] from rfl] at hN2
  have HH2 := Lib.hid (hH1.below hbx)
  have HKR2 := Lib.hid (hKR1.ex (Ex.of [] hbx) (Off.none _) (fun k hk => by simp))
  have HF2 := Lib.hid ((Fr.ofB hb1 HH.out.size).trans (Fr.ofB hbx hH1.size))
  have HN2 := Lib.hid hN2
  have hne : w1.heap.size ≠ g := by have := hH1.bk.lt; omega
  clear hb1 hH1 hKR1 hbx hN2 K1 HH HKR
  go_upto_region 1 with fail
  generalize w1.alloc (.cells #[.int .i64 k, .string T, .string ⟨#[]⟩, .string ⟨#[]⟩, .slice none 0 0] 36) = w2 at *
  have c1 := Pc.c1 HH2.out.bk
  have f1 := HH2.out.bk.f 1
  have w9 : IntKind.i64.wrap ((i : Int) + 1) = (i : Int) + 1 := wrn (by omega) (by omega)
  go_upto_region 2 with fail
  have hx3 := Ex.setCell (Ex.refl [g] w2) (p := ⟨g, 1, none⟩) (.inl List.mem_cons_self) (.int .i64 ((i : Int) + 1))
  have HH3 := Lib.hid (HH2.out.ex hx3 HH2.out.bk.step)
  have HKR3 := Lib.hid (HKR2.out.ex hx3 HH2.out.offg (HKR2.out.not HH2.out.tyG))
  have HF3 := Lib.hid (HF2.out.trans (Fr.of hx3 HH2.out.offg HH2.out.size (fun k hk => by rcases List.mem_singleton.1 hk with rfl; exact HH2.out.hg)))
  have hN3 := HN2.out.setOther (p := ⟨g, 1, none⟩) hne (.int .i64 ((i : Int) + 1))
  clear hx3 HH2 HKR2 HF2 HN2 c1 f1 w9
  generalize w2.setCell ⟨g, 1, none⟩ (.int .i64 ((i : Int) + 1)) = w3 at *
  have x0 := hN3.p0
  have x1 := hN3.p1
  have x2 := hN3.p2
  have x3 := hN3.p3
  have x4 := hN3.p4
  have HN3 := Lib.hid hN3
  clear hN3
  rcases hc with ⟨hq, hMa⟩ | ⟨hq, hqt, hMa⟩
  · have hnb := not_brace hPs hq
    have eT : (T.toList == [123]) = false := by
      rw [str_tl, HT0.out, tx_list]
      exact beq_eq_false_iff_ne.2 hnb
    have hMt := hMa.ad_inv (fun q' l' e hk5 => ps_one (hP.at (i := i + 1) (hl9.trans e)).1 (.inl hk5))
    have KA := withAdv_is ts hP HH3.out.bk HH3.out.pq HH3.out.hn hm hin2 hk T ⟨#[]⟩ none 0 0
    rw [hl9] at KA
    have HMT := Lib.hid hMt
    replace KA := Lib.hid KA
    have HI := Lib.hid hI
    have HT := Lib.hid HT0.out
    have HC := Lib.hid (⟨hnb, hPl, fun p hp => (hP p (List.mem_of_mem_drop (show p ∈ (pks ts).drop (i + 1) by rw [hl9]; exact hp))).2⟩ : q.t ≠ [123] ∧ q.t.length ≤ 256 ∧ ∀ p ∈ l, p.t.length ≤ 256)
    have HL9 := Lib.hid hl9
    have hll : l.length = n - (i + 1) := by rw [← hl9, List.length_drop, pks_len, hnn]
    clear hMt hMa hI hnb hPs hPl hl9 e1
    go_wp2_with fail
    refine KA.out.mono ?_
    rintro e w4 ⟨rfl, hB4, hx4⟩
    have HH4 := Lib.hid (HH3.out.ex hx4 hB4)
    have HKR4 := Lib.hid (HKR3.out.ex hx4 HH3.out.offg (HKR3.out.not HH3.out.tyG))
    have HF4 := Lib.hid (HF3.out.trans (Fr.of hx4 HH3.out.offg HH3.out.size (fun k hk => by rcases List.mem_singleton.1 hk with rfl; exact HH3.out.hg)))
    have KB := Lib.hid (begin_is ⟨⟨k, T, tx (advA k l), ⟨#[]⟩, none, 0, 0, []⟩, ka, kn, kc, kd, ⟨#[]⟩, lo⟩ HH4.out.bk HH4.out.row HH4.out.size hon)
    clear hx4 hB4 HH3 HKR3 HF3 KA x0 x1 x2 x3 x4 HN3 eT
    go_wp2_with fail
    refine KB.out.mono ?_
    rintro e w5 ⟨rfl, hx5, oa', oc', hB5, hr5⟩
    have hadv := advN_le (k := k) (l := l)
    have HFIN := Lib.hid (show ToS B N ts g pa n pc x r (i + 1) w5 ∧ Fr B W w5 by
      have hpush := HH4.out.push hx5 (p := ⟨nv k q.t (advA k l) [], ls, none⟩) hB5 hr5 HKR4.out (by show (_ : Tn) = _; rw [HT.out]; rfl) rfl (by rw [HT.out]; exact bVerbN k q.t _ hk (by have := HC.out.2.1; omega) (advA_len HC.out.2.2) _) rfl hlo (HKR4.out.not HH4.out.tyS)
      refine ⟨⟨_, _, _, _, _, _, _, _, _, _, hpush, ?_, HI.out.push rfl ?_ ?_, by omega, by omega⟩, HF4.out.trans (Fr.of hx5 HH4.out.offs HH4.out.size HH4.out.base)⟩
      · rw [← List.drop_drop, HL9.out]
        exact HMT.out
      · refine .inl ⟨rfl, ?_, ?_, ?_⟩
        · show 1 ≤ k; omega
        · show k ≤ 8; omega
        · rw [kd_verb hk HC.out.1]; show k - 2 = (ls.length : Int) + 1; omega
      · rw [wB_ne (show k ≠ 6 by omega)]
        show 1 + wl ls + _ ≤ _
        omega)
    clear hx5 hB5 hr5 HH4 HKR4 HF4 KB HMT HI HC
    go_wp2_with fail
    first | go_end0 | refine bodyPost_ret (results_none rfl _ _ _) rfl ?_ | refine bodyPost_end (results_none rfl _ _ _) rfl ?_
    exact ⟨rfl, HFIN.out⟩
  · have eT : (T.toList == [123]) = true := by rw [str_tl, HT0.out, hqt]; rfl
    have HMT := Lib.hid hMa
    have HI := Lib.hid hI
    have HT := Lib.hid (HT0.out.trans (by rw [hqt]) : T = tx [123])
    have HL9 := Lib.hid hl9
    rw [hqt] at HMT
    have KB := Lib.hid (begin_is ⟨⟨k, T, ⟨#[]⟩, ⟨#[]⟩, none, 0, 0, []⟩, ka, kn, kc, kd, ⟨#[125]⟩, lo⟩ HH3.out.bk HH3.out.row HH3.out.size hon)
    clear hMa hI hPs hPl hl9 e1
    go_wp2_with fail
    refine KB.out.mono ?_
    rintro e w5 ⟨rfl, hx5, oa', oc', hB5, hr5⟩
    have HFIN := Lib.hid (show ToS B N ts g pa n pc x r (i + 1) w5 ∧ Fr B W w5 by
      have hpush := HH3.out.push hx5 (p := ⟨nv k [123] [] [], ls, some 125⟩) hB5 hr5 HKR3.out (by show (_ : Tn) = _; rw [HT.out]; rfl) rfl (by rw [HT.out]; exact bVerbN k [123] [] hk (by decide) (by decide) _) rfl hlo (HKR3.out.not HH3.out.tyS)
      refine ⟨⟨_, _, _, _, _, _, _, _, _, _, hpush, ?_, HI.out.push rfl ?_ ?_, by omega, by omega⟩, HF3.out.trans (Fr.of hx5 HH3.out.offs HH3.out.size HH3.out.base)⟩
      · rw [HL9.out]
        exact HMT.out
      · refine .inr ⟨⟨125, rfl, by decide⟩, .inr (.inr (.inr (.inr ⟨hk, rfl, rfl, rfl, ?_⟩)))⟩
        rw [kd_body hk]; show k - 1 = (ls.length : Int) + 2; omega
      · rw [wB_ne (show k ≠ 6 by omega)]
        show 1 + wl ls + _ ≤ _
        omega)
    clear hx5 hB5 hr5 HH3 HKR3 HF3 KB HMT HI x0 x1 x2 x3 x4 HN3
    go_wp2_with fail
    first | go_end0 | refine bodyPost_ret (results_none rfl _ _ _) rfl ?_ | refine bodyPost_end (results_none rfl _ _ _) rfl ?_
    exact ⟨rfl, HFIN.out⟩
end Go.Proofs.Ytljkmdmbndjngaa
/-
  grow, deep or not; finishVerbs.
-/
namespace Go.Proofs.Ytljkmdmbndjngaa
set_option linter.unusedVariables false
set_option linter.unusedSimpArgs false
open Go.RowKit

/-- What grow tells. -/
def GrEnd (B : Nat) (X : List Tn) (g : Nat) (pa : Option Addr) (n pc i : Nat) (oa : Option Addr) (on oc : Nat) (ta : Option Addr) (tn tc : Nat) (wh dp : Bool) (W : World) (e : Ending) (W' : World) : Prop :=
  ∃ (kk : Kd) (dp' : Bool), e = .returned (.slice kk.a kk.n kk.c) ∧ (dp' = false → Nt B W' kk X) ∧ Bk 70 W' g (pcs pa n pc i oa on oc ta tn tc wh dp') ∧ Ex [g] W W' ∧ (dp = true → dp' = true) ∧ (dp = false → (dp' = true ↔ Deep X))
theorem grow_any {B lo : Nat} {W : World} {g : Nat} {pa : Option Addr} {n pc i : Nat} {oa : Option Addr} {on oc : Nat} {ta : Option Addr} {tn tc : Nat} {wh dp : Bool} (d : Nd) {ka : Option Addr} {K kc : Nat} {k : Nat → Kd} {Ts : List (List Tn)} (h : Bk 70 W g (pcs pa n pc i oa on oc ta tn tc wh dp))
    (hd : d.on W) (hdm : d.m ≤ 100) (kr : KR B W dp lo ka K kc k Ts) (hK3 : K ≤ 10) (hns : ∀ t ∈ Ts, ∀ x ∈ t, x.ns.length ≤ 100) (hw : wl Ts ≤ 1000) (hX : Tr (tnOf d :: Ts.flatten)) :
    Calls Try.prog 70 #[.pointer (some ⟨g, 0, none⟩), d.val, .slice ka K kc] W (GrEnd B (tnOf d :: Ts.flatten) g pa n pc i oa on oc ta tn tc wh dp W) := by
  cases dp with
  | true =>
    refine (grow_deep d ka K kc h).mono ?_
    rintro e w1 ⟨rfl, hb⟩
    exact ⟨⟨none, 0, 0, fun _ => d⟩, true, rfl, fun h => (by cases h), h.on hb, Ex.of [g] hb, fun _ => rfl, fun h => by cases h⟩
  | false =>
    obtain ⟨D, hD⟩ := hX
    refine (grow_is d ka K kc k Ts h hd hdm kr.kl hK3 (kr.nt rfl) hns kr.row hw hD).mono ?_
    rintro e w1 ⟨kk, rfl, hN, hB, hx⟩
    refine ⟨kk, _, rfl, fun _ => hN, hB, hx, fun h => (by cases h), fun _ => ?_⟩
    rw [decide_eq_true_iff]
    exact ⟨fun h => ⟨D, hD, h⟩, fun ⟨d', hd', h⟩ => by rw [(hD.det hd').2]; exact h⟩
theorem infoKid : (Try.prog.info? 22).map (fun i => (i.zero, i.size, i.bytes)) = some (some (.slice none 0 0), 1, 24) := by kernel_rfl
theorem KR.snoc {B : Nat} {W W' : World} {dp : Bool} {lo : Nat} {ka : Option Addr} {kn kc : Nat} {kd : Nat → Kd} {ls : List (List Tn)} (h : KR B W dp lo ka kn kc kd ls) {kk : Kd} {T : List Tn} (hT : dp = false → Nt B W kk T) {av : Option Addr} {cv : Nat} (ho : W'.ownsRow lo 22 1 (.slice av (kn + 1) cv) (kn + 1) (kvs kd kn ++ [.slice kk.a kk.n kk.c])) {S : List Nat} (hx : Ex S W W') (hoff : Off S W) :
    KR B W' dp lo av (kn + 1) cv (fun i => if i = kn then kk else kd i) (ls ++ [T]) := by
  refine ⟨by rw [h.kl, List.length_append]; rfl, ?_, h.lo, fun hd i hi => ?_⟩
  · rw [show kvs (fun i => if i = kn then kk else kd i) (kn + 1) = kvs kd kn ++ [.slice kk.a kk.n kk.c] by
      show kvs _ kn ++ [_] = _
      rw [kvs_same (k' := kd) kn (fun i hi => by rw [if_neg (by omega)])]
      simp]
    exact ho
  · by_cases hk : i = kn
    · rw [if_pos hk]
      have e : (ls ++ [T])[i] = T := by
        subst hk
        simp [h.kl]
      rw [e]
      exact (hT hd).ex hx hoff
    · rw [if_neg hk]
      have hi2 : i < ls.length := by rw [List.length_append] at hi; have := h.kl; simp at hi; omega
      rw [List.getElem_append_left hi2]
      exact (h.nt hd i hi2).ex hx hoff
theorem Off.kids {base n : Nat} {W : World} {v : Value} {xs : List Value} (h : W.ownsRow base 22 1 v n xs) : Off v.ownBlock.toList W := Off.row h (by decide) (by decide) (by decide)
section
variable {B : Nat} {ts : List Tk} {W W' : World} {g : Nat} {pa : Option Addr} {n pc i : Nat} {oa : Option Addr} {on oc : Nat} {ta : Option Addr} {tn tc : Nat} {wh dp : Bool} {ms : List Mb} {K : List Bg}
/-- Trees' rows that are above the stack's may change. -/
theorem PM.kids (h : PM B ts W g pa n pc i oa on oc ta tn tc wh dp ms K) {lo : Nat} {ka : Option Addr} {kn kc : Nat} {kd : Nat → Kd} {ls : List (List Tn)} (kr : KR B W dp lo ka kn kc kd ls) (hlo : ∀ c ∈ ms, ∀ q, (Value.slice c.ka c.kn c.kc).ownBlock = some q → q < lo) (hx : Ex (Value.slice ka kn kc).ownBlock.toList W W') : PM B ts W' g pa n pc i oa on oc ta tn tc wh dp ms K := by
  have hoff := Off.kids kr.row
  refine ⟨h.bk.ex hx (own_not kr.row h.bk (by decide)), h.pq.ex hx hoff, h.hn, own_ex h.row hx ?_, h.hon, h.sr.ex hx hoff ?_, h.hg⟩
  · intro k hk hm
    rcases h.row.2 with ⟨h1, _⟩ | ⟨k', cap, cur, h1, _, h2, _⟩
    · rw [h1] at hk; cases hk
    · rw [h1] at hk
      cases hk
      exact own_not kr.row h2 (by decide) hm
  · intro c hc k hk hm
    have h1 := hlo c hc k hk
    have h2 := (kr.row.lt k (by simpa using hm)).1
    omega
/-- The last one begun: what it is plainly, where its trees lie. -/
theorem PM.top {b : Mb} {l : List Mb} (h : PM B ts W g pa n pc i oa on oc ta tn tc wh dp (b :: l) K) : ∃ p K2, K = p :: K2 ∧ SOk B W dp b p ∧ (∀ c ∈ l, ∀ k, (Value.slice c.ka c.kn c.kc).ownBlock = some k → k < b.lo) ∧ SR B W dp l K2 ∧ on = l.length + 1 := by
  cases K with
  | nil => exact h.sr.elim
  | cons p K2 => exact ⟨p, K2, rfl, h.sr.1, h.sr.2.1, h.sr.2.2, h.hon⟩
theorem KR.rebase {B : Nat} {W : World} {dp : Bool} {lo : Nat} {ka : Option Addr} {kn kc : Nat} {kd : Nat → Kd} {ls : List (List Tn)} (h : KR B W dp lo ka kn kc kd ls) (hB : B ≤ W.heap.size) : KR B W dp (min lo W.heap.size) ka kn kc kd ls := by
  refine ⟨h.kl, ⟨h.row.1, ?_⟩, by have := h.lo; omega, h.nt⟩
  rcases h.row.2 with h1 | ⟨k, cap, cur, h1, h2, h3, h4⟩
  · exact .inl h1
  · exact .inr ⟨k, cap, cur, h1, by omega, h3, h4⟩
/-- It is taken away. -/
theorem PM.popped {b : Mb} {l : List Mb} {p : Bg} {K2 : List Bg} (h : PM B ts W g pa n pc i oa on oc ta tn tc wh dp (b :: l) (p :: K2)) (hx : Ex [g] W W') (hb : Bk 70 W' g (pcs pa n pc i oa l.length oc ta tn tc wh dp)) (hr : W'.ownsRow B 100 7 (.slice oa l.length oc) l.length (obs l)) :
    PM B ts W' g pa n pc i oa l.length oc ta tn tc wh dp l K2 ∧ b.d.on W' ∧ ∃ lo, KR B W' dp lo b.ka b.kn b.kc b.kd p.ks ∧ lo ≤ W'.heap.size ∧ ∀ c ∈ l, ∀ k, (Value.slice c.ka c.kn c.kc).ownBlock = some k → k < lo := by
  have hs := h.sr.2.2.ex hx h.offg (fun c hc => h.sr.not h.tyG c (List.mem_cons_of_mem _ hc))
  have hS := h.sr.1.ex hx h.offg (h.sr.not h.tyG b List.mem_cons_self)
  have hP : PM B ts W' g pa n pc i oa l.length oc ta tn tc wh dp l K2 := ⟨hb, h.pq.ex hx h.offg, h.hn, hr, rfl, hs, h.hg⟩
  have hK : KR B W' dp b.lo b.ka b.kn b.kc b.kd p.ks := ⟨hS.kn, hS.row, hS.lo, hS.nt⟩
  refine ⟨hP, hS.on, _, hK.rebase hP.size, Nat.min_le_right _ _, fun c hc k hk => ?_⟩
  have h1 := h.sr.2.1 c hc k hk
  have h2 := (hs.lt c hc k hk).1
  omega
theorem PM.lenO (h : PM B ts W g pa n pc i oa on oc ta tn tc wh dp ms K) : slN ((W.cell? ⟨g, 2, none⟩).getD undef) = on := by rw [Pc.c2 h.bk]; rfl
end
theorem Mc.dn_pop {M : List UInt8 → List UInt8} {T : List Tn} {p : Bg} {l : List Pk} {K : List Bg} {x : Option (List Tn)} {r : List Pk} (h : Mc M (.dn T) l (p :: K) x r) (hu : p.u = none) : Mc M (.dn (p.put T)) l K x r := by
  cases h with
  | e_pop hb h1 => exact h1
  | e_mark hb h ht h1 => rw [hu] at hb; cases hb
  | e_not hb h => rw [hu] at hb; cases hb
theorem BgOk.none {b : Bg} (h : BgOk b) (hu : b.u = none) : kdT b.n = (b.ks.length : Int) + 1 := by
  rcases h with h | ⟨⟨c, hc, _⟩, _⟩
  · exact h.2.2.2
  · rw [hu] at hc; cases hc
theorem kdT_le (n : Tn) : kdT n ≤ 3 := by
  unfold kdT
  repeat' split
  all_goals omega
theorem iv_len {dp : Bool} {N m : Nat} {K : List Bg} {l : List (List Tn)} (h : Iv dp N K l m) : K.length ≤ N := by
  have h2 := h.wt
  have h3 : K.length ≤ wK K := by
    clear h h2
    induction K with
    | nil => exact Nat.zero_le _
    | cons b K ih =>
      rw [wK_cons]
      have : 1 ≤ wB b := by unfold wB; split <;> omega
      simp only [List.length_cons]; omega
  omega
theorem tn_ns {d : Nd} {W : World} (h : d.on W) (h0 : d.m = 0) : (tnOf d).ns = [] := by
  have := h.nl
  rw [h0] at this
  show d.ns.map _ = []
  rw [List.eq_nil_of_length_eq_zero this]; rfl
/-- Behind a term, and all that ends with what it stands in. -/
def DnS (B N : Nat) (ts : List Tk) (g : Nat) (pa : Option Addr) (n pc : Nat) (x : Option (List Tn)) (r : List Pk) (i m : Nat) (W : World) : Prop :=
  ∃ (oa : Option Addr) (on oc : Nat) (kk : Kd) (dp : Bool) (ms : List Mb) (K : List Bg) (T : List Tn), PM B ts W g pa n pc i oa on oc kk.a kk.n kk.c false dp ms K ∧ (dp = false → Nt B W kk T) ∧ Mc numT (.dn T) ((pks ts).drop i) K x r ∧ Iv dp N K [T] m
def lenO (g : Nat) (w : World) : Nat := slN ((w.cell? ⟨g, 2, none⟩).getD undef)
end Go.Proofs.Ytljkmdmbndjngaa

import Derived.Test.YtljkmdmbndjngaaGreatMaq
/-
  The parser's grow: a node, and trees below it.
-/
namespace Go.Proofs.YtljkmdmbndjngaaGreat
set_option linter.unusedVariables false
set_option linter.unusedSimpArgs false
open Go.RowKit

theorem kvs_one (k : Nat → Kd) : ∀ n, ∀ u ∈ kvs k n, u.oneCell' = true
  | 0, u, h => by cases h
  | n + 1, u, h => by
    rcases List.mem_append.1 (show u ∈ kvs k n ++ [.slice (k n).a (k n).n (k n).c] from h) with h | h
    · exact kvs_one k n u h
    · rw [List.mem_singleton] at h
      rw [h]; rfl
/-- A row of slices: where it lies. -/
theorem own_kids {w : World} {base n : Nat} {a : Option Addr} {c : Nat} {k : Nat → Kd} (h : w.ownsRow base 22 1 (.slice a n c) n (kvs k n)) : 0 < n → ∃ b off, a = some ⟨b, off, none⟩ ∧ ∀ i, i < n → w.cell? ⟨b, off + i, none⟩ = some (.slice (k i).a (k i).n (k i).c) := by
  intro hn
  rcases h.2 with ⟨h0, _⟩ | ⟨g, cap, cur, hv, _⟩
  · cases h0; omega
  · cases hv
    exact ⟨g, 0, rfl, fun i hi => by rw [Nat.zero_add, h.cellAt i (by omega)]; exact kvs_get k n i hi⟩
theorem nM_sum {B : Nat} {W : World} {k : Nat → Kd} {Ts : List (List Tn)} (hk : ∀ i (hi : i < Ts.length), Nt B W (k i) Ts[i]) : ∀ m, m ≤ Ts.length → nM k m = 1 + wl (Ts.take m)
  | 0, _ => rfl
  | m + 1, h => by
    show nM k m + (k m).n = _
    rw [nM_sum hk m (by omega), List.take_succ_eq_append_getElem (by omega), wl_app, wl_cons, ← (hk m (by omega)).len]
    show _ = 1 + (_ + (_ + 0))
    omega
theorem tn_flat {B : Nat} {W : World} {k : Nat → Kd} {Ts : List (List Tn)} (hk : ∀ i (hi : i < Ts.length), Nt B W (k i) Ts[i]) : ((List.range Ts.length).map fun j => tnF (k j).f (k j).n) = Ts := by
  apply List.ext_getElem?
  intro j
  rw [List.getElem?_map]
  by_cases hj : j < Ts.length
  · rw [List.getElem?_range hj, List.getElem?_eq_getElem hj, Option.map_some, (hk j hj).tn]
  · rw [List.getElem?_eq_none (by rw [List.length_range]; omega), List.getElem?_eq_none (by omega)]; rfl
theorem nF_ns {B : Nat} {W : World} {k : Nat → Kd} {Ts : List (List Tn)} {d : Nd} (hd : d.m ≤ 100) (hk : ∀ i (hi : i < Ts.length), Nt B W (k i) Ts[i]) (hns : ∀ t ∈ Ts, ∀ x ∈ t, x.ns.length ≤ 100) : ∀ m, m ≤ Ts.length → ∀ j, j < nM k m → (nF d k m j).m ≤ 100
  | 0, _, j, _ => hd
  | m + 1, h, j, hj => by
    show (ap (nF d k m) (nM k m) (k m).f j).m ≤ 100
    unfold ap
    by_cases h1 : j < nM k m
    · rw [if_pos h1]; exact nF_ns hd hk hns m (by omega) j h1
    · rw [if_neg h1]
      have hj : j < nM k m + (k m).n := hj
      have hN := hk m (by omega)
      have hx := hns _ (List.getElem_mem (show m < Ts.length by omega)) (tnOf ((k m).f (j - nM k m))) (by
        rw [← hN.tn]
        exact List.mem_map.2 ⟨j - nM k m, List.mem_range.2 (by omega), rfl⟩)
      have e := (hN.nq.on (j - nM k m) (by omega)).nl
      rw [← e]
      simpa [tnOf] using hx
set_option maxRecDepth 10000 in
set_option maxHeartbeats 6400000 in
theorem grow_is {B lo : Nat} {W : World} {g : Nat} {pa : Option Addr} {n pc i : Nat} {oa : Option Addr} {on oc : Nat} {ta : Option Addr} {tn tc : Nat} {wh : Bool} (d : Nd) (ka : Option Addr) (K kc : Nat) (k : Nat → Kd) (Ts : List (List Tn)) (h : Bk 84 W g (pcs pa n pc i oa on oc ta tn tc wh false))
    (hd : d.on W) (hdm : d.m ≤ 100) (hK : K = Ts.length) (hK3 : K ≤ 10) (hk : ∀ i (hi : i < Ts.length), Nt B W (k i) Ts[i]) (hns : ∀ t ∈ Ts, ∀ x ∈ t, x.ns.length ≤ 100) (hkr : W.ownsRow lo 22 1 (.slice ka K kc) K (kvs k K)) (hw : wl Ts ≤ 1000) {D : Nat} (hX : Dp (tnOf d :: Ts.flatten) 1 D) :
    Calls Tryz.prog 97 #[.pointer (some ⟨g, 0, none⟩), d.val, .slice ka K kc] W fun e W' => ∃ kk : Kd, e = .returned (.slice kk.a kk.n kk.c) ∧ Nt B W' kk (tnOf d :: Ts.flatten) ∧ Bk 84 W' g (pcs pa n pc i oa on oc ta tn tc wh (decide (40 < D))) ∧ Ex [g] W W' := by
  have hb0 := box_below W (.cells #[.int .i64 d.k, .string d.v, .string d.a, .string d.x, .slice d.g d.m d.c] 37)
  have hN := Bk.new 37 W d.cells
  have hP := h.alloc (.cells #[.int .i64 d.k, .string d.v, .string d.a, .string d.x, .slice d.g d.m d.c] 37)
  have hM := nM_sum hk K (by omega)
  have hM2 : nM k K ≤ 1001 := by
    rw [hM, List.take_of_length_le (by omega)]; omega
  have hKN := Node_is d ka K kc k (W.alloc (.cells #[.int .i64 d.k, .string d.v, .string d.a, .string d.x, .slice d.g d.m d.c] 37)) (hd.below hb0) (fun i hi => (hk i (by omega)).nq.below hb0) (own_kids (own_below5 hkr hb0)) (by omega) (by omega) (fun j hj => by
    have := nF_ns hdm hk hns K (by omega) j hj
    omega)
  have htn : tnF (nF d k K) (nM k K) = tnOf d :: Ts.flatten := by
    rw [tnF_nF, hK, tn_flat hk]
  have hl : (tnOf d :: Ts.flatten).length = nM k K := by rw [← htn, tnF_len]
  have KN := Lib.hid hKN
  have HTN := Lib.hid htn
  have HX := Lib.hid hX
  have HB0 := Lib.hid hb0
  have HP := Lib.hid hP
  have c5 := Pc.c5 hP
  have x0 := hN.p0
  have x1 := hN.p1
  have x2 := hN.p2
  have x3 := hN.p3
  have x4 := hN.p4
  have hgl := h.lt
  clear h hd hdm hK hK3 hk hns hkr hw hM hKN htn hX hb0 hN hP hl
  show Calls _ _ #[.pointer (some ⟨g, 0, none⟩), .agg #[.int .i64 d.k, .string d.v, .string d.a, .string d.x, .slice d.g d.m d.c], .slice ka K kc] W _
  generalize nF d k K = F at *
  generalize nM k K = M at *
  generalize tnOf d :: Ts.flatten = X at *
  go_enter Tryz.func97, Tryz.ntmps97
  go_wp2_with fail
  refine KN.out.mono ?_
  rintro e w1 ⟨v, G, rfl, hown, hon, hsm, hb1, hsb⟩
  obtain ⟨a1, c1, rfl, hc1, hc2, hq1⟩ := own_nq hown hon
  have hty : 0 < M → ∃ b off cur fr, a1 = some ⟨b, off, none⟩ ∧ w1.heap[b]? = some (Obj.cells cur 37 fr) := by
    intro hM
    rcases hown.2 with ⟨h0, _⟩ | ⟨g', cap', cur', h1, _, h2, _⟩
    · cases h0; omega
    · cases h1
      exact ⟨g', 0, cur', _, rfl, h2⟩
  have htG : tnF G M = X := by rw [tnF_same hsm]; exact HTN.out
  have hNt : Nt B w1 ⟨a1, M, c1, G⟩ X := ⟨hq1, hc1, hc2, htG, hty, hsb⟩
  have hP1 := HP.out.below hb1 HP.out.lt
  have hbb := HB0.out.trans (hb1.mono HB0.out.size)
  have KD := Lib.hid (Depth_some a1 M c1 G M D w1 hq1 hc1 hc2 (by omega) (deep_tn htG HX.out))
  have HNT := Lib.hid hNt
  have HP1 := Lib.hid hP1
  have HBB := Lib.hid hbb
  clear hown hon hsm hb1 hsb hq1 hty htG hNt hP1 hbb c5 x0 x1 x2 x3 x4 KN HTN HX HB0 HP hc1 hc2
  go_wp2_with fail
  refine KD.out.mono ?_
  rintro e w2 ⟨rfl, hb2⟩
  have hP2 := HP1.out.below hb2 HP1.out.lt
  have f5 := hP2.f 5
  have c5 := Pc.c5 hP2
  have HP2 := Lib.hid hP2
  have HNT2 := Lib.hid (HNT.out.ex (Ex.of [] hb2) (Off.none _))
  have HX2 := Lib.hid ((Ex.of [g] HBB.out).trans (Ex.of [g] (hb2.mono (Nat.le_refl _))))
  clear hb2 hP2 KD
  have key : ∀ b : Bool, b = decide (40 < D) → (Nt B (w2.setCell ⟨g, 5, none⟩ (.bool b)) ⟨a1, M, c1, G⟩ X ∧ Bk 84 (w2.setCell ⟨g, 5, none⟩ (.bool b)) g (pcs pa n pc i oa on oc ta tn tc wh (decide (40 < D))) ∧ Ex [g] W (w2.setCell ⟨g, 5, none⟩ (.bool b))) := by
    rintro b rfl
    exact ⟨HNT2.out.ex (Ex.setCell (Ex.refl [g] w2) (p := ⟨g, 5, none⟩) (.inl List.mem_cons_self) _) (Off.one HP2.out (by decide) (by decide) (by decide)), HP2.out.set 5 _, HX2.out.setCell (p := ⟨g, 5, none⟩) (.inl List.mem_cons_self) _⟩
  have HKEY := Lib.hid key
  clear key
  by_cases h40 : 40 < D
  · have e4 : (40 : Int) < (D : Int) := by omega
    go_wp2_with fail
    go_ret
    exact ⟨⟨a1, M, c1, G⟩, rfl, HKEY.out true (by simp [h40])⟩
  · have e4 : ¬ (40 : Int) < (D : Int) := by omega
    go_wp2_with fail
    go_ret
    exact ⟨⟨a1, M, c1, G⟩, rfl, HKEY.out _ (decide_eq_decide.2 (by omega))⟩
theorem grow_deep {W : World} {g : Nat} {pa : Option Addr} {n pc i : Nat} {oa : Option Addr} {on oc : Nat} {ta : Option Addr} {tn tc : Nat} {wh : Bool} (d : Nd) (ka : Option Addr) (K kc : Nat) (h : Bk 84 W g (pcs pa n pc i oa on oc ta tn tc wh true)) :
    Calls Tryz.prog 97 #[.pointer (some ⟨g, 0, none⟩), d.val, .slice ka K kc] W (ValEnd (.slice none 0 0) W) := by
  have hb0 := box_below W (.cells #[.int .i64 d.k, .string d.v, .string d.a, .string d.x, .slice d.g d.m d.c] 37)
  have hP := h.alloc (.cells #[.int .i64 d.k, .string d.v, .string d.a, .string d.x, .slice d.g d.m d.c] 37)
  have c5 := Pc.c5 hP
  have hgl := h.lt
  have HB0 := Lib.hid hb0
  clear h hP hb0
  show Calls _ _ #[.pointer (some ⟨g, 0, none⟩), .agg #[.int .i64 d.k, .string d.v, .string d.a, .string d.x, .slice d.g d.m d.c], .slice ka K kc] W _
  go_enter Tryz.func97, Tryz.ntmps97
  go_wp2_with fail
  go_ret
  exact ⟨rfl, HB0.out⟩
end Go.Proofs.YtljkmdmbndjngaaGreat
/-
  The parser's state in memory as a whole: its box, its parts, its stack; what stays.
-/
namespace Go.Proofs.YtljkmdmbndjngaaGreat
set_option linter.unusedVariables false
set_option linter.unusedSimpArgs false
open Go.RowKit

theorem ps_mark {q : Pk} (h : Ps q) {c : UInt8} (hc : cls c = 6) (ht : q.t = [c]) : q.k = 6 := by
  obtain ⟨c', t, e, hk, _⟩ := h.of
  rw [ht] at e
  injection e with e _
  rw [hk, ← e, hc]; rfl
theorem ps_one {q : Pk} (h : Ps q) (hk : q.k = 5 ∨ q.k = 6) : ∃ c, q.t = [c] := by
  obtain ⟨c, t, e, hk', _, _, _, hm⟩ := h.of
  cases t with
  | nil => exact ⟨c, e⟩
  | cons d t =>
    have h2 : cls c = 5 ∨ cls c = 6 := by rcases hk with hk | hk <;> omega
    have := hm d List.mem_cons_self
    rcases h2 with h2 | h2 <;> rw [h2] at this <;> cases this
theorem ps_ne {q : Pk} (h : Ps q) : q.t ≠ [] := by
  obtain ⟨c, t, e, _⟩ := h.of
  rw [e]; simp
theorem ps_kind {q : Pk} (h : Ps q) : 1 ≤ q.k ∧ q.k ≤ 6 := by
  obtain ⟨c, t, e, hk, h1, h6, _⟩ := h.of
  omega
/-- All parts as Lex tells them. -/
def Pall (ts : List Tk) : Prop := ∀ q ∈ pks ts, Ps q ∧ q.t.length ≤ 256
theorem Pall.at {ts : List Tk} (h : Pall ts) {i : Nat} {q : Pk} {l : List Pk} (e : (pks ts).drop i = q :: l) : Ps q ∧ q.t.length ≤ 256 := h q (List.mem_of_mem_drop (show q ∈ (pks ts).drop i by rw [e]; exact List.mem_cons_self))
theorem drop_next {ts : List Tk} {i : Nat} {q : Pk} {l : List Pk} (e : (pks ts).drop i = q :: l) : (pks ts).drop (i + 1) = l ∧ i < ts.length := by
  refine ⟨by rw [← List.drop_drop, e]; rfl, ?_⟩
  rcases Nat.lt_or_ge i ts.length with h | h
  · exact h
  · rw [pks_out h] at e; cases e
theorem Pall.mk {ts : List Tk} (h : Pall ts) {i : Nat} {c : UInt8} (hc : cls c = 6) : isMk c ((pks ts).drop i) ↔ tx0 ((pks ts).drop i) = [c] := by
  cases e : (pks ts).drop i with
  | nil => exact ⟨fun h => h.elim, fun h => by cases h⟩
  | cons q l => exact ⟨fun h => h.2, fun g => ⟨ps_mark (h.at e).1 hc g, g⟩⟩
theorem Pall.vb {ts : List Tk} (h : Pall ts) {i : Nat} : isVb ((pks ts).drop i) ↔ (kd0 ((pks ts).drop i) = 4 ∨ kd0 ((pks ts).drop i) = 3 ∨ tx0 ((pks ts).drop i) = [123]) := by
  cases e : (pks ts).drop i with
  | nil => exact ⟨fun h => h.elim, fun h => by rcases h with h | h | h <;> cases h⟩
  | cons q l =>
    refine ⟨fun g => ?_, fun g => ?_⟩
    · rcases g with g | g | g
      · exact .inr (.inl g)
      · exact .inl g
      · exact .inr (.inr g.2)
    · rcases g with g | g | g
      · exact .inr (.inl g)
      · exact .inl g
      · exact .inr (.inr ⟨ps_mark (h.at e).1 (by decide) g, g⟩)

/-- The parts' slice, and what its block is. -/
structure Pq (W : World) (a : Option Addr) (ts : List Tk) : Prop where
  qs : Qs W a ts.length (rtk ts)
  ty : 0 < ts.length → ∃ b off cur fr, a = some ⟨b, off, none⟩ ∧ W.heap[b]? = some (Obj.cells cur 80 fr)
theorem Pq.kept {W W' : World} {a : Option Addr} {ts : List Tk} (h : Pq W a ts) (hk : ∀ (b : Nat) (cur : Array Value) (fr : Nat × Nat), W.heap[b]? = some (Obj.cells cur 80 fr) → W'.heap[b]? = W.heap[b]?) : Pq W' a ts := by
  refine ⟨fun hn => ?_, fun hn => ?_⟩
  · obtain ⟨b, off, e, hc⟩ := h.qs hn
    obtain ⟨b', off', cur, fr, e', hb⟩ := h.ty hn
    rw [e] at e'
    cases e'
    have hw := hk b cur fr hb
    exact ⟨b, off, e, fun j hj => ⟨(World.cell?_of_block (a := ⟨b, off + j * 3, none⟩) hw).trans (hc j hj).1, (World.cell?_of_block (a := ⟨b, off + j * 3 + 1, none⟩) hw).trans (hc j hj).2.1, (World.cell?_of_block (a := ⟨b, off + j * 3 + 2, none⟩) hw).trans (hc j hj).2.2⟩⟩
  · obtain ⟨b, off, cur, fr, e, hb⟩ := h.ty hn
    exact ⟨b, off, cur, fr, e, (hk b cur fr hb).trans hb⟩
theorem Pq.ex {W W' : World} {S : List Nat} {a : Option Addr} {ts : List Tk} (h : Pq W a ts) (hx : Ex S W W') (ho : Off S W) : Pq W' a ts := h.kept fun b cur fr hb => hx.block b (Array.getElem?_eq_some_iff.1 hb).1 fun hm => (ho b hm _ _ _ hb).2.2 rfl
/-- What is kept by the parser's own doing: all ahead of a base, and nodes, texts, parts wherever they are. -/
structure Fr (B : Nat) (W W' : World) : Prop where
  below : Below B W W'
  kept : ∀ (b : Nat) (cur : Array Value) (fr : Nat × Nat) (t : TypeId), W.heap[b]? = some (Obj.cells cur t fr) → (t = 37 ∨ t = 9 ∨ t = 80) → W'.heap[b]? = W.heap[b]?
section
variable {B : Nat} {W w W' : World}
theorem Fr.refl (B : Nat) (W : World) : Fr B W W := ⟨Below.refl _ _, fun _ _ _ _ _ _ => rfl⟩
theorem Fr.trans (h : Fr B W w) (h2 : Fr B w W') : Fr B W W' := ⟨h.below.trans h2.below, fun b cur fr t hb ht => (h2.kept b cur fr t ((h.kept b cur fr t hb ht).trans hb) ht).trans (h.kept b cur fr t hb ht)⟩
theorem Fr.of {S : List Nat} (h : Ex S W W') (ho : Off S W) (hB : B ≤ W.heap.size) (hs : ∀ k ∈ S, B ≤ k) : Fr B W W' := by
  refine ⟨h.below hB hs, fun b cur fr t hb ht => h.block b (Array.getElem?_eq_some_iff.1 hb).1 fun hm => ?_⟩
  have := ho b hm cur fr t hb
  rcases ht with h | h | h
  · exact this.1 h
  · exact this.2.1 h
  · exact this.2.2 h
theorem Fr.ofB (h : Below W.heap.size W W') (hB : B ≤ W.heap.size) : Fr B W W' := Fr.of (Ex.of [] h) (Off.none _) hB (fun k hk => by cases hk)
theorem Fr.pq (h : Fr B W W') {a : Option Addr} {ts : List Tk} (hq : Pq W a ts) : Pq W' a ts := hq.kept fun b cur fr hb => h.kept b cur fr _ hb (.inr (.inr rfl))
theorem Fr.tok (h : Fr B W W') {g : Nat} {cs : List Value} (hb : Bk 80 W g cs) : Bk 80 W' g cs := (h.kept g _ _ _ hb (.inr (.inr rfl))).trans hb
theorem Fr.node (h : Fr B W W') {g : Nat} {cs : List Value} (hb : Bk 37 W g cs) : Bk 37 W' g cs := (h.kept g _ _ _ hb (.inl rfl)).trans hb
end
/-- Trees in a row, to be put below. -/
structure KR (B : Nat) (W : World) (dp : Bool) (lo : Nat) (ka : Option Addr) (kn kc : Nat) (kd : Nat → Kd) (ls : List (List Tn)) : Prop where
  kl : kn = ls.length
  row : W.ownsRow lo 22 1 (.slice ka kn kc) kn (kvs kd kn)
  lo : B ≤ lo
  nt : dp = false → ∀ i (h : i < ls.length), Nt B W (kd i) ls[i]
theorem KR.ex {B : Nat} {W W' : World} {S : List Nat} {dp : Bool} {lo : Nat} {ka : Option Addr} {kn kc : Nat} {kd : Nat → Kd} {ls : List (List Tn)} (h : KR B W dp lo ka kn kc kd ls) (hx : Ex S W W') (ho : Off S W) (hk : ∀ k, (Value.slice ka kn kc).ownBlock = some k → k ∉ S) : KR B W' dp lo ka kn kc kd ls :=
  ⟨h.kl, own_ex h.row hx hk, h.lo, fun hd i hi => (h.nt hd i hi).ex hx ho⟩
theorem KR.nil (B : Nat) (W : World) (dp : Bool) (lo : Nat) (hlo : B ≤ lo) (kd : Nat → Kd) : KR B W dp lo none 0 0 kd [] := ⟨rfl, World.ownsRow_nil _ _ _ _, hlo, fun _ i h => absurd h (Nat.not_lt_zero _)⟩
/-- The parser as a whole. -/
structure PM (B : Nat) (ts : List Tk) (W : World) (g : Nat) (pa : Option Addr) (n pc i : Nat) (oa : Option Addr) (on oc : Nat) (ta : Option Addr) (tn tc : Nat) (wh dp : Bool) (ms : List Mb) (K : List Bg) : Prop where
  bk : Bk 84 W g (pcs pa n pc i oa on oc ta tn tc wh dp)
  pq : Pq W pa ts
  hn : n = ts.length
  row : W.ownsRow B 129 7 (.slice oa on oc) on (obs ms)
  hon : on = ms.length
  sr : SR B W dp ms K
  hg : B ≤ g
section
variable {B : Nat} {ts : List Tk} {W W' : World} {g : Nat} {pa : Option Addr} {n pc i : Nat} {oa : Option Addr} {on oc : Nat} {ta : Option Addr} {tn tc : Nat} {wh dp : Bool} {ms : List Mb} {K : List Bg}
theorem PM.size (h : PM B ts W g pa n pc i oa on oc ta tn tc wh dp ms K) : B ≤ W.heap.size := Nat.le_trans h.hg (Nat.le_of_lt h.bk.lt)
theorem PM.len (h : PM B ts W g pa n pc i oa on oc ta tn tc wh dp ms K) : on = K.length := h.hon.trans h.sr.len
theorem PM.offg (h : PM B ts W g pa n pc i oa on oc ta tn tc wh dp ms K) : Off [g] W := Off.one h.bk (by decide) (by decide) (by decide)
theorem PM.offs (h : PM B ts W g pa n pc i oa on oc ta tn tc wh dp ms K) : Off (g :: (Value.slice oa on oc).ownBlock.toList) W := h.offg.app (Off.row h.row (by decide) (by decide) (by decide))
theorem PM.base (h : PM B ts W g pa n pc i oa on oc ta tn tc wh dp ms K) : ∀ k ∈ g :: (Value.slice oa on oc).ownBlock.toList, B ≤ k := by
  intro k hk
  rcases List.mem_cons.1 hk with rfl | hk
  · exact h.hg
  · exact (h.row.lt k (by simpa using hk)).1
/-- The stack's row, where what has changed is elsewhere. -/
theorem PM.ownG (h : PM B ts W g pa n pc i oa on oc ta tn tc wh dp ms K) : ∀ k, (Value.slice oa on oc).ownBlock = some k → k ∉ [g] := by
  intro k hk hm
  rcases List.mem_singleton.1 hm with rfl
  exact own_not h.row h.bk (by decide) (by rw [hk]; simp)
theorem SR.not {l : List Mb} (h : SR B W dp l K) {S : List Nat} (hS : ∀ s ∈ S, ∃ cur t fr, W.heap[s]? = some (.cells cur t fr) ∧ t ≠ 22) : ∀ c ∈ l, ∀ k, (Value.slice c.ka c.kn c.kc).ownBlock = some k → k ∉ S := by
  intro c hc k hk hm
  obtain ⟨cur, t, fr, h1, h2⟩ := hS k hm
  exact h.off h1 h2 c hc k hk rfl
theorem PM.tyS (h : PM B ts W g pa n pc i oa on oc ta tn tc wh dp ms K) : ∀ s ∈ g :: (Value.slice oa on oc).ownBlock.toList, ∃ cur t fr, W.heap[s]? = some (.cells cur t fr) ∧ t ≠ 22 := by
  intro s hs
  rcases List.mem_cons.1 hs with rfl | hs
  · exact ⟨_, _, _, h.bk, by decide⟩
  · have hs : (Value.slice oa on oc).ownBlock = some s := by simpa using hs
    rcases h.row.2 with ⟨h1, _⟩ | ⟨k, cap, cur, h1, _, h2, _⟩
    · rw [h1] at hs; cases hs
    · rw [h1] at hs
      cases hs
      exact ⟨_, _, _, h2, by decide⟩
theorem PM.tyG (h : PM B ts W g pa n pc i oa on oc ta tn tc wh dp ms K) : ∀ s ∈ [g], ∃ cur t fr, W.heap[s]? = some (.cells cur t fr) ∧ t ≠ 22 := by
  intro s hs
  rcases List.mem_singleton.1 hs with rfl
  exact ⟨_, _, _, h.bk, by decide⟩
/-- Only the parser's own box has changed. -/
theorem PM.ex (h : PM B ts W g pa n pc i oa on oc ta tn tc wh dp ms K) (hx : Ex [g] W W') {i' : Nat} {ta' : Option Addr} {tn' tc' : Nat} {wh' : Bool} (hb : Bk 84 W' g (pcs pa n pc i' oa on oc ta' tn' tc' wh' dp)) : PM B ts W' g pa n pc i' oa on oc ta' tn' tc' wh' dp ms K :=
  ⟨hb, h.pq.ex hx h.offg, h.hn, own_ex h.row hx h.ownG, h.hon, h.sr.ex hx h.offg (h.sr.not h.tyG), h.hg⟩
theorem PM.below (h : PM B ts W g pa n pc i oa on oc ta tn tc wh dp ms K) (hb : Below W.heap.size W W') : PM B ts W' g pa n pc i oa on oc ta tn tc wh dp ms K := h.ex (Ex.of [g] hb) (h.bk.on hb)
/-- Too deep from now on, perhaps. -/
theorem PM.deeper {dp' : Bool} (h : PM B ts W g pa n pc i oa on oc ta tn tc wh dp ms K) (hx : Ex [g] W W') {i' : Nat} {ta' : Option Addr} {tn' tc' : Nat} {wh' : Bool} (hb : Bk 84 W' g (pcs pa n pc i' oa on oc ta' tn' tc' wh' dp')) (hd : dp = true → dp' = true) : PM B ts W' g pa n pc i' oa on oc ta' tn' tc' wh' dp' ms K := by
  have h2 := h.sr.ex hx h.offg (h.sr.not h.tyG)
  refine ⟨hb, h.pq.ex hx h.offg, h.hn, own_ex h.row hx h.ownG, h.hon, ?_, h.hg⟩
  cases dp' with
  | true => exact h2.deep
  | false => cases dp with
    | false => exact h2
    | true => exact absurd (hd rfl) (by decide)
/-- Something is begun. -/
theorem PM.push (h : PM B ts W g pa n pc i oa on oc ta tn tc wh dp ms K) (hx : Ex (g :: (Value.slice oa on oc).ownBlock.toList) W W') {b : Mb} {p : Bg} {oa' : Option Addr} {oc' : Nat} (hb : Bk 84 W' g (pcs pa n pc i oa' (on + 1) oc' ta tn tc wh dp)) (hr : W'.ownsRow B 129 7 (.slice oa' (on + 1) oc') (on + 1) (obs (b :: ms)))
    (hk : KR B W dp b.lo b.ka b.kn b.kc b.kd p.ks) (hnode : tnOf b.d = p.n) (hdm : b.d.m = 0) (hon : b.d.on W) (hu : b.u.data.toList = p.u.toList) (hlo : ∀ c ∈ ms, ∀ k, (Value.slice c.ka c.kn c.kc).ownBlock = some k → k < b.lo) (hkS : ∀ k, (Value.slice b.ka b.kn b.kc).ownBlock = some k → k ∉ g :: (Value.slice oa on oc).ownBlock.toList) :
    PM B ts W' g pa n pc i oa' (on + 1) oc' ta tn tc wh dp (b :: ms) (p :: K) := by
  have hk2 := hk.ex hx h.offs hkS
  exact ⟨hb, h.pq.ex hx h.offs, h.hn, hr, by rw [h.hon]; rfl, ⟨⟨hnode, hdm, on_any hon hdm, hu, hk2.kl, hk2.row, hk2.lo, hk2.nt⟩, hlo, h.sr.ex hx h.offs (h.sr.not h.tyS)⟩, h.hg⟩
end
end Go.Proofs.YtljkmdmbndjngaaGreat
/-
  The parser's small steps: numbers, withAdv.
-/
namespace Go.Proofs.YtljkmdmbndjngaaGreat
set_option linter.unusedVariables false
set_option linter.unusedSimpArgs false
open Go.RowKit

def slN : Value → Nat
  | .slice _ n _ => n
  | _ => 0
theorem tok_f0 (k : Int) (x : ByteArray) (p : Int) (w : World) : (Instr.field 80 (.agg #[.int .i64 k, .string x, .int .i64 p]) 0).run Tryz.prog w = .ok (.int .i64 k) w := by kernel_rfl
theorem tok_f1 (k : Int) (x : ByteArray) (p : Int) (w : World) : (Instr.field 80 (.agg #[.int .i64 k, .string x, .int .i64 p]) 1).run Tryz.prog w = .ok (.string x) w := by kernel_rfl
theorem kd0_at {l : List Pk} {k : Nat} {q : Pk} {r : List Pk} (h : l.drop k = q :: r) : kd0 (l.drop k) = q.k := by rw [h]; rfl
set_option maxRecDepth 10000 in
set_option maxHeartbeats 3200000 in
theorem numbers_is (ts : List Tk) (hP : Pall ts) {W : World} {g : Nat} {pa : Option Addr} {n pc i : Nat} {oa : Option Addr} {on oc : Nat} {ta : Option Addr} {tn tc : Nat} {wh dp : Bool} (h : Bk 84 W g (pcs pa n pc i oa on oc ta tn tc wh dp)) (hq : Pq W pa ts) (hn : n = ts.length) (hm : n ≤ 300) (hi : i ≤ n) {N : Nat} (hN : N = ((nmL ((pks ts).drop i)).take 100).length) :
    Calls Tryz.prog 98 #[.pointer (some ⟨g, 0, none⟩)] W fun e W' => ∃ a c, e = .returned (.slice a N c) ∧ W'.ownsRow W.heap.size 9 1 (.slice a N c) N (valsS (numsL ((pks ts).drop i) N)) ∧ Bk 84 W' g (pcs pa n pc (i + N) oa on oc ta tn tc wh dp) ∧ Ex [g] W W' := by
  have K1 := Lib.hid (fun w k (hb : Bk 84 w g (pcs pa n pc (i + k) oa on oc ta tn tc wh dp)) (hx : Ex [g] W w) => by
    have := next_is ts hb (hn ▸ (hq.ex hx (Off.one h (by decide) (by decide) (by decide))).qs) hn hm
    rwa [← List.drop_drop] at this : ∀ w (k : Nat), Bk 84 w g (pcs pa n pc (i + k) oa on oc ta tn tc wh dp) → Ex [g] W w → Calls Tryz.prog 96 #[.pointer (some ⟨g, 0, none⟩)] w (NxEnd (((pks ts).drop i).drop k) w))
  have hl : ((pks ts).drop i).length = n - i := by rw [List.length_drop, pks_len, hn]
  have hT : ∀ q ∈ (pks ts).drop i, q.t.length ≤ 256 := fun q hq => (hP q (List.mem_of_mem_drop hq)).2
  have KN := Lib.hid (fun (t : List UInt8) (ht : t.length ≤ 256) w => Number_is t (by omega) w)
  generalize (pks ts).drop i = l at *
  have hNl := nmL_le l
  rw [List.length_take] at hN
  have HNN := Lib.hid (show N ≤ 100 ∧ N ≤ (nmL l).length ∧ (N < 100 → N = (nmL l).length) by omega)
  have hN1 : N ≤ 100 := by omega
  have HT := Lib.hid hT
  have hNn : i + N ≤ 300 := by omega
  have H0 := Lib.hid h
  clear hq hn hm hi hl hT hNl hN h
  go_enter Tryz.func98, Tryz.ntmps98
  go_wp2_with fail
  go_loopw [3] (fun nv wr => ∃ k : Nat, k ≤ N ∧ wr.ownsRow W.heap.size 9 1 nv k (valsS (numsL l k)) ∧ Bk 84 wr g (pcs pa n pc (i + k) oa on oc ta tn tc wh dp) ∧ Ex [g] W wr) (fun nv _ => 101 - slN nv)
  case atStart => exact ⟨0, by omega, World.ownsRow_nil _ _ _ _, H0.out, Ex.refl _ _⟩
  case round =>
    obtain ⟨k, hk, ho, hB, hx⟩ := hrel
    obtain ⟨a0, c0, rfl, hca, hcb, _⟩ := own_st ho
    by_cases hlt : k < N
    · obtain ⟨q, l', hq1, hq2, hq3⟩ := nmL_at (ts := l) (k := k) (by have := HNN.out; omega)
      have hqt : q.t.length ≤ 256 := HT.out q (List.mem_of_mem_drop (show q ∈ l.drop k by rw [hq1]; exact List.mem_cons_self))
      have A1 := Lib.hid (fun w (hb : Bk 84 w g (pcs pa n pc (i + k) oa on oc ta tn tc wh dp)) (hx : Ex [g] W w) => by
        have := K1.out w k hb hx
        rwa [hq1, show NxEnd (q :: l') w = fun e W' => ∃ p : Int, e = .returned (.agg #[.int .i64 1, .string (tx q.t), .int .i64 p]) ∧ Below w.heap.size w W' by unfold NxEnd; rw [show kd0 (q :: l') = q.k from rfl, hq2]; rfl] at this)
      have A3 := Lib.hid (fun w => KN.out q.t hqt w)
      have HNS := Lib.hid (numsL_succ (l := l) hq3)
      generalize tx q.t = T at *
      generalize numB q.t = nb at *
      have e1 : (k : Int) < 100 := by omega
      have HO := Lib.hid ho
      have HB := Lib.hid hB
      have HX := Lib.hid hx
      clear hqt hq1 hq2 hq3 ho hB hx
      go_wp2_with fail
      refine (A1.out wr HB.out HX.out).mono ?_
      rintro e w1 ⟨p1, rfl, hb1⟩
      have hf := tok_f0
      have hB1 := HB.out.on hb1
      have hx1 := HX.out.trans (Ex.of [g] hb1)
      have ho1 := own_below5 HO.out hb1
      clear hb1
      have HB1 := Lib.hid hB1
      have HX1 := Lib.hid hx1
      have HO1 := Lib.hid ho1
      clear hB1 hx1 ho1
      go_wp2_with fail
      refine (A1.out w1 HB1.out HX1.out).mono ?_
      rintro e w2 ⟨p2, rfl, hb2⟩
      have hf1 := tok_f1
      have hB2 := HB1.out.on hb2
      have hx2 := HX1.out.trans (Ex.of [g] hb2)
      have ho2 := own_below5 HO1.out hb2
      clear hb2
      have HB2 := Lib.hid hB2
      have HX2 := Lib.hid hx2
      have HO2 := Lib.hid ho2
      clear hB2 hx2 ho2
      go_wp2_with fail
      refine (A3.out w2).mono ?_
      rintro e w3 ⟨rfl, rfl⟩
      generalize tx (numT q.t) = TN at *
      clear A1 A3 K1
      have hsz := HX2.out.size
      have hBa := HB2.out.alloc (.cells #[.string TN] 9)
      have hxa := HX2.out.alloc (.cells #[.string TN] 9)
      have hglt := H0.out.lt
      obtain ⟨i0, hi0, hz0, hz1, hz2⟩ := info_parts infoS
      go_wp2_with (at_builtin; refine wpList_append_own _ rfl (.tmp 22) (.tmp 24) 35 rfl (W.heap.size) 9 i0 (.string ⟨#[]⟩) 1 16 Tryz.underlying35 hi0 hz0 hz1 hz2 rfl (by decide) _ _ _ rfl (HO2.out.alloc _) ⟨w2.heap.size, 0, none⟩ 1 1 [.string TN] rfl rfl ?c1 ?c2 ?c3 ?c4 ?c5 ?_)
      case c1 =>
        intro j u hj
        rw [Go.WideShapes.add_plain, Nat.zero_add]
        exact (Bk.new 9 w2 [.string TN]).c j |>.trans hj
      case c2 => intro u hu; rw [List.mem_singleton] at hu; rw [hu]; rfl
      case c3 => unfold maxLen; omega
      case c4 => omega
      case c5 => show _ ≤ (w2.heap.push _).size; simp; omega
      intro v1 w4 hown1 hg1 _
      have hnob : ∀ q, (Value.slice a0 k c0).ownBlock = some q → W.heap.size ≤ q := fun q hq => (HO2.out.lt q hq).1
      have hx4 := hxa.grown hg1 (fun q hq => .inr (hnob q hq))
      have hB4 : Bk 84 w4 g (pcs pa n pc (i + k) oa on oc ta tn tc wh dp) := (hg1.block g hBa.lt (fun e => by have := hnob g e.symm; omega)).trans hBa
      rw [show valsS (numsL l k) ++ [Value.string TN] = valsS (numsL l (k + 1)) by rw [HNS.out]; unfold valsS; rw [List.map_append]; rfl] at hown1
      obtain ⟨a1, c1, rfl, hc1, hc2, _⟩ := own_st hown1
      have c1' := Pc.c1 hB4
      have f1 := hB4.f 1
      have w3 : IntKind.i64.wrap (((i + k : Nat) : Int) + 1) = ((i + k : Nat) : Int) + 1 := wrn (by omega) (by omega)
      have HO4 := Lib.hid hown1
      have HB4 := Lib.hid hB4
      have HX4 := Lib.hid hx4
      clear hnob hx4 hB4 hown1 hg1 hBa hxa
      go_wp2_with fail
      have hB5 : Bk 84 (w4.setCell ⟨g, 1, none⟩ (.int .i64 (((i + k : Nat) : Int) + 1))) g (pcs pa n pc (i + (k + 1)) oa on oc ta tn tc wh dp) := by
        have := HB4.out.set 1 (.int .i64 (((i + k : Nat) : Int) + 1))
        rwa [show (pcs pa n pc (i + k) oa on oc ta tn tc wh dp).set 1 (.int .i64 (((i + k : Nat) : Int) + 1)) = pcs pa n pc (i + (k + 1)) oa on oc ta tn tc wh dp by unfold pcs; rw [show ((i + (k + 1) : Nat) : Int) = ((i + k : Nat) : Int) + 1 by omega]; rfl] at this
      have hx5 := HX4.out.setCell (p := ⟨g, 1, none⟩) (.inl List.mem_cons_self) (.int .i64 (((i + k : Nat) : Int) + 1))
      have ho5 := (own_ex HO4.out (Ex.setCell (Ex.refl [g] w4) (p := ⟨g, 1, none⟩) (.inl List.mem_cons_self) (.int .i64 (((i + k : Nat) : Int) + 1))) (fun q hq hm => by
        rcases List.mem_singleton.1 hm with rfl
        have := (HO4.out.lt q hq).1
        omega))
      refine ⟨⟨k + 1, by omega, ho5, ?_, hx5⟩, by simp [slN]; omega⟩
      exact hB5
    · obtain rfl : k = N := by omega
      have HO := Lib.hid ho
      have HB := Lib.hid hB
      have HX := Lib.hid hx
      by_cases h100 : k < 100
      · have A1 := K1.out wr k hB hx
        have hne : kd0 (l.drop k) ≠ 1 := by
          have := HNN.out.2.2 h100
          rw [this]
          exact fun e => nmL_stop ((kd0_yes (by decide)).1 e)
        unfold NxEnd at A1
        generalize kd0 (l.drop k) = kk at *
        generalize tx (tx0 (l.drop k)) = TT at *
        have ek : (kk == 1) = false := beq_eq_false_iff_ne.2 hne
        have e1 : (k : Int) < 100 := by omega
        have HA := Lib.hid A1
        clear A1 ho hB hx hne K1 hlt
        go_wp2_with fail
        refine HA.out.mono ?_
        rintro e w1 ⟨p1, rfl, hb1⟩
        have hf := tok_f0
        have hB1 := HB.out.on hb1
        have hx1 := HX.out.trans (Ex.of [g] hb1)
        have ho1 := own_below5 HO.out hb1
        clear hb1
        have HB1 := Lib.hid hB1
        have HX1 := Lib.hid hx1
        have HO1 := Lib.hid ho1
        clear hB1 hx1 ho1
        go_wp2_with fail
        go_ret
        exact ⟨_, _, rfl, HO1.out, HB1.out, HX1.out⟩
      · have e1 : ¬ (k : Int) < 100 := by omega
        clear ho hB hx K1 hlt
        go_wp2_with fail
        go_ret
        exact ⟨_, _, rfl, HO.out, HB.out, HX.out⟩
end Go.Proofs.YtljkmdmbndjngaaGreat
/-
  The parser's withAdv.
-/
namespace Go.Proofs.YtljkmdmbndjngaaGreat
set_option linter.unusedVariables false
set_option linter.unusedSimpArgs false
open Go.RowKit

/-- Is an adverb next that a verb of a kind may have? -/
def hasA (k : Int) (l : List Pk) : Bool := decide (kd0 l = 5) && (advs k).any fun c => tx0 l == [c]
def advA (k : Int) (l : List Pk) : List UInt8 := if hasA k l then tx0 l else []
def advN (k : Int) (l : List Pk) : Nat := if hasA k l then 1 else 0
theorem hasA_one {k : Int} {l : List Pk} {c : UInt8} (h5 : kd0 l = 5) (hc : tx0 l = [c]) : decide (0 ≤ Lib.indexByte (advs k) c) = hasA k l := by
  unfold hasA
  rw [h5, hc]
  refine Bool.eq_iff_iff.2 ?_
  have h := adv_one c (advs k)
  rw [show advB ⟨#[c]⟩ (advs k) = (advs k).any fun d => [c] == [d] from Bool.false_or _] at h
  rw [decide_eq_true_iff, indexByte_nn, ← h]
  simp
theorem hasA_no {k : Int} {l : List Pk} (h5 : kd0 l ≠ 5) : hasA k l = false := by unfold hasA; rw [decide_eq_false h5]; rfl
section
variable {t : TypeId} {W : World} {g : Nat}
theorem Bk.set5 {c0 c1 c2 c3 c4 : Value} (h : Bk t W g [c0, c1, c2, c3, c4]) (u0 u1 u2 u3 u4 : Value) : Bk t (((((W.setCell ⟨g, 0, none⟩ u0).setCell ⟨g, 1, none⟩ u1).setCell ⟨g, 2, none⟩ u2).setCell ⟨g, 3, none⟩ u3).setCell ⟨g, 4, none⟩ u4) g [u0, u1, u2, u3, u4] := ((((h.set 0 u0).set 1 u1).set 2 u2).set 3 u3).set 4 u4
theorem Bk.far5 {cs : List Value} {k : Nat} (h : Bk t W g cs) (hk : g ≠ k) (u0 u1 u2 u3 u4 : Value) : Bk t (((((W.setCell ⟨k, 0, none⟩ u0).setCell ⟨k, 1, none⟩ u1).setCell ⟨k, 2, none⟩ u2).setCell ⟨k, 3, none⟩ u3).setCell ⟨k, 4, none⟩ u4) g cs := ((((h.setOther (p := ⟨k, 0, none⟩) hk u0).setOther (p := ⟨k, 1, none⟩) hk u1).setOther (p := ⟨k, 2, none⟩) hk u2).setOther (p := ⟨k, 3, none⟩) hk u3).setOther (p := ⟨k, 4, none⟩) hk u4
theorem Ex.set5 {S : List Nat} {w : World} {k : Nat} (h : Ex S w W) (hk : w.heap.size ≤ k) (u0 u1 u2 u3 u4 : Value) : Ex S w (((((W.setCell ⟨k, 0, none⟩ u0).setCell ⟨k, 1, none⟩ u1).setCell ⟨k, 2, none⟩ u2).setCell ⟨k, 3, none⟩ u3).setCell ⟨k, 4, none⟩ u4) := ((((h.setCell (p := ⟨k, 0, none⟩) (.inr hk) u0).setCell (p := ⟨k, 1, none⟩) (.inr hk) u1).setCell (p := ⟨k, 2, none⟩) (.inr hk) u2).setCell (p := ⟨k, 3, none⟩) (.inr hk) u3).setCell (p := ⟨k, 4, none⟩) (.inr hk) u4
end
/-- One part on. -/
theorem Bk.step {W : World} {g : Nat} {pa : Option Addr} {n pc i : Nat} {oa : Option Addr} {on oc : Nat} {ta : Option Addr} {tn tc : Nat} {wh dp : Bool} (h : Bk 84 W g (pcs pa n pc i oa on oc ta tn tc wh dp)) : Bk 84 (W.setCell ⟨g, 1, none⟩ (.int .i64 ((i : Int) + 1))) g (pcs pa n pc (i + 1) oa on oc ta tn tc wh dp) := h.set 1 _
def AdEnd (k : Int) (l : List Pk) (v x : ByteArray) (ng : Option Addr) (nm nc : Nat) (g : Nat) (pa : Option Addr) (n pc i : Nat) (oa : Option Addr) (on oc : Nat) (ta : Option Addr) (tn tc : Nat) (wh dp : Bool) (W : World) (e : Ending) (W' : World) : Prop :=
  e = .returned (.agg #[.int .i64 k, .string v, .string (tx (advA k l)), .string x, .slice ng nm nc]) ∧ Bk 84 W' g (pcs pa n pc (i + advN k l) oa on oc ta tn tc wh dp) ∧ Ex [g] W W'
set_option maxRecDepth 10000 in
set_option maxHeartbeats 3200000 in
theorem withAdv_3 (ts : List Tk) (hP : Pall ts) {W : World} {g : Nat} {pa : Option Addr} {n pc i : Nat} {oa : Option Addr} {on oc : Nat} {ta : Option Addr} {tn tc : Nat} {wh dp : Bool} (h : Bk 84 W g (pcs pa n pc i oa on oc ta tn tc wh dp)) (hq : Pq W pa ts) (hn : n = ts.length) (hm : n ≤ 300) (hi : i ≤ n) (v x : ByteArray) (ng : Option Addr) (nm nc : Nat) :
    Calls Tryz.prog 113 #[.pointer (some ⟨g, 0, none⟩), .agg #[.int .i64 3, .string v, .string ⟨#[]⟩, .string x, .slice ng nm nc]] W (AdEnd 3 ((pks ts).drop i) v x ng nm nc g pa n pc i oa on oc ta tn tc wh dp W) := by
  have hb0 := (box_below W (.cells #[.int .i64 3, .string v, .string ⟨#[]⟩, .string x, .slice ng nm nc] 37)).alloc (by simp) (.cells #[.int .i64 0, .string ⟨#[]⟩, .string ⟨#[]⟩, .string ⟨#[]⟩, .slice none 0 0] 37)
  have s1 : (W.alloc (.cells #[.int .i64 3, .string v, .string ⟨#[]⟩, .string x, .slice ng nm nc] 37)).heap.size = W.heap.size + 1 := by simp
  have hA := (Bk.new 37 W [.int .i64 3, .string v, .string ⟨#[]⟩, .string x, .slice ng nm nc]).alloc (.cells #[.int .i64 0, .string ⟨#[]⟩, .string ⟨#[]⟩, .string ⟨#[]⟩, .slice none 0 0] 37)
  have hR := Bk.new' 37 (W.alloc (.cells #[.int .i64 3, .string v, .string ⟨#[]⟩, .string x, .slice ng nm nc] 37)) s1.symm [.int .i64 0, .string ⟨#[]⟩, .string ⟨#[]⟩, .string ⟨#[]⟩, .slice none 0 0]
  have hB := (h.alloc (.cells #[.int .i64 3, .string v, .string ⟨#[]⟩, .string x, .slice ng nm nc] 37)).alloc (.cells #[.int .i64 0, .string ⟨#[]⟩, .string ⟨#[]⟩, .string ⟨#[]⟩, .slice none 0 0] 37)
  have hB : Bk 84 ((W.alloc (.cells #[.int .i64 3, .string v, .string ⟨#[]⟩, .string x, .slice ng nm nc] 37)).alloc (.cells #[.int .i64 0, .string ⟨#[]⟩, .string ⟨#[]⟩, .string ⟨#[]⟩, .slice none 0 0] 37)) g (pcs pa n pc i oa on oc ta tn tc wh dp) := hB
  rw [show [Value.int .i64 3, .string v, .string ⟨#[]⟩, .string x, .slice ng nm nc].toArray = #[.int .i64 3, .string v, .string ⟨#[]⟩, .string x, .slice ng nm nc] from rfl] at hA
  rw [show [Value.int .i64 0, .string ⟨#[]⟩, .string ⟨#[]⟩, .string ⟨#[]⟩, .slice none 0 0].toArray = #[.int .i64 0, .string ⟨#[]⟩, .string ⟨#[]⟩, .string ⟨#[]⟩, .slice none 0 0] from rfl] at hR
  have K1 := Lib.hid (next_is ts hB (hn ▸ (hq.ex (Ex.of [] hb0) (Off.none _)).qs) hn hm)
  have hgW : g < W.heap.size := h.lt
  have hi3 : i ≤ 300 := by omega
  have h5 : kd0 ((pks ts).drop i) = 5 → ∃ c, tx0 ((pks ts).drop i) = [c] := by
    intro h5
    cases e : (pks ts).drop i with
    | nil => rw [e] at h5; cases h5
    | cons q l =>
      rw [e] at h5
      exact ps_one (hP.at e).1 (.inl h5)
  have H5 := Lib.hid h5
  clear h5
  generalize (pks ts).drop i = l at *
  have x0 := hA.p0
  have HA := Lib.hid hA
  have HR := Lib.hid hR
  have HB := Lib.hid hB
  have HB0 := Lib.hid hb0
  clear hA hR hB hb0 s1 h hq hn hm hi
  go_enter Tryz.func113, Tryz.ntmps113
  go_wp2_with fail
  refine K1.out.mono ?_
  rintro e w2 ⟨p1, rfl, hb2⟩
  have hA2 := HA.out.on hb2
  have hR2 := HR.out.on hb2
  have hB2 := HB.out.on hb2
  have hbb := HB0.out.trans (hb2.mono HB0.out.size)
  have hX2 := (Ex.of [g] hbb).alloc (.cells #[.int .i64 (kd0 l), .string (tx (tx0 l)), .int .i64 p1] 80)
  have hA3 := hA2.alloc (.cells #[.int .i64 (kd0 l), .string (tx (tx0 l)), .int .i64 p1] 80)
  have hR3 := hR2.alloc (.cells #[.int .i64 (kd0 l), .string (tx (tx0 l)), .int .i64 p1] 80)
  have hB3 := hB2.alloc (.cells #[.int .i64 (kd0 l), .string (tx (tx0 l)), .int .i64 p1] 80)
  have hT3 := Bk.new 80 w2 [.int .i64 (kd0 l), .string (tx (tx0 l)), .int .i64 p1]
  rw [show [Value.int .i64 (kd0 l), .string (tx (tx0 l)), .int .i64 p1].toArray = #[.int .i64 (kd0 l), .string (tx (tx0 l)), .int .i64 p1] from rfl] at hT3
  have hgt : g < w2.heap.size := hB2.lt
  have hat : W.heap.size + 1 < w2.heap.size := hR2.lt
  clear K1 x0 HA HR HB HB0 hb2 hA2 hR2 hB2 hbb
  have t0 := hT3.p0
  have t1 := hT3.p1
  have HA3 := Lib.hid hA3
  have HR3 := Lib.hid hR3
  have HB3 := Lib.hid hB3
  have HT3 := Lib.hid hT3
  have HX3 := Lib.hid hX2
  clear hA3 hR3 hB3 hT3 hX2
  go_upto_region 5 with fail
  generalize w2.alloc (.cells #[.int .i64 (kd0 l), .string (tx (tx0 l)), .int .i64 p1] 80) = w3 at *
  by_cases h5 : kd0 l = 5
  · obtain ⟨c, hc⟩ := H5.out h5
    have KC := fun w => Tryz.strings_Contains_one ⟨#[39, 47, 92, 96]⟩ c w
    rw [show (ByteArray.mk #[39, 47, 92, 96]).data.toList = advs 3 from rfl, hasA_one h5 hc] at KC
    have hTT : tx (tx0 l) = ⟨#[c]⟩ := by rw [hc]; rfl
    replace KC := Lib.hid KC
    have hTA : tx (advA 3 l) = if hasA 3 l then ⟨#[c]⟩ else ⟨#[]⟩ := by unfold advA; split <;> first | exact hTT | rfl
    have hTN : advN 3 l = if hasA 3 l then 1 else 0 := rfl
    have HTA := Lib.hid hTA
    have HTN := Lib.hid hTN
    clear hTA hTN
    rw [hTT] at t1 HT3 ⊢
    rw [h5] at t0 HT3
    generalize hasA 3 l = hv at *
    clear h5 hc hTT H5
    go_wp2_with fail
    refine (KC.out _).mono ?_
    rintro e w8 ⟨rfl, hw8⟩
    rw [hw8]
    clear KC hw8 w8
    cases hv with
    | true =>
      have c1 := Pc.c1 HB3.out
      have f1 := HB3.out.f 1
      have w9 : IntKind.i64.wrap ((i : Int) + 1) = (i : Int) + 1 := wrn (by omega) (by omega)
      go_upto_region 7 with fail
      have HB4 := Lib.hid HB3.out.step
      have hT4 := HT3.out.setOther (p := ⟨g, 1, none⟩) (show w2.heap.size ≠ g by omega) (.int .i64 ((i : Int) + 1))
      have hA4 := HA3.out.setOther (p := ⟨g, 1, none⟩) (show W.heap.size ≠ g by omega) (.int .i64 ((i : Int) + 1))
      have HR4 := Lib.hid (HR3.out.setOther (p := ⟨g, 1, none⟩) (show W.heap.size + 1 ≠ g by omega) (.int .i64 ((i : Int) + 1)))
      have HX4 := Lib.hid (HX3.out.setCell (p := ⟨g, 1, none⟩) (.inl List.mem_cons_self) (.int .i64 ((i : Int) + 1)))
      clear c1 f1 t0 t1 HB3 HT3 HA3 HR3 HX3
      generalize w3.setCell ⟨g, 1, none⟩ (.int .i64 ((i : Int) + 1)) = w4 at *
      have t1 := hT4.p1
      have a2 := hA4.p2
      have f2 := hA4.f 2
      have HA4 := Lib.hid hA4
      clear hA4 hT4
      go_upto_region 8 with fail
      have hA5 : Bk 37 _ W.heap.size [.int .i64 3, .string v, .string ⟨#[c]⟩, .string x, .slice ng nm nc] := HA4.out.set 2 (.string ⟨#[c]⟩)
      have hR5 := HR4.out.setOther (p := ⟨W.heap.size, 2, none⟩) (show W.heap.size + 1 ≠ W.heap.size by omega) (.string ⟨#[c]⟩)
      have HB5 := Lib.hid (HB4.out.setOther (p := ⟨W.heap.size, 2, none⟩) (show g ≠ W.heap.size by omega) (.string ⟨#[c]⟩))
      have HX5 := Lib.hid (HX4.out.setCell (p := ⟨W.heap.size, 2, none⟩) (.inr (Nat.le_refl _)) (.string ⟨#[c]⟩))
      clear t1 a2 f2 HA4 HR4 HB4 HX4
      generalize w4.setCell ⟨W.heap.size, 2, none⟩ (.string ⟨#[c]⟩) = w5 at *
      have a0 := hA5.p0
      have a1 := hA5.p1
      have a2 := hA5.p2
      have a3 := hA5.p3
      have a4 := hA5.p4
      have r0 := hR5.p0
      have r1 := hR5.p1
      have r2 := hR5.p2
      have r3 := hR5.p3
      have r4 := hR5.p4
      have f0 := hR5.f 0
      have f1 := hR5.f 1
      have f2 := hR5.f 2
      have f3 := hR5.f 3
      have f4 := hR5.f 4
      have HR5 := Lib.hid hR5
      clear hA5 hR5
      go_wp2_with fail
      have hN := HR5.out.set5 (.int .i64 3) (.string v) (.string ⟨#[c]⟩) (.string x) (.slice ng nm nc)
      have z0 := hN.p0
      have z1 := hN.p1
      have z2 := hN.p2
      have z3 := hN.p3
      have z4 := hN.p4
      exact bodyPost_ret (v := .agg #[.int .i64 3, .string v, .string ⟨#[c]⟩, .string x, .slice ng nm nc]) (by simp [results, Tryz.results113, go_sem, z0, z1, z2, z3, z4]) rfl ⟨by rw [HTA.out] <;> rfl, by rw [HTN.out]; exact HB5.out.far5 (by omega) _ _ _ _ _, HX5.out.set5 (by omega) _ _ _ _ _⟩
    | false =>
      go_upto_region 8 with fail
      have hA5 := HA3.out
      have hR5 := HR3.out
      have HB5 := Lib.hid HB3.out
      have HX5 := Lib.hid HX3.out
      clear t0 t1 HA3 HR3 HB3 HX3 HT3
      have a0 := hA5.p0
      have a1 := hA5.p1
      have a2 := hA5.p2
      have a3 := hA5.p3
      have a4 := hA5.p4
      have r0 := hR5.p0
      have r1 := hR5.p1
      have r2 := hR5.p2
      have r3 := hR5.p3
      have r4 := hR5.p4
      have f0 := hR5.f 0
      have f1 := hR5.f 1
      have f2 := hR5.f 2
      have f3 := hR5.f 3
      have f4 := hR5.f 4
      have HR5 := Lib.hid hR5
      clear hA5 hR5
      go_wp2_with fail
      have hN := HR5.out.set5 (.int .i64 3) (.string v) (.string ⟨#[]⟩) (.string x) (.slice ng nm nc)
      have z0 := hN.p0
      have z1 := hN.p1
      have z2 := hN.p2
      have z3 := hN.p3
      have z4 := hN.p4
      exact bodyPost_ret (v := .agg #[.int .i64 3, .string v, .string ⟨#[]⟩, .string x, .slice ng nm nc]) (by simp [results, Tryz.results113, go_sem, z0, z1, z2, z3, z4]) rfl ⟨by rw [HTA.out] <;> rfl, by rw [HTN.out]; exact HB5.out.far5 (by omega) _ _ _ _ _, HX5.out.set5 (by omega) _ _ _ _ _⟩
  · have hTA : tx (advA 3 l) = ⟨#[]⟩ := by unfold advA; rw [hasA_no h5]; rfl
    have hTN : advN 3 l = 0 := by unfold advN; rw [hasA_no h5]; rfl
    have HTA := Lib.hid hTA
    have HTN := Lib.hid hTN
    clear hTA hTN
    have e5 : (kd0 l == 5) = false := beq_eq_false_iff_ne.2 h5
    clear H5
    generalize kd0 l = k9 at *
    generalize tx (tx0 l) = T9 at *
    go_upto_region 8 with fail
    have hA5 := HA3.out
    have hR5 := HR3.out
    have HB5 := Lib.hid HB3.out
    have HX5 := Lib.hid HX3.out
    clear t0 t1 HA3 HR3 HB3 HX3 HT3
    have a0 := hA5.p0
    have a1 := hA5.p1
    have a2 := hA5.p2
    have a3 := hA5.p3
    have a4 := hA5.p4
    have r0 := hR5.p0
    have r1 := hR5.p1
    have r2 := hR5.p2
    have r3 := hR5.p3
    have r4 := hR5.p4
    have f0 := hR5.f 0
    have f1 := hR5.f 1
    have f2 := hR5.f 2
    have f3 := hR5.f 3
    have f4 := hR5.f 4
    have HR5 := Lib.hid hR5
    clear hA5 hR5
    go_wp2_with fail
    have hN := HR5.out.set5 (.int .i64 3) (.string v) (.string ⟨#[]⟩) (.string x) (.slice ng nm nc)
    have z0 := hN.p0
    have z1 := hN.p1
    have z2 := hN.p2
    have z3 := hN.p3
    have z4 := hN.p4
    exact bodyPost_ret (v := .agg #[.int .i64 3, .string v, .string ⟨#[]⟩, .string x, .slice ng nm nc]) (by simp [results, Tryz.results113, go_sem, z0, z1, z2, z3, z4]) rfl ⟨by rw [HTA.out] <;> rfl, by rw [HTN.out]; exact HB5.out.far5 (by omega) _ _ _ _ _, HX5.out.set5 (by omega) _ _ _ _ _⟩
set_option maxRecDepth 10000 in
set_option maxHeartbeats 3200000 in
theorem withAdv_4 (ts : List Tk) (hP : Pall ts) {W : World} {g : Nat} {pa : Option Addr} {n pc i : Nat} {oa : Option Addr} {on oc : Nat} {ta : Option Addr} {tn tc : Nat} {wh dp : Bool} (h : Bk 84 W g (pcs pa n pc i oa on oc ta tn tc wh dp)) (hq : Pq W pa ts) (hn : n = ts.length) (hm : n ≤ 300) (hi : i ≤ n) (v x : ByteArray) (ng : Option Addr) (nm nc : Nat) :
    Calls Tryz.prog 113 #[.pointer (some ⟨g, 0, none⟩), .agg #[.int .i64 4, .string v, .string ⟨#[]⟩, .string x, .slice ng nm nc]] W (AdEnd 4 ((pks ts).drop i) v x ng nm nc g pa n pc i oa on oc ta tn tc wh dp W) := by
  have hb0 := (box_below W (.cells #[.int .i64 4, .string v, .string ⟨#[]⟩, .string x, .slice ng nm nc] 37)).alloc (by simp) (.cells #[.int .i64 0, .string ⟨#[]⟩, .string ⟨#[]⟩, .string ⟨#[]⟩, .slice none 0 0] 37)
  have s1 : (W.alloc (.cells #[.int .i64 4, .string v, .string ⟨#[]⟩, .string x, .slice ng nm nc] 37)).heap.size = W.heap.size + 1 := by simp
  have hA := (Bk.new 37 W [.int .i64 4, .string v, .string ⟨#[]⟩, .string x, .slice ng nm nc]).alloc (.cells #[.int .i64 0, .string ⟨#[]⟩, .string ⟨#[]⟩, .string ⟨#[]⟩, .slice none 0 0] 37)
  have hR := Bk.new' 37 (W.alloc (.cells #[.int .i64 4, .string v, .string ⟨#[]⟩, .string x, .slice ng nm nc] 37)) s1.symm [.int .i64 0, .string ⟨#[]⟩, .string ⟨#[]⟩, .string ⟨#[]⟩, .slice none 0 0]
  have hB := (h.alloc (.cells #[.int .i64 4, .string v, .string ⟨#[]⟩, .string x, .slice ng nm nc] 37)).alloc (.cells #[.int .i64 0, .string ⟨#[]⟩, .string ⟨#[]⟩, .string ⟨#[]⟩, .slice none 0 0] 37)
  have hB : Bk 84 ((W.alloc (.cells #[.int .i64 4, .string v, .string ⟨#[]⟩, .string x, .slice ng nm nc] 37)).alloc (.cells #[.int .i64 0, .string ⟨#[]⟩, .string ⟨#[]⟩, .string ⟨#[]⟩, .slice none 0 0] 37)) g (pcs pa n pc i oa on oc ta tn tc wh dp) := hB
  rw [show [Value.int .i64 4, .string v, .string ⟨#[]⟩, .string x, .slice ng nm nc].toArray = #[.int .i64 4, .string v, .string ⟨#[]⟩, .string x, .slice ng nm nc] from rfl] at hA
  rw [show [Value.int .i64 0, .string ⟨#[]⟩, .string ⟨#[]⟩, .string ⟨#[]⟩, .slice none 0 0].toArray = #[.int .i64 0, .string ⟨#[]⟩, .string ⟨#[]⟩, .string ⟨#[]⟩, .slice none 0 0] from rfl] at hR
  have K1 := Lib.hid (next_is ts hB (hn ▸ (hq.ex (Ex.of [] hb0) (Off.none _)).qs) hn hm)
  have hgW : g < W.heap.size := h.lt
  have hi3 : i ≤ 300 := by omega
  have h5 : kd0 ((pks ts).drop i) = 5 → ∃ c, tx0 ((pks ts).drop i) = [c] := by
    intro h5
    cases e : (pks ts).drop i with
    | nil => rw [e] at h5; cases h5
    | cons q l =>
      rw [e] at h5
      exact ps_one (hP.at e).1 (.inl h5)
  have H5 := Lib.hid h5
  clear h5
  generalize (pks ts).drop i = l at *
  have x0 := hA.p0
  have HA := Lib.hid hA
  have HR := Lib.hid hR
  have HB := Lib.hid hB
  have HB0 := Lib.hid hb0
  clear hA hR hB hb0 s1 h hq hn hm hi
  go_enter Tryz.func113, Tryz.ntmps113
  go_wp2_with fail
  refine K1.out.mono ?_
  rintro e w2 ⟨p1, rfl, hb2⟩
  have hA2 := HA.out.on hb2
  have hR2 := HR.out.on hb2
  have hB2 := HB.out.on hb2
  have hbb := HB0.out.trans (hb2.mono HB0.out.size)
  have hX2 := (Ex.of [g] hbb).alloc (.cells #[.int .i64 (kd0 l), .string (tx (tx0 l)), .int .i64 p1] 80)
  have hA3 := hA2.alloc (.cells #[.int .i64 (kd0 l), .string (tx (tx0 l)), .int .i64 p1] 80)
  have hR3 := hR2.alloc (.cells #[.int .i64 (kd0 l), .string (tx (tx0 l)), .int .i64 p1] 80)
  have hB3 := hB2.alloc (.cells #[.int .i64 (kd0 l), .string (tx (tx0 l)), .int .i64 p1] 80)
  have hT3 := Bk.new 80 w2 [.int .i64 (kd0 l), .string (tx (tx0 l)), .int .i64 p1]
  rw [show [Value.int .i64 (kd0 l), .string (tx (tx0 l)), .int .i64 p1].toArray = #[.int .i64 (kd0 l), .string (tx (tx0 l)), .int .i64 p1] from rfl] at hT3
  have hgt : g < w2.heap.size := hB2.lt
  have hat : W.heap.size + 1 < w2.heap.size := hR2.lt
  clear K1 x0 HA HR HB HB0 hb2 hA2 hR2 hB2 hbb
  have t0 := hT3.p0
  have t1 := hT3.p1
  have HA3 := Lib.hid hA3
  have HR3 := Lib.hid hR3
  have HB3 := Lib.hid hB3
  have HT3 := Lib.hid hT3
  have HX3 := Lib.hid hX2
  clear hA3 hR3 hB3 hT3 hX2
  go_upto_region 5 with fail
  generalize w2.alloc (.cells #[.int .i64 (kd0 l), .string (tx (tx0 l)), .int .i64 p1] 80) = w3 at *
  by_cases h5 : kd0 l = 5
  · obtain ⟨c, hc⟩ := H5.out h5
    have KC := fun w => Tryz.strings_Contains_one ⟨#[39, 46]⟩ c w
    rw [show (ByteArray.mk #[39, 46]).data.toList = advs 4 from rfl, hasA_one h5 hc] at KC
    have hTT : tx (tx0 l) = ⟨#[c]⟩ := by rw [hc]; rfl
    replace KC := Lib.hid KC
    have hTA : tx (advA 4 l) = if hasA 4 l then ⟨#[c]⟩ else ⟨#[]⟩ := by unfold advA; split <;> first | exact hTT | rfl
    have hTN : advN 4 l = if hasA 4 l then 1 else 0 := rfl
    have HTA := Lib.hid hTA
    have HTN := Lib.hid hTN
    clear hTA hTN
    rw [hTT] at t1 HT3 ⊢
    rw [h5] at t0 HT3
    generalize hasA 4 l = hv at *
    clear h5 hc hTT H5
    go_wp2_with fail
    refine (KC.out _).mono ?_
    rintro e w8 ⟨rfl, hw8⟩
    rw [hw8]
    clear KC hw8 w8
    cases hv with
    | true =>
      have c1 := Pc.c1 HB3.out
      have f1 := HB3.out.f 1
      have w9 : IntKind.i64.wrap ((i : Int) + 1) = (i : Int) + 1 := wrn (by omega) (by omega)
      go_upto_region 7 with fail
      have HB4 := Lib.hid HB3.out.step
      have hT4 := HT3.out.setOther (p := ⟨g, 1, none⟩) (show w2.heap.size ≠ g by omega) (.int .i64 ((i : Int) + 1))
      have hA4 := HA3.out.setOther (p := ⟨g, 1, none⟩) (show W.heap.size ≠ g by omega) (.int .i64 ((i : Int) + 1))
      have HR4 := Lib.hid (HR3.out.setOther (p := ⟨g, 1, none⟩) (show W.heap.size + 1 ≠ g by omega) (.int .i64 ((i : Int) + 1)))
      have HX4 := Lib.hid (HX3.out.setCell (p := ⟨g, 1, none⟩) (.inl List.mem_cons_self) (.int .i64 ((i : Int) + 1)))
      clear c1 f1 t0 t1 HB3 HT3 HA3 HR3 HX3
      generalize w3.setCell ⟨g, 1, none⟩ (.int .i64 ((i : Int) + 1)) = w4 at *
      have t1 := hT4.p1
      have a2 := hA4.p2
      have f2 := hA4.f 2
      have HA4 := Lib.hid hA4
      clear hA4 hT4
      go_upto_region 8 with fail
      have hA5 : Bk 37 _ W.heap.size [.int .i64 4, .string v, .string ⟨#[c]⟩, .string x, .slice ng nm nc] := HA4.out.set 2 (.string ⟨#[c]⟩)
      have hR5 := HR4.out.setOther (p := ⟨W.heap.size, 2, none⟩) (show W.heap.size + 1 ≠ W.heap.size by omega) (.string ⟨#[c]⟩)
      have HB5 := Lib.hid (HB4.out.setOther (p := ⟨W.heap.size, 2, none⟩) (show g ≠ W.heap.size by omega) (.string ⟨#[c]⟩))
      have HX5 := Lib.hid (HX4.out.setCell (p := ⟨W.heap.size, 2, none⟩) (.inr (Nat.le_refl _)) (.string ⟨#[c]⟩))
      clear t1 a2 f2 HA4 HR4 HB4 HX4
      generalize w4.setCell ⟨W.heap.size, 2, none⟩ (.string ⟨#[c]⟩) = w5 at *
      have a0 := hA5.p0
      have a1 := hA5.p1
      have a2 := hA5.p2
      have a3 := hA5.p3
      have a4 := hA5.p4
      have r0 := hR5.p0
      have r1 := hR5.p1
      have r2 := hR5.p2
      have r3 := hR5.p3
      have r4 := hR5.p4
      have f0 := hR5.f 0
      have f1 := hR5.f 1
      have f2 := hR5.f 2
      have f3 := hR5.f 3
      have f4 := hR5.f 4
      have HR5 := Lib.hid hR5
      clear hA5 hR5
      go_wp2_with fail
      have hN := HR5.out.set5 (.int .i64 4) (.string v) (.string ⟨#[c]⟩) (.string x) (.slice ng nm nc)
      have z0 := hN.p0
      have z1 := hN.p1
      have z2 := hN.p2
      have z3 := hN.p3
      have z4 := hN.p4
      exact bodyPost_ret (v := .agg #[.int .i64 4, .string v, .string ⟨#[c]⟩, .string x, .slice ng nm nc]) (by simp [results, Tryz.results113, go_sem, z0, z1, z2, z3, z4]) rfl ⟨by rw [HTA.out] <;> rfl, by rw [HTN.out]; exact HB5.out.far5 (by omega) _ _ _ _ _, HX5.out.set5 (by omega) _ _ _ _ _⟩
    | false =>
      go_upto_region 8 with fail
      have hA5 := HA3.out
      have hR5 := HR3.out
      have HB5 := Lib.hid HB3.out
      have HX5 := Lib.hid HX3.out
      clear t0 t1 HA3 HR3 HB3 HX3 HT3
      have a0 := hA5.p0
      have a1 := hA5.p1
      have a2 := hA5.p2
      have a3 := hA5.p3
      have a4 := hA5.p4
      have r0 := hR5.p0
      have r1 := hR5.p1
      have r2 := hR5.p2
      have r3 := hR5.p3
      have r4 := hR5.p4
      have f0 := hR5.f 0
      have f1 := hR5.f 1
      have f2 := hR5.f 2
      have f3 := hR5.f 3
      have f4 := hR5.f 4
      have HR5 := Lib.hid hR5
      clear hA5 hR5
      go_wp2_with fail
      have hN := HR5.out.set5 (.int .i64 4) (.string v) (.string ⟨#[]⟩) (.string x) (.slice ng nm nc)
      have z0 := hN.p0
      have z1 := hN.p1
      have z2 := hN.p2
      have z3 := hN.p3
      have z4 := hN.p4
      exact bodyPost_ret (v := .agg #[.int .i64 4, .string v, .string ⟨#[]⟩, .string x, .slice ng nm nc]) (by simp [results, Tryz.results113, go_sem, z0, z1, z2, z3, z4]) rfl ⟨by rw [HTA.out] <;> rfl, by rw [HTN.out]; exact HB5.out.far5 (by omega) _ _ _ _ _, HX5.out.set5 (by omega) _ _ _ _ _⟩
  · have hTA : tx (advA 4 l) = ⟨#[]⟩ := by unfold advA; rw [hasA_no h5]; rfl
    have hTN : advN 4 l = 0 := by unfold advN; rw [hasA_no h5]; rfl
    have HTA := Lib.hid hTA
    have HTN := Lib.hid hTN
    clear hTA hTN
    have e5 : (kd0 l == 5) = false := beq_eq_false_iff_ne.2 h5
    clear H5
    generalize kd0 l = k9 at *
    generalize tx (tx0 l) = T9 at *
    go_upto_region 8 with fail
    have hA5 := HA3.out
    have hR5 := HR3.out
    have HB5 := Lib.hid HB3.out
    have HX5 := Lib.hid HX3.out
    clear t0 t1 HA3 HR3 HB3 HX3 HT3
    have a0 := hA5.p0
    have a1 := hA5.p1
    have a2 := hA5.p2
    have a3 := hA5.p3
    have a4 := hA5.p4
    have r0 := hR5.p0
    have r1 := hR5.p1
    have r2 := hR5.p2
    have r3 := hR5.p3
    have r4 := hR5.p4
    have f0 := hR5.f 0
    have f1 := hR5.f 1
    have f2 := hR5.f 2
    have f3 := hR5.f 3
    have f4 := hR5.f 4
    have HR5 := Lib.hid hR5
    clear hA5 hR5
    go_wp2_with fail
    have hN := HR5.out.set5 (.int .i64 4) (.string v) (.string ⟨#[]⟩) (.string x) (.slice ng nm nc)
    have z0 := hN.p0
    have z1 := hN.p1
    have z2 := hN.p2
    have z3 := hN.p3
    have z4 := hN.p4
    exact bodyPost_ret (v := .agg #[.int .i64 4, .string v, .string ⟨#[]⟩, .string x, .slice ng nm nc]) (by simp [results, Tryz.results113, go_sem, z0, z1, z2, z3, z4]) rfl ⟨by rw [HTA.out] <;> rfl, by rw [HTN.out]; exact HB5.out.far5 (by omega) _ _ _ _ _, HX5.out.set5 (by omega) _ _ _ _ _⟩
theorem withAdv_is (ts : List Tk) (hP : Pall ts) {W : World} {g : Nat} {pa : Option Addr} {n pc i : Nat} {oa : Option Addr} {on oc : Nat} {ta : Option Addr} {tn tc : Nat} {wh dp : Bool} (h : Bk 84 W g (pcs pa n pc i oa on oc ta tn tc wh dp)) (hq : Pq W pa ts) (hn : n = ts.length) (hm : n ≤ 300) (hi : i ≤ n) {k : Int} (hk : k = 3 ∨ k = 4) (v x : ByteArray) (ng : Option Addr) (nm nc : Nat) :
    Calls Tryz.prog 113 #[.pointer (some ⟨g, 0, none⟩), .agg #[.int .i64 k, .string v, .string ⟨#[]⟩, .string x, .slice ng nm nc]] W (AdEnd k ((pks ts).drop i) v x ng nm nc g pa n pc i oa on oc ta tn tc wh dp W) := by
  rcases hk with rfl | rfl
  · exact withAdv_3 ts hP h hq hn hm hi v x ng nm nc
  · exact withAdv_4 ts hP h hq hn hm hi v x ng nm nc
end Go.Proofs.YtljkmdmbndjngaaGreat

import Derived.Test.YtafdogcanjcbmaaMav
import Derived.Test.YtafdogcanjcbmaaMau
/-
  Trees put together by Node, as they are plainly; Same of the same.
-/
namespace Go.Proofs.Ytafdogcanjcbmaa
set_option linter.unusedVariables false
set_option linter.unusedSimpArgs false
open Go.RowKit

theorem same_nx {a b : Option Addr} {n m c d : Nat} {X : List Tn} {w : World} (hX : X.length ≤ 1000) (h1 : Nx w a n c X) (h2 : Nx w b m d X) : Calls Try.prog 15 #[.slice a n c, .slice b m d] w (ValEnd (.bool true) w) := by
  obtain ⟨f, h1, _, _, e1⟩ := h1
  obtain ⟨g, h3, _, _, e2⟩ := h2
  have l1 : X.length = n := by rw [← e1, tnF_len]
  have l2 : X.length = m := by rw [← e2, tnF_len]
  have := Same_is a b n m c d f g w h1 h3 (by omega) (by omega)
  rwa [tn_same (e1.trans e2.symm)] at this
theorem depth_nx {a : Option Addr} {n c : Nat} {X : List Tn} {w : World} {d : Nat} (hX : X.length ≤ 1000) (h1 : Nx w a n c X) (hd : Dp X 1 d) : Calls Try.prog 14 #[.slice a n c] w (ValEnd (.int .i64 (d : Int)) w) := by
  obtain ⟨f, h1, h2, h3, e1⟩ := h1
  have l1 : X.length = n := by rw [← e1, tnF_len]
  exact Depth_some a n c f n d w h1 h2 h3 (by omega) (deep_tn e1 hd)
/-- Few numbers in each node. -/
def Fw (X : List Tn) : Prop := X.length ≤ 900 ∧ ∀ t ∈ X, t.ns.length ≤ 100
def vnode (k : Int) (v a x : ByteArray) : Value := .agg #[.int .i64 k, .string v, .string a, .string x, .slice none 0 0]
def NnEnd (X : List Tn) (w : World) (e : Ending) (W' : World) : Prop := ∃ a n c, e = .returned (.slice a n c) ∧ Nx W' a n c X ∧ Below w.heap.size w W'
theorem Node_nx (w : World) (k : Int) (v a x : ByteArray) (hk : 0 ≤ k ∧ k ≤ 8) (hv : v.size ≤ 300) (ha : a.size ≤ 300) (hx : x.size ≤ 300) (kd : Nat → Kd) (Ts : List (List Tn)) (h : ∀ i (hi : i < Ts.length), Nx w (kd i).a (kd i).n (kd i).c Ts[i]) (hF : ∀ T ∈ Ts, Fw T) (hl : Ts.length ≤ 3) {cs : Array Value} (hcs : cs.toList = kvs kd Ts.length) (hw : wl Ts ≤ 1000) :
    Calls Try.prog 16 #[vnode k v a x, .slice (some ⟨w.heap.size, 0, none⟩) Ts.length Ts.length] (w.alloc (.cells cs 23)) (NnEnd (⟨k, v.data.toList, a.data.toList, x.data.toList, []⟩ :: Ts.flatten) w) := by
  have hbx := box_below w (.cells cs 23)
  obtain ⟨f, hf⟩ : ∃ f : Nat → Nat → Nd, ∀ i (hi : i < Ts.length), Nq w (kd i).a (kd i).n (f i) ∧ (kd i).n ≤ (kd i).c ∧ (kd i).c ≤ maxLen ∧ tnF (f i) (kd i).n = Ts[i] := by
    have h' : ∀ i, ∃ g : Nat → Nd, ∀ hi : i < Ts.length, Nq w (kd i).a (kd i).n g ∧ (kd i).n ≤ (kd i).c ∧ (kd i).c ≤ maxLen ∧ tnF g (kd i).n = Ts[i] := fun i => by
      by_cases hi : i < Ts.length
      · obtain ⟨g, hg⟩ := h i hi
        exact ⟨g, fun _ => hg⟩
      · exact ⟨fun _ => ⟨0, v, v, v, none, 0, 0, []⟩, fun h => absurd h hi⟩
    obtain ⟨f, hf⟩ := Classical.axiomOfChoice h'
    exact ⟨f, fun i hi => hf i hi⟩
  obtain ⟨k2, hk2⟩ : ∃ k2 : Nat → Kd, k2 = fun i => ⟨(kd i).a, (kd i).n, (kd i).c, f i⟩ := ⟨_, rfl⟩
  have hB : Bk 23 (w.alloc (.cells cs 23)) w.heap.size cs.toList := by
    have := Bk.new 23 w cs.toList
    rwa [Array.toArray_toList] at this
  have hNt : ∀ i (hi : i < Ts.length), Nq (w.alloc (.cells cs 23)) (k2 i).a (k2 i).n (k2 i).f ∧ tnF (k2 i).f (k2 i).n = Ts[i] := fun i hi => by
    rw [hk2]
    exact ⟨(hf i hi).1.below hbx, (hf i hi).2.2.2⟩
  have hn : ∀ m, m ≤ Ts.length → nM k2 m = 1 + wl (Ts.take m) := by
    intro m
    induction m with
    | zero => intro _; rfl
    | succ m ih =>
      intro hm
      show nM k2 m + (k2 m).n = _
      rw [ih (by omega), List.take_succ_eq_append_getElem (by omega), wl_app, wl_cons, ← (hNt m (by omega)).2, tnF_len]
      show _ = 1 + (_ + (_ + 0))
      omega
  have hns : ∀ m, m ≤ Ts.length → ∀ j, j < nM k2 m → (nF (Nd.mk k v a x none 0 0 []) k2 m j).m ≤ 100 := by
    intro m
    induction m with
    | zero => intro _ j _; exact Nat.zero_le _
    | succ m ih =>
      intro hm j hj
      show (ap (nF _ k2 m) (nM k2 m) (k2 m).f j).m ≤ 100
      unfold ap
      by_cases h1 : j < nM k2 m
      · rw [if_pos h1]; exact ih (by omega) j h1
      · rw [if_neg h1]
        have hj : j < nM k2 m + (k2 m).n := hj
        obtain ⟨hq, ht⟩ := hNt m (by omega)
        have hx := (hF Ts[m] (List.getElem_mem (by omega))).2 (tnOf ((k2 m).f (j - nM k2 m))) (by
          rw [← ht]
          exact List.mem_map.2 ⟨j - nM k2 m, List.mem_range.2 (by omega), rfl⟩)
        rw [← (hq.on (j - nM k2 m) (by omega)).nl]
        simpa [tnOf] using hx
  have hM := hn Ts.length (Nat.le_refl _)
  rw [List.take_length] at hM
  have hdon : (Nd.mk k v a x none 0 0 []).on (w.alloc (.cells cs 23)) := ⟨St.nil _ _, Nat.le_refl _, Nat.zero_le _, by show _ ≤ k; omega, by show k ≤ _; omega, by show v.size ≤ _; unfold maxLen; omega, by show a.size ≤ _; unfold maxLen; omega, by show x.size ≤ _; unfold maxLen; omega, fun s hs => by cases hs⟩
  refine (Node_is (Nd.mk k v a x none 0 0 []) (some ⟨w.heap.size, 0, none⟩) Ts.length Ts.length k2 (w.alloc (.cells cs 23)) hdon (fun i hi => (hNt i hi).1) (fun _ => ⟨w.heap.size, 0, rfl, fun i hi => ?_⟩) (by omega) (by omega) (fun j hj => by have := hns _ (Nat.le_refl _) j hj; omega)).mono ?_
  · rw [Nat.zero_add, hB.c i, hcs, kvs_get kd Ts.length i hi, hk2]
  · rintro e W' ⟨r, G, rfl, hown, hon, hsm, hb, _⟩
    obtain ⟨a1, c1, rfl, hc1, hc2, hq1⟩ := own_nq hown hon
    refine ⟨a1, _, c1, rfl, ⟨G, hq1, hc1, hc2, ?_⟩, hbx.trans (hb.mono hbx.size)⟩
    rw [tnF_same hsm, tnF_nF]
    congr 1
    rw [show ((List.range Ts.length).map fun j => tnF (k2 j).f (k2 j).n) = Ts from by
      apply List.ext_getElem?
      intro j
      rw [List.getElem?_map]
      by_cases hj : j < Ts.length
      · rw [List.getElem?_range hj, List.getElem?_eq_getElem hj, Option.map_some, (hNt j hj).2]
      · rw [List.getElem?_eq_none (by rw [List.length_range]; omega), List.getElem?_eq_none (by omega)]; rfl]
theorem Node_nx2 (w : World) (k : Int) (v a x : ByteArray) (hk : 0 ≤ k ∧ k ≤ 8) (hv : v.size ≤ 300) (ha : a.size ≤ 300) (hx : x.size ≤ 300) {a1 a2 : Option Addr} {n1 c1 n2 c2 : Nat} {X1 X2 : List Tn} (h1 : Nx w a1 n1 c1 X1) (h2 : Nx w a2 n2 c2 X2) (f1 : Fw X1) (f2 : Fw X2) (hl : X1.length + X2.length ≤ 1000) :
    Calls Try.prog 16 #[.agg #[.int .i64 k, .string v, .string a, .string x, .slice none 0 0], .slice (some ⟨w.heap.size, 0, none⟩) 2 2] (w.alloc (.cells #[.slice a1 n1 c1, .slice a2 n2 c2] 23)) (NnEnd (⟨k, v.data.toList, a.data.toList, x.data.toList, []⟩ :: (X1 ++ X2)) w) := by
  have := Node_nx w k v a x hk hv ha hx (fun i => if i = 0 then ⟨a1, n1, c1, fun _ => ⟨0, v, v, v, none, 0, 0, []⟩⟩ else ⟨a2, n2, c2, fun _ => ⟨0, v, v, v, none, 0, 0, []⟩⟩) [X1, X2] (fun i hi => by
    match i, hi with
    | 0, _ => exact h1
    | 1, _ => exact h2) (fun T hT => by rcases List.mem_cons.1 hT with rfl | hT; exact f1; rcases List.mem_singleton.1 hT with rfl; exact f2) (by simp) (cs := #[.slice a1 n1 c1, .slice a2 n2 c2]) rfl (by rw [wl_cons, wl_cons]; show _ + (_ + 0) ≤ _; omega)
  rw [show [X1, X2].flatten = X1 ++ X2 by simp] at this
  exact this
theorem Node_nx1 (w : World) (k : Int) (v a x : ByteArray) (hk : 0 ≤ k ∧ k ≤ 8) (hv : v.size ≤ 300) (ha : a.size ≤ 300) (hx : x.size ≤ 300) {a1 : Option Addr} {n1 c1 : Nat} {X1 : List Tn} (h1 : Nx w a1 n1 c1 X1) (f1 : Fw X1) :
    Calls Try.prog 16 #[.agg #[.int .i64 k, .string v, .string a, .string x, .slice none 0 0], .slice (some ⟨w.heap.size, 0, none⟩) 1 1] (w.alloc (.cells #[.slice a1 n1 c1] 23)) (NnEnd (⟨k, v.data.toList, a.data.toList, x.data.toList, []⟩ :: X1) w) := by
  have := Node_nx w k v a x hk hv ha hx (fun _ => ⟨a1, n1, c1, fun _ => ⟨0, v, v, v, none, 0, 0, []⟩⟩) [X1] (fun i hi => by
    obtain rfl : i = 0 := by simp at hi; omega
    exact h1) (fun T hT => by rcases List.mem_singleton.1 hT with rfl; exact f1) (by simp) (cs := #[.slice a1 n1 c1]) rfl (by rw [wl_cons]; show _ + 0 ≤ _; have := f1.1; omega)
  rw [show [X1].flatten = X1 by simp] at this
  exact this
theorem Ln.ns {P : Pk → Prop} {ts : List Pk} {X : List Tn} {r : List Pk} (h : Ln numT ts (some X) r) (hp : ∀ q ∈ ts, P q) (hb : ∀ q ∈ ts, q.k = 3 ∨ q.k = 4 → q.t ≠ [123]) : ∀ t ∈ X, t.ns.length ≤ 100 := by
  obtain ⟨n, Y, rfl, hn, hY⟩ := h.nodes hp hb
  have key : ∀ t, Nok numT P t → t.ns.length ≤ 100 := by
    intro t ht
    cases ht with
    | lit h0 h1 h => exact h1
    | name h h2 => exact Nat.zero_le _
    | one _ _ _ _ => exact Nat.zero_le _
    | body _ _ => exact Nat.zero_le _
    | index => exact Nat.zero_le _
  intro t ht
  rcases List.mem_cons.1 ht with rfl | ht
  · rcases hn with hn | hn
    · exact key _ hn
    · cases hn <;> exact Nat.zero_le _
  · exact key t (hY t ht)
/-- One node in a row of one. -/
theorem nx_one {w : World} {d : Nd} {cs : Array Value} (hcs : cs.toList = d.cells) (hd : d.on w) : Nx (w.alloc (.cells cs 34)) (some ⟨w.heap.size, 0, none⟩) 1 1 [tnOf d] := by
  have hB : Bk 34 (w.alloc (.cells cs 34)) w.heap.size d.cells := by
    have := Bk.new 34 w cs.toList
    rwa [Array.toArray_toList, hcs] at this
  obtain ⟨f, h1, h2, h3, h4, _⟩ := nl_one (B := 0) hB (hd.below (box_below w _)) (Nat.zero_le _) (fun _ _ _ => Nat.zero_le _)
  exact ⟨f, h1, h2, h3, h4⟩
end Go.Proofs.Ytafdogcanjcbmaa
/-
  ParseParens, at every text.
-/
namespace Go.Proofs.Ytafdogcanjcbmaa
set_option linter.unusedVariables false
set_option linter.unusedSimpArgs false
open Go.RowKit

def Nxs (w : World) (l : List (Option Addr × Nat × Nat × List Tn)) : Prop := ∀ q ∈ l, Nx w q.1 q.2.1 q.2.2.1 q.2.2.2
theorem Nxs.below {w w' : World} {l : List (Option Addr × Nat × Nat × List Tn)} (h : Nxs w l) (hb : Below w.heap.size w w') : Nxs w' l := fun q hq => (h q hq).below hb
theorem Nxs.cons {w : World} {l : List (Option Addr × Nat × Nat × List Tn)} {a : Option Addr} {n c : Nat} {X : List Tn} (h : Nxs w l) (h1 : Nx w a n c X) : Nxs w ((a, n, c, X) :: l) := fun q hq => by
  rcases List.mem_cons.1 hq with rfl | hq
  · exact h1
  · exact h q hq
theorem Nxs.nil (w : World) : Nxs w [] := fun q hq => by cases hq
theorem Nxs.get {w : World} {l : List (Option Addr × Nat × Nat × List Tn)} (h : Nxs w l) {a : Option Addr} {n c : Nat} {X : List Tn} (hm : (a, n, c, X) ∈ l) : Nx w a n c X := h _ hm
theorem dp_pos {X : List Tn} {d : Nat} (h : Dp X 1 d) : 0 < X.length := by
  cases X with
  | nil => cases h with | cons h0 _ _ _ => cases h0
  | cons n Y => simp
theorem cat3 (l s r : ByteArray) : (l ++ s ++ r).data.toList = l.data.toList ++ s.data.toList ++ r.data.toList := by
  rw [ByteArray.data_append, Array.toList_append, ByteArray.data_append, Array.toList_append]
theorem cat2 (l s : ByteArray) : (l ++ s).data.toList = l.data.toList ++ s.data.toList := by
  rw [ByteArray.data_append, Array.toList_append]
/-- A text that is put together, parsed. -/
theorem Parse_put {S : ByteArray} (hS : S.size ≤ 256) {us : List Tk} (h : Run numB S.data.toList 0 us none) {L : List Tn} (hl : Ln numT (us.map Tk.pk) (some L) []) {d : Nat} (hd : Dp L 1 d) (h40 : d ≤ 40) (W : World) : Calls Try.prog 10 #[.string S] W (PkEnd L W) :=
  (Parse_ok S hS us h hl W).mono fun _ _ h => h.tree hd h40
theorem dp_one {n : Tn} {L : List Tn} {d : Nat} (hk : kdT n = 1) (h : Dp L 1 d) : Dp (n :: L) 1 (d + 1) := by rw [Nat.add_comm]; exact .cons (k := 1) hk h
theorem dp_two {n : Tn} {L K : List Tn} {d e : Nat} (hk : kdT n = 2) (h : Dp L 1 d) (h2 : Dp K 1 e) : Dp (n :: (L ++ K)) 1 (max d e + 1) := by rw [Nat.add_comm]; exact .cons (k := 2) hk (h.app h2)
theorem dp_leaf {n : Tn} (hk : n.k = 1 ∨ n.k = 2) : Dp [n] 1 1 := .cons (k := 0) (by unfold kdT; rw [if_pos hk]; rfl) .nil
set_option maxHeartbeats 6400000 in
set_option maxRecDepth 10000 in
theorem parens_any (s : ByteArray) (hs : s.size ≤ 4611686018427387903) (W : World) : Calls Try.prog 5 #[.string s] W (TrueEnd W) := by
  have KS := Lib.hid (fun w => shown_is w)
  by_cases hz : 200 < s.size
  · have e1 : (200 : Int) < (s.size : Int) := by omega
    clear hz
    go_enter Try.func5, Try.ntmps5
    go_wp2_with fail
    refine (KS.out _).mono ?_
    rintro e w1 ⟨rfl, hb1⟩
    go_wp2_with fail
    go_ret
    exact ⟨rfl, hb1⟩
  have e1 : ¬ (200 : Int) < (s.size : Int) := by omega
  have hsl : s.data.toList.length = s.size := Array.length_toList
  have upA : ∀ (p q : Int), (q = 10 ∨ q = 2) → (∀ W, Calls Try.prog 10 #[.string s] W (FlEnd p q W)) → Calls Try.prog 5 #[.string s] W (TrueEnd W) := by
    intro p q hq k1
    have K1 := Lib.hid k1
    clear k1 hz hsl
    rcases hq with rfl | rfl
    all_goals
      go_enter Try.func5, Try.ntmps5
      go_wp2_with fail
      refine (KS.out _).mono ?_
      rintro e w1 ⟨rfl, hb1⟩
      go_wp2_with fail
      refine (K1.out _).mono ?_
      rintro e w2 ⟨rfl, hb2⟩
      replace hb2 := hb1.trans (hb2.mono hb1.size)
      clear hb1
      go_wp2_with fail
      go_ret
      exact ⟨rfl, hb2⟩
  obtain ⟨ts, e, hrun⟩ := Run.any numB s.data.toList 0
  cases e with
  | some q => exact upA q 2 (by decide) (fun W => Parse_bad s (by omega) ts q hrun W)
  | none =>
    obtain ⟨x, r, hR⟩ := Ln.any numT (pks ts)
    have k1 := fun W => Parse_ok s (by omega) ts hrun hR W
    cases ht : told x r with
    | none => exact upA _ 2 (by decide) (fun W => (k1 W).mono fun e W' h => h.none ht)
    | some X =>
      have hfew := told_few (by omega) hrun hR ht
      obtain ⟨rfl, rfl⟩ := told_some ht
      have hbr := (run_few (show s.size ≤ 256 by omega) hrun).2.1
      obtain ⟨d, hd⟩ := hR.tree hbr
      by_cases h40 : 40 < d
      · refine upA 0 10 (by decide) (fun W => (k1 W).mono ?_)
        rintro e W' ⟨hb, ⟨h1, _⟩ | ⟨Y, d2, h1, h2, ⟨_, h3⟩ | ⟨h3, _⟩⟩⟩
        · cases h1
        · exact ⟨h3, hb⟩
        · injection h1 with h1
          subst h1
          have := (hd.det h2).2
          omega
      have K1 := Lib.hid (fun W => (k1 W).mono fun e W' h => h.tree hd (by omega))
      have hpos := dp_pos hd
      have hns := hR.ns (P := fun _ => True) (fun _ _ => trivial) hbr
      have hFw : Fw X := ⟨by omega, hns⟩
      have HFW := Lib.hid hFw
      have hkinds : ∀ w a n c, Nx w a n c X → ∃ b off, a = some ⟨b, off, none⟩ ∧ w.cell? ⟨b, off, none⟩ = some (.int .i64 (X[0]'hpos).k) ∧ n = X.length := by
        intro w a n c h
        obtain ⟨hn, b, off, rfl, hc⟩ := h.kinds hpos
        have := hc 0 hpos
        rw [Nat.zero_mul, Nat.add_zero] at this
        exact ⟨b, off, rfl, this, hn⟩
      obtain ⟨k0, hk0⟩ : ∃ k0, k0 = (X[0]'hpos).k := ⟨_, rfl⟩
      rw [← hk0] at hkinds
      obtain ⟨xn, hxn⟩ : ∃ xn, xn = X.length := ⟨_, rfl⟩
      rw [← hxn] at hkinds hpos
      have HK := Lib.hid hkinds
      obtain ⟨xm, rfl⟩ : ∃ xm, xn = xm + 1 := ⟨xn - 1, by omega⟩
      have hpi : (0 : Int) < (xm : Int) + 1 := by omega
      have hpz : ((xm : Int) + 1 == 0) = false := beq_eq_false_iff_ne.2 (by omega)
      clear k1 upA hz ht hkinds
      by_cases hk : 5 ≤ k0 ∧ k0 ≤ 7
      · obtain ⟨g1, g2⟩ := hk
        clear hrun hR hd hns hFw hfew hbr hk0 hxn
        go_enter Try.func5, Try.ntmps5
        go_wp2_with fail
        refine (KS.out _).mono ?_
        rintro e w1 ⟨rfl, hb1⟩
        go_wp2_with fail
        refine (K1.out _).mono ?_
        rintro e w2 ⟨a2, n2, c2, rfl, hN2, hb2⟩
        obtain ⟨b, off, rfl, hc0, hn2⟩ := HK.out _ _ _ _ hN2
        subst hn2
        replace hb2 := hb1.trans (hb2.mono hb1.size)
        clear hb1 hN2
        go_wp2_with fail
        go_ret
        exact ⟨rfl, hb2⟩
      have KD := Lib.hid (fun w a n c (h : Nx w a n c X) => depth_nx (w := w) (by omega) h hd)
      have g12 : ¬ (5 : Int) ≤ k0 ∨ (5 ≤ k0 ∧ ¬ k0 ≤ 7) := by omega
      by_cases hd40 : 40 ≤ d
      · have e2 : (40 : Int) ≤ (d : Int) := by omega
        clear hrun hR hd hns hFw hfew hbr hk hk0 hxn
        rcases g12 with g1 | ⟨g1, g2⟩
        all_goals
          go_enter Try.func5, Try.ntmps5
          go_wp2_with fail
          refine (KS.out _).mono ?_
          rintro e w1 ⟨rfl, hb1⟩
          go_wp2_with fail
          refine (K1.out _).mono ?_
          rintro e w2 ⟨a2, n2, c2, rfl, hN2, hb2⟩
          have KD2 := Lib.hid (KD.out _ _ _ _ hN2)
          obtain ⟨b, off, rfl, hc0, hn2⟩ := HK.out _ _ _ _ hN2
          subst hn2
          replace hb2 := hb1.trans (hb2.mono hb1.size)
          clear hb1 hN2
          go_wp2_with fail
          refine KD2.out.mono ?_
          rintro e w3 ⟨rfl, hb3⟩
          replace hb3 := hb2.trans (hb3.mono hb2.size)
          clear hb2
          go_wp2_with fail
          go_ret
          exact ⟨rfl, hb3⟩
      have e2 : ¬ (40 : Int) ≤ (d : Int) := by omega
      have hl := hR.expr (fun n Y hY => by
        have h0 : k0 = n.k := by
          subst hY
          rw [hk0]; rfl
        omega)
      have hl : Rd' numT .expr (ts.map Tk.pk) (some X) [] := hl
      have z1 : ((⟨#[40]⟩ : ByteArray) ++ s).size ≤ 256 := by rw [ByteArray.size_append, show (⟨#[40]⟩ : ByteArray).size = 1 from rfl]; omega
      have z2 : ((⟨#[40]⟩ : ByteArray) ++ s ++ ⟨#[41]⟩).size ≤ 256 := by rw [ByteArray.size_append, ByteArray.size_append, show (⟨#[40]⟩ : ByteArray).size = 1 from rfl, show (⟨#[41]⟩ : ByteArray).size = 1 from rfl]; omega
      have z3 : ((⟨#[97, 91]⟩ : ByteArray) ++ s).size ≤ 256 := by rw [ByteArray.size_append, show (⟨#[97, 91]⟩ : ByteArray).size = 2 from rfl]; omega
      have z4 : ((⟨#[97, 91]⟩ : ByteArray) ++ s ++ ⟨#[93]⟩).size ≤ 256 := by rw [ByteArray.size_append, ByteArray.size_append, show (⟨#[97, 91]⟩ : ByteArray).size = 2 from rfl, show (⟨#[93]⟩ : ByteArray).size = 1 from rfl]; omega
      have z5 : ((⟨#[97, 58]⟩ : ByteArray) ++ s).size ≤ 256 := by rw [ByteArray.size_append, show (⟨#[97, 58]⟩ : ByteArray).size = 2 from rfl]; omega
      have z6 : ((⟨#[70, 58, 123]⟩ : ByteArray) ++ s).size ≤ 256 := by rw [ByteArray.size_append, show (⟨#[70, 58, 123]⟩ : ByteArray).size = 3 from rfl]; omega
      have z7 : ((⟨#[70, 58, 123]⟩ : ByteArray) ++ s ++ ⟨#[125]⟩).size ≤ 256 := by rw [ByteArray.size_append, ByteArray.size_append, show (⟨#[70, 58, 123]⟩ : ByteArray).size = 3 from rfl, show (⟨#[125]⟩ : ByteArray).size = 1 from rfl]; omega
      obtain ⟨u3, r3, q3⟩ := in_paren hrun hl
      obtain ⟨u4, r4, q4⟩ := in_index hrun hl
      obtain ⟨u5, r5, q5⟩ := in_assign hrun hl
      obtain ⟨u6, r6, q6⟩ := in_define hrun hl
      have K3 := Lib.hid (fun W => Parse_put z2 (by rw [cat3]; simpa using r3) q3 hd (by omega) W)
      have K4 := Lib.hid (fun W => Parse_put z4 (by rw [cat3]; simpa using r4) q4 (dp_two rfl (dp_leaf (.inr rfl)) hd) (by omega) W)
      have K5 := Lib.hid (fun W => Parse_put z5 (by rw [cat2]; simpa using r5) q5 (dp_one rfl hd) (by omega) W)
      have K6 := Lib.hid (fun W => Parse_put z7 (by rw [cat3]; simpa using r6) q6 (dp_one rfl hd) (by omega) W)
      have hxl : X.length ≤ 256 := hfew
      have HXL := Lib.hid hxl
      have HFN := Lib.hid (show Fw [(⟨2, [], [], [97], []⟩ : Tn)] from ⟨by simp, fun t ht => by rcases List.mem_singleton.1 ht with rfl; exact Nat.zero_le _⟩)
      clear r3 r4 r5 r6 q3 q4 q5 q6 hxl
      clear hrun hR hl hd hns hFw hfew hbr hk hd40 hsl hk0 hxn
      go_enter Try.func5, Try.ntmps5
      rcases g12 with g1 | ⟨g1, g2⟩
      all_goals
        go_wp2_with fail
        refine (KS.out _).mono ?_
        rintro e w0 ⟨rfl, hb0⟩
        have HB0 := Lib.hid hb0
        clear hb0
        go_wp2_with fail
        refine (K1.out _).mono ?_
        rintro e w1 ⟨a2, n2, c2, rfl, hN2, hb1⟩
        have HX1 := Lib.hid ((Nxs.nil w1).cons hN2)
        have HB1 := Lib.hid (HB0.out.trans (hb1.mono HB0.out.size))
        have KD2 := Lib.hid (KD.out _ _ _ _ hN2)
        obtain ⟨b, off, rfl, hc0, hn2⟩ := HK.out _ _ _ _ hN2
        subst hn2
        clear hN2 hb1 HB0
        go_wp2_with fail
        refine KD2.out.mono ?_
        rintro e w2 ⟨rfl, hb2⟩
        have HX2 := Lib.hid ((HX1.out.below hb2))
        have HB2 := Lib.hid (HB1.out.trans (hb2.mono HB1.out.size))
        clear hb2 HX1 HB1
        go_wp2_with fail
        refine (K3.out _).mono ?_
        rintro e w3 ⟨a3, n3, c3, rfl, hN3, hb3⟩
        have HX3 := Lib.hid ((HX2.out.below hb3).cons hN3)
        have HB3 := Lib.hid (HB2.out.trans (hb3.mono HB2.out.size))
        clear hb3 HX2 HB2 hN3
        go_wp2_with fail
        refine (K4.out _).mono ?_
        rintro e w4 ⟨a4, n4, c4, rfl, hN4, hb4⟩
        have HX4 := Lib.hid ((HX3.out.below hb4).cons hN4)
        have HB4 := Lib.hid (HB3.out.trans (hb4.mono HB3.out.size))
        clear hb4 HX3 HB3 hN4
        go_wp2_with fail
        refine (K5.out _).mono ?_
        rintro e w5 ⟨a5, n5, c5, rfl, hN5, hb5⟩
        have HX5 := Lib.hid ((HX4.out.below hb5).cons hN5)
        have HB5 := Lib.hid (HB4.out.trans (hb5.mono HB4.out.size))
        clear hb5 HX4 HB4 hN5
        go_wp2_with fail
        refine (K6.out _).mono ?_
        rintro e w6 ⟨a6, n6, c6, rfl, hN6, hb6⟩
        have HX6 := Lib.hid ((HX5.out.below hb6).cons hN6)
        have HB6 := Lib.hid (HB5.out.trans (hb6.mono HB5.out.size))
        clear hb6 HX5 HB5 hN6
        have hnm := nx_one (w := w6) (d := nameN ⟨#[97]⟩) (cs := #[.int .i64 2, .string ⟨#[]⟩, .string ⟨#[]⟩, .string ⟨#[97]⟩, .slice none 0 0]) rfl (nameN_on ⟨#[97]⟩ w6 (by decide))
        have hal := box_below w6 (.cells #[.int .i64 2, .string ⟨#[]⟩, .string ⟨#[]⟩, .string ⟨#[97]⟩, .slice none 0 0] 34)
        obtain ⟨nb, hnb⟩ : ∃ nb, nb = w6.heap.size := ⟨_, rfl⟩
        have HXN := Lib.hid (show Nxs (w6.alloc (.cells #[.int .i64 2, .string ⟨#[]⟩, .string ⟨#[]⟩, .string ⟨#[97]⟩, .slice none 0 0] 34)) _ from (HX6.out.below hal).cons hnm)
        have HBN := Lib.hid (HB6.out.trans (hal.mono HB6.out.size))
        clear hnm hal hnb HX6 HB6
        go_wp2_with fail
        refine (same_nx (by have := HXL.out; omega) (HXN.out.get (a := a3) (n := n3) (c := c3) (X := X) (by simp)) (HXN.out.get (a := some ⟨b, off, none⟩) (n := xm + 1) (c := c2) (X := X) (by simp))).mono ?_
        rintro e w7 ⟨rfl, hb7⟩
        have HX7 := Lib.hid (HXN.out.below hb7)
        have HB7 := Lib.hid (HBN.out.trans (hb7.mono HBN.out.size))
        clear hb7 HXN HBN
        go_wp2_with fail
        refine (Node_nx2 w7 8 ⟨#[]⟩ ⟨#[]⟩ ⟨#[]⟩ (by decide) (by decide) (by decide) (by decide) (HX7.out.get (a := some ⟨w6.heap.size, 0, none⟩) (n := 1) (c := 1) (X := [tnOf (nameN ⟨#[97]⟩)]) (by simp)) (HX7.out.get (a := some ⟨b, off, none⟩) (n := xm + 1) (c := c2) (X := X) (by simp)) HFN.out HFW.out (by have := HXL.out; show 1 + X.length ≤ _; omega)).mono ?_
        rintro e w8 ⟨a8, n8, c8, rfl, hN8, hb8⟩
        have HX8 := Lib.hid ((HX7.out.below hb8).cons hN8)
        have HB8 := Lib.hid (HB7.out.trans (hb8.mono HB7.out.size))
        clear hb8 hN8 HX7 HB7
        go_wp2_with fail
        refine (same_nx (X := ⟨8, [], [], [], []⟩ :: ([⟨2, [], [], [97], []⟩] ++ X)) (by have := HXL.out; simp; omega) (HX8.out.get (a := a4) (n := n4) (c := c4) (by simp)) (HX8.out.get (a := a8) (n := n8) (c := c8) (List.mem_cons_self))).mono ?_
        rintro e w9 ⟨rfl, hb9⟩
        have HX9 := Lib.hid (HX8.out.below hb9)
        have HB9 := Lib.hid (HB8.out.trans (hb9.mono HB8.out.size))
        clear hb9 HX8 HB8
        go_wp2_with fail
        refine (Node_nx1 w9 5 ⟨#[]⟩ ⟨#[]⟩ ⟨#[97]⟩ (by decide) (by decide) (by decide) (by decide) (HX9.out.get (a := some ⟨b, off, none⟩) (n := xm + 1) (c := c2) (X := X) (by simp)) HFW.out).mono ?_
        rintro e w10 ⟨a10, n10, c10, rfl, hN10, hb10⟩
        have HX10 := Lib.hid ((HX9.out.below hb10).cons hN10)
        have HB10 := Lib.hid (HB9.out.trans (hb10.mono HB9.out.size))
        clear hb10 hN10 HX9 HB9
        go_wp2_with fail
        refine (same_nx (X := ⟨5, [], [], [97], []⟩ :: X) (by have := HXL.out; simp; omega) (HX10.out.get (a := a5) (n := n5) (c := c5) (by simp)) (HX10.out.get (a := a10) (n := n10) (c := c10) (List.mem_cons_self))).mono ?_
        rintro e w11 ⟨rfl, hb11⟩
        have HX11 := Lib.hid (HX10.out.below hb11)
        have HB11 := Lib.hid (HB10.out.trans (hb11.mono HB10.out.size))
        clear hb11 HX10 HB10
        go_wp2_with fail
        refine (Node_nx1 w11 7 ⟨#[]⟩ ⟨#[]⟩ ⟨#[70]⟩ (by decide) (by decide) (by decide) (by decide) (HX11.out.get (a := some ⟨b, off, none⟩) (n := xm + 1) (c := c2) (X := X) (by simp)) HFW.out).mono ?_
        rintro e w12 ⟨a12, n12, c12, rfl, hN12, hb12⟩
        have HX12 := Lib.hid ((HX11.out.below hb12).cons hN12)
        have HB12 := Lib.hid (HB11.out.trans (hb12.mono HB11.out.size))
        clear hb12 hN12 HX11 HB11
        go_wp2_with fail
        refine (same_nx (X := ⟨7, [], [], [70], []⟩ :: X) (by have := HXL.out; simp; omega) (HX12.out.get (a := a6) (n := n6) (c := c6) (by simp)) (HX12.out.get (a := a12) (n := n12) (c := c12) (List.mem_cons_self))).mono ?_
        rintro e w13 ⟨rfl, hb13⟩
        have HB13 := Lib.hid (HB12.out.trans (hb13.mono HB12.out.size))
        clear hb13 HX12 HB12
        go_wp2_with fail
        go_ret
        exact ⟨rfl, HB13.out⟩
end Go.Proofs.Ytafdogcanjcbmaa
/-
  ParseRight, at every text and sign.
-/
namespace Go.Proofs.Ytafdogcanjcbmaa
set_option linter.unusedVariables false
set_option linter.unusedSimpArgs false
open Go.RowKit

theorem sign_at (p : Nat) (h : p < 17) : ∃ v : UInt8, cls v = 4 ∧ (ByteArray.mk #[43, 45, 42, 37, 33, 38, 124, 60, 62, 61, 126, 44, 35, 94, 36, 63, 64]).extract p (p + 1) = ⟨#[v]⟩ := by
  have key : ∀ p : _root_.Fin 17, cls (sgL[p.val]'(by have := p.isLt; exact this)) = 4 ∧ (ByteArray.mk #[43, 45, 42, 37, 33, 38, 124, 60, 62, 61, 126, 44, 35, 94, 36, 63, 64]).extract p.val (p.val + 1) = ⟨#[sgL[p.val]'(by have := p.isLt; exact this)]⟩ := by decide +kernel
  exact ⟨_, key ⟨p, h⟩⟩
set_option maxHeartbeats 6400000 in
set_option maxRecDepth 10000 in
theorem right_any (s : ByteArray) (x : Int) (hx : 0 ≤ x ∧ x ≤ 255) (hs : s.size ≤ 4611686018427387903) (W : World) : Calls Try.prog 6 #[.string s, .int .u8 x] W (TrueEnd W) := by
  have KS := Lib.hid (fun w => shown_is w)
  by_cases hz : 200 < s.size
  · have e1 : (200 : Int) < (s.size : Int) := by omega
    clear hz
    go_enter Try.func6, Try.ntmps6
    go_wp2_with fail
    refine (KS.out _).mono ?_
    rintro e w1 ⟨rfl, hb1⟩
    go_wp2_with fail
    go_ret
    exact ⟨rfl, hb1⟩
  have e1 : ¬ (200 : Int) < (s.size : Int) := by omega
  have hsl : s.data.toList.length = s.size := Array.length_toList
  have upA : ∀ (p q : Int), (q = 10 ∨ q = 2) → (∀ W, Calls Try.prog 10 #[.string s] W (FlEnd p q W)) → Calls Try.prog 6 #[.string s, .int .u8 x] W (TrueEnd W) := by
    intro p q hq k1
    have K1 := Lib.hid k1
    clear k1 hz hsl
    rcases hq with rfl | rfl
    all_goals
      go_enter Try.func6, Try.ntmps6
      go_wp2_with fail
      refine (KS.out _).mono ?_
      rintro e w1 ⟨rfl, hb1⟩
      go_wp2_with fail
      refine (K1.out _).mono ?_
      rintro e w2 ⟨rfl, hb2⟩
      replace hb2 := hb1.trans (hb2.mono hb1.size)
      clear hb1
      go_wp2_with fail
      go_ret
      exact ⟨rfl, hb2⟩
  obtain ⟨ts, e, hrun⟩ := Run.any numB s.data.toList 0
  cases e with
  | some q => exact upA q 2 (by decide) (fun W => Parse_bad s (by omega) ts q hrun W)
  | none =>
    obtain ⟨x, r, hR⟩ := Ln.any numT (pks ts)
    have k1 := fun W => Parse_ok s (by omega) ts hrun hR W
    cases ht : told x r with
    | none => exact upA _ 2 (by decide) (fun W => (k1 W).mono fun e W' h => h.none ht)
    | some X =>
      have hfew := told_few (by omega) hrun hR ht
      obtain ⟨rfl, rfl⟩ := told_some ht
      have hbr := (run_few (show s.size ≤ 256 by omega) hrun).2.1
      obtain ⟨d, hd⟩ := hR.tree hbr
      by_cases h40 : 40 < d
      · refine upA 0 10 (by decide) (fun W => (k1 W).mono ?_)
        rintro e W' ⟨hb, ⟨h1, _⟩ | ⟨Y, d2, h1, h2, ⟨_, h3⟩ | ⟨h3, _⟩⟩⟩
        · cases h1
        · exact ⟨h3, hb⟩
        · injection h1 with h1
          subst h1
          have := (hd.det h2).2
          omega
      have K1 := Lib.hid (fun W => (k1 W).mono fun e W' h => h.tree hd (by omega))
      have hpos := dp_pos hd
      have hns := hR.ns (P := fun _ => True) (fun _ _ => trivial) hbr
      have hFw : Fw X := ⟨by omega, hns⟩
      have HFW := Lib.hid hFw
      have hkinds : ∀ w a n c, Nx w a n c X → ∃ b off, a = some ⟨b, off, none⟩ ∧ w.cell? ⟨b, off, none⟩ = some (.int .i64 (X[0]'hpos).k) ∧ n = X.length := by
        intro w a n c h
        obtain ⟨hn, b, off, rfl, hc⟩ := h.kinds hpos
        have := hc 0 hpos
        rw [Nat.zero_mul, Nat.add_zero] at this
        exact ⟨b, off, rfl, this, hn⟩
      obtain ⟨k0, hk0⟩ : ∃ k0, k0 = (X[0]'hpos).k := ⟨_, rfl⟩
      rw [← hk0] at hkinds
      obtain ⟨xn, hxn⟩ : ∃ xn, xn = X.length := ⟨_, rfl⟩
      rw [← hxn] at hkinds hpos
      have HK := Lib.hid hkinds
      obtain ⟨xm, rfl⟩ : ∃ xm, xn = xm + 1 := ⟨xn - 1, by omega⟩
      have hpi : (0 : Int) < (xm : Int) + 1 := by omega
      have hpz : ((xm : Int) + 1 == 0) = false := beq_eq_false_iff_ne.2 (by omega)
      clear k1 upA hz ht hkinds
      by_cases hk : 5 ≤ k0 ∧ k0 ≤ 7
      · obtain ⟨g1, g2⟩ := hk
        clear hrun hR hd hns hFw hfew hbr hk0 hxn
        go_enter Try.func6, Try.ntmps6
        go_wp2_with fail
        refine (KS.out _).mono ?_
        rintro e w1 ⟨rfl, hb1⟩
        go_wp2_with fail
        refine (K1.out _).mono ?_
        rintro e w2 ⟨a2, n2, c2, rfl, hN2, hb2⟩
        obtain ⟨b, off, rfl, hc0, hn2⟩ := HK.out _ _ _ _ hN2
        subst hn2
        replace hb2 := hb1.trans (hb2.mono hb1.size)
        clear hb1 hN2
        go_wp2_with fail
        go_ret
        exact ⟨rfl, hb2⟩
      have KD := Lib.hid (fun w a n c (h : Nx w a n c X) => depth_nx (w := w) (by omega) h hd)
      have g12 : ¬ (5 : Int) ≤ k0 ∨ (5 ≤ k0 ∧ ¬ k0 ≤ 7) := by omega
      by_cases hd40 : 40 ≤ d
      · have e2 : (40 : Int) ≤ (d : Int) := by omega
        clear hrun hR hd hns hFw hfew hbr hk hk0 hxn
        rcases g12 with g1 | ⟨g1, g2⟩
        all_goals
          go_enter Try.func6, Try.ntmps6
          go_wp2_with fail
          refine (KS.out _).mono ?_
          rintro e w1 ⟨rfl, hb1⟩
          go_wp2_with fail
          refine (K1.out _).mono ?_
          rintro e w2 ⟨a2, n2, c2, rfl, hN2, hb2⟩
          have KD2 := Lib.hid (KD.out _ _ _ _ hN2)
          obtain ⟨b, off, rfl, hc0, hn2⟩ := HK.out _ _ _ _ hN2
          subst hn2
          replace hb2 := hb1.trans (hb2.mono hb1.size)
          clear hb1 hN2
          go_wp2_with fail
          refine KD2.out.mono ?_
          rintro e w3 ⟨rfl, hb3⟩
          replace hb3 := hb2.trans (hb3.mono hb2.size)
          clear hb2
          go_wp2_with fail
          go_ret
          exact ⟨rfl, hb3⟩
      have e2 : ¬ (40 : Int) ≤ (d : Int) := by omega
      have hl := hR.expr (fun n Y hY => by
        have h0 : k0 = n.k := by
          subst hY
          rw [hk0]; rfl
        omega)
      have hl : Rd' numT .expr (ts.map Tk.pk) (some X) [] := hl
      obtain ⟨y, rfl⟩ : ∃ y : Nat, x = (y : Int) := ⟨x.toNat, by omega⟩
      have hy : y ≤ 255 := by omega
      obtain ⟨p, hp⟩ : ∃ p, p = y % 17 := ⟨_, rfl⟩
      have hp17 : p < 17 := by omega
      obtain ⟨v, hv4, hvx⟩ := sign_at p hp17
      obtain ⟨V, hV⟩ : ∃ V : ByteArray, V = ⟨#[v]⟩ := ⟨_, rfl⟩
      have hVl : V.data.toList = [v] := by rw [hV]
      have hVz : V.size = 1 := by rw [hV]; rfl
      rw [← hV] at hvx
      have f1 : (y : Int).tmod 17 = (p : Int) := by rw [Int.tmod_eq_emod_of_nonneg (by omega)]; omega
      have f2 : (y : Int) % 17 = (p : Int) := by omega
      have f3 : IntKind.i64.wrap (p : Int) = (p : Int) := wrn (by omega) (by omega)
      have f4 : IntKind.i64.wrap ((p : Int) + 1) = (p : Int) + 1 := wrn (by omega) (by omega)
      have f5 : IntKind.i64.wrap (y : Int) = (y : Int) := wrn (by omega) (by omega)
      have z1 : ((⟨#[55]⟩ : ByteArray) ++ V).size ≤ 256 := by rw [ByteArray.size_append, show (⟨#[55]⟩ : ByteArray).size = 1 from rfl]; omega
      have z2 : ((⟨#[55]⟩ : ByteArray) ++ V ++ s).size ≤ 256 := by rw [ByteArray.size_append, ByteArray.size_append, show (⟨#[55]⟩ : ByteArray).size = 1 from rfl]; omega
      have z3 : (V ++ s).size ≤ 256 := by rw [ByteArray.size_append]; omega
      have z4 : ((⟨#[55]⟩ : ByteArray) ++ V ++ ⟨#[39]⟩).size ≤ 256 := by rw [ByteArray.size_append, ByteArray.size_append, show (⟨#[55]⟩ : ByteArray).size = 1 from rfl, show (⟨#[39]⟩ : ByteArray).size = 1 from rfl]; omega
      have z5 : ((⟨#[55]⟩ : ByteArray) ++ V ++ ⟨#[39]⟩ ++ s).size ≤ 256 := by rw [ByteArray.size_append, ByteArray.size_append, ByteArray.size_append, show (⟨#[55]⟩ : ByteArray).size = 1 from rfl, show (⟨#[39]⟩ : ByteArray).size = 1 from rfl]; omega
      obtain ⟨u3, r3, q3⟩ := in_dyad hrun hl hv4 (by decide)
      obtain ⟨u4, r4, q4⟩ := in_monad hrun hl hv4
      obtain ⟨u5, r5, q5⟩ := in_dyad_adv hrun hl hv4 (by decide)
      rw [show numT [55] = [55] by decide] at q3 q5
      have hvb : [v] ≠ [123] := by
        intro e
        injection e with e
        rw [e] at hv4
        exact absurd hv4 (by decide)
      have kd4 : ∀ a : List UInt8, kdT (⟨4, [v], a, [], []⟩ : Tn) = 2 := fun a => kd_verb (.inr rfl) hvb
      have kd3 : kdT (⟨3, [v], [], [], []⟩ : Tn) = 1 := kd_verb (.inl rfl) hvb
      have K3 := Lib.hid (fun W => Parse_put z2 (by rw [cat3, hVl]; simpa using r3) q3 (dp_two (kd4 []) (dp_leaf (.inl rfl)) hd) (by omega) W)
      have K4 := Lib.hid (fun W => Parse_put z3 (by rw [cat2, hVl]; simpa using r4) q4 (dp_one kd3 hd) (by omega) W)
      have K5 := Lib.hid (fun W => Parse_put z5 (by rw [cat3, cat2, hVl]; simpa using r5) q5 (dp_two (kd4 [39]) (dp_leaf (.inl rfl)) hd) (by omega) W)
      have hxl : X.length ≤ 256 := hfew
      have HXL := Lib.hid hxl
      have HVL := Lib.hid hVl
      have HFN := Lib.hid (show Fw [(⟨1, [], [], [], [[55]]⟩ : Tn)] from ⟨by simp, fun t ht => by rcases List.mem_singleton.1 ht with rfl; decide⟩)
      clear r3 r4 r5 q3 q4 q5 hxl kd3 kd4 hvb hV hVl hp hv4
      clear hrun hR hl hd hns hFw hfew hbr hk hd40 hsl hk0 hxn
      go_enter Try.func6, Try.ntmps6
      rcases g12 with g1 | ⟨g1, g2⟩
      all_goals
        go_wp2_with fail
        refine (KS.out _).mono ?_
        rintro e w0 ⟨rfl, hb0⟩
        have HB0 := Lib.hid hb0
        clear hb0
        go_wp2_with fail
        refine (K1.out _).mono ?_
        rintro e w1 ⟨a2, n2, c2, rfl, hN2, hb1⟩
        have HX1 := Lib.hid ((Nxs.nil w1).cons hN2)
        have HB1 := Lib.hid (HB0.out.trans (hb1.mono HB0.out.size))
        have KD2 := Lib.hid (KD.out _ _ _ _ hN2)
        obtain ⟨b, off, rfl, hc0, hn2⟩ := HK.out _ _ _ _ hN2
        subst hn2
        clear hN2 hb1 HB0
        go_wp2_with fail
        refine KD2.out.mono ?_
        rintro e w2 ⟨rfl, hb2⟩
        have HX2 := Lib.hid ((HX1.out.below hb2))
        have HB2 := Lib.hid (HB1.out.trans (hb2.mono HB1.out.size))
        clear hb2 HX1 HB1
        go_wp2_with fail
        refine (K3.out _).mono ?_
        rintro e w3 ⟨a3, n3, c3, rfl, hN3, hb3⟩
        have HX3 := Lib.hid ((HX2.out.below hb3).cons hN3)
        have HB3 := Lib.hid (HB2.out.trans (hb3.mono HB2.out.size))
        clear hb3 HX2 HB2 hN3
        go_wp2_with fail
        refine (K4.out _).mono ?_
        rintro e w4 ⟨a4, n4, c4, rfl, hN4, hb4⟩
        have HX4 := Lib.hid ((HX3.out.below hb4).cons hN4)
        have HB4 := Lib.hid (HB3.out.trans (hb4.mono HB3.out.size))
        clear hb4 HX3 HB3 hN4
        go_wp2_with fail
        refine (K5.out _).mono ?_
        rintro e w5 ⟨a5, n5, c5, rfl, hN5, hb5⟩
        have HX5 := Lib.hid ((HX4.out.below hb5).cons hN5)
        have HB5 := Lib.hid (HB4.out.trans (hb5.mono HB4.out.size))
        clear hb5 HX4 HB4 hN5
        have hb6 := box_below w5 (.cells #[.string ⟨#[55]⟩] 9)
        have hSt : St (w5.alloc (.cells #[.string ⟨#[55]⟩] 9)) (some ⟨w5.heap.size, 0, none⟩) 1 [⟨#[55]⟩] := ⟨rfl, fun _ => ⟨w5.heap.size, 0, rfl, fun j hj => by
          obtain rfl : j = 0 := by omega
          exact (Bk.new 9 w5 [.string ⟨#[55]⟩]).p0⟩⟩
        have hsz6 : (w5.alloc (.cells #[.string ⟨#[55]⟩] 9)).heap.size = w5.heap.size + 1 := by simp
        have hnm := nx_one (w := w5.alloc (.cells #[.string ⟨#[55]⟩] 9)) (d := litD (some ⟨w5.heap.size, 0, none⟩) 1 1 [⟨#[55]⟩]) (cs := #[.int .i64 1, .string ⟨#[]⟩, .string ⟨#[]⟩, .string ⟨#[]⟩, .slice (some ⟨w5.heap.size, 0, none⟩) 1 1]) rfl (litD_on hSt (Nat.le_refl _) (by unfold maxLen; omega) (fun s hs => by rcases List.mem_singleton.1 hs with rfl; decide))
        rw [hsz6, show tnOf (litD (some ⟨w5.heap.size, 0, none⟩) 1 1 [⟨#[55]⟩]) = (⟨1, [], [], [], [[55]]⟩ : Tn) from rfl] at hnm
        have hal := hb6.alloc hb6.size (.cells #[.int .i64 1, .string ⟨#[]⟩, .string ⟨#[]⟩, .string ⟨#[]⟩, .slice (some ⟨w5.heap.size, 0, none⟩) 1 1] 34)
        have HXN := Lib.hid (show Nxs ((w5.alloc (.cells #[.string ⟨#[55]⟩] 9)).alloc (.cells #[.int .i64 1, .string ⟨#[]⟩, .string ⟨#[]⟩, .string ⟨#[]⟩, .slice (some ⟨w5.heap.size, 0, none⟩) 1 1] 34)) _ from (HX5.out.below hal).cons hnm)
        have HBN := Lib.hid (HB5.out.trans (hal.mono HB5.out.size))
        clear hnm hal hb6 hSt hsz6 HX5 HB5
        go_upto_region 13 with fail
        generalize ((w5.alloc (.cells #[.string ⟨#[55]⟩] 9)).alloc (.cells #[.int .i64 1, .string ⟨#[]⟩, .string ⟨#[]⟩, .string ⟨#[]⟩, .slice (some ⟨w5.heap.size, 0, none⟩) 1 1] 34)) = w6 at *
        go_wp2_with fail
        refine (Node_nx2 w6 4 V ⟨#[]⟩ ⟨#[]⟩ (by decide) (by omega) (by decide) (by decide) (HXN.out.get (X := [(⟨1, [], [], [], [[55]]⟩ : Tn)]) (List.mem_cons_self)) (HXN.out.get (a := some ⟨b, off, none⟩) (n := xm + 1) (c := c2) (X := X) (by simp)) HFN.out HFW.out (by have := HXL.out; show 1 + X.length ≤ _; omega)).mono ?_
        rintro e w7 ⟨a7, n7, c7, rfl, hN7, hb7⟩
        rw [HVL.out] at hN7
        have HX7 := Lib.hid ((HXN.out.below hb7).cons hN7)
        have HB7 := Lib.hid (HBN.out.trans (hb7.mono HBN.out.size))
        clear hb7 hN7 HXN HBN
        go_wp2_with fail
        refine (same_nx (X := ⟨4, [v], [], [], []⟩ :: ([⟨1, [], [], [], [[55]]⟩] ++ X)) (by have := HXL.out; simp; omega) (HX7.out.get (a := a3) (n := n3) (c := c3) (by simp)) (HX7.out.get (a := a7) (n := n7) (c := c7) (List.mem_cons_self))).mono ?_
        rintro e w8 ⟨rfl, hb8⟩
        have HX8 := Lib.hid (HX7.out.below hb8)
        have HB8 := Lib.hid (HB7.out.trans (hb8.mono HB7.out.size))
        clear hb8 HX7 HB7
        go_wp2_with fail
        refine (Node_nx1 w8 3 V ⟨#[]⟩ ⟨#[]⟩ (by decide) (by omega) (by decide) (by decide) (HX8.out.get (a := some ⟨b, off, none⟩) (n := xm + 1) (c := c2) (X := X) (by simp)) HFW.out).mono ?_
        rintro e w9 ⟨a9, n9, c9, rfl, hN9, hb9⟩
        rw [HVL.out] at hN9
        have HX9 := Lib.hid ((HX8.out.below hb9).cons hN9)
        have HB9 := Lib.hid (HB8.out.trans (hb9.mono HB8.out.size))
        clear hb9 hN9 HX8 HB8
        go_wp2_with fail
        refine (same_nx (X := ⟨3, [v], [], [], []⟩ :: X) (by have := HXL.out; simp; omega) (HX9.out.get (a := a4) (n := n4) (c := c4) (by simp)) (HX9.out.get (a := a9) (n := n9) (c := c9) (List.mem_cons_self))).mono ?_
        rintro e w10 ⟨rfl, hb10⟩
        have HX10 := Lib.hid (HX9.out.below hb10)
        have HB10 := Lib.hid (HB9.out.trans (hb10.mono HB9.out.size))
        clear hb10 HX9 HB9
        go_wp2_with fail
        refine (Node_nx2 w10 4 V ⟨#[39]⟩ ⟨#[]⟩ (by decide) (by omega) (by decide) (by decide) (HX10.out.get (X := [(⟨1, [], [], [], [[55]]⟩ : Tn)]) (by simp)) (HX10.out.get (a := some ⟨b, off, none⟩) (n := xm + 1) (c := c2) (X := X) (by simp)) HFN.out HFW.out (by have := HXL.out; show 1 + X.length ≤ _; omega)).mono ?_
        rintro e w11 ⟨a11, n11, c11, rfl, hN11, hb11⟩
        rw [HVL.out] at hN11
        have HX11 := Lib.hid ((HX10.out.below hb11).cons hN11)
        have HB11 := Lib.hid (HB10.out.trans (hb11.mono HB10.out.size))
        clear hb11 hN11 HX10 HB10
        go_wp2_with fail
        refine (same_nx (X := ⟨4, [v], [39], [], []⟩ :: ([⟨1, [], [], [], [[55]]⟩] ++ X)) (by have := HXL.out; simp; omega) (HX11.out.get (a := a5) (n := n5) (c := c5) (by simp)) (HX11.out.get (a := a11) (n := n11) (c := c11) (List.mem_cons_self))).mono ?_
        rintro e w12 ⟨rfl, hb12⟩
        have HB12 := Lib.hid (HB11.out.trans (hb12.mono HB11.out.size))
        clear hb12 HX11 HB11
        go_wp2_with fail
        go_ret
        exact ⟨rfl, HB12.out⟩
end Go.Proofs.Ytafdogcanjcbmaa
/-
  A byte of a row, opened.
-/
namespace Go.Proofs.Ytafdogcanjcbmaa
set_option linter.unusedVariables false
set_option linter.unusedSimpArgs false
theorem u8_le {x : Int} (h : (Lit.int .u8 x).wf = true) : 0 ≤ x ∧ x ≤ 255 := by
  have h1 : IntKind.u8.min = 0 := rfl
  have h2 : IntKind.u8.max = 255 := rfl
  simp only [Lit.wf, Bool.and_eq_true, decide_eq_true_eq] at h
  omega
end Go.Proofs.Ytafdogcanjcbmaa

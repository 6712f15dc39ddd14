import Derived.Test.YtpledghphljfkaaDoorMaw
import Derived.Test.YtpledghphljfkaaDoorMas
/-
  The reference's Reverse, Flip, by their contracts.
-/
namespace Go.Proofs.YtpledghphljfkaaDoor
set_option linter.unusedVariables false
set_option linter.unusedSimpArgs false
open Go.RowKit

/-- The numbers below N, the last one first. -/
def dnL (N k : Nat) : List Nat := (List.range N).reverse.take k
theorem dn_succ {N k : Nat} (h : k < N) : valsI ((dnL N (k + 1)).map fun i : Nat => (i : Int)) = valsI ((dnL N k).map fun i : Nat => (i : Int)) ++ valsI [((N - 1 - k : Nat) : Int)] := by
  have e : dnL N (k + 1) = dnL N k ++ [N - 1 - k] := by
    unfold dnL
    rw [List.take_add_one]
    congr 1
    have := rev_at h
    rw [List.getD_eq_getElem?_getD] at this
    rw [List.getElem?_eq_getElem (by simpa using h)] at this ⊢
    simp
  rw [e]; simp [valsI]
theorem dn_all (N : Nat) : dnL N N = (List.range N).reverse := List.take_of_length_le (by simp)
theorem own_setElem {w : World} {B N : Nat} {e : TypeId} {a : Option Addr} {c : Nat} {xs : List Value} (ho : w.ownsRow B e 1 (.slice a N c) N xs) {g i : Nat} (hg : a = some ⟨g, 0, none⟩) (hi : i < N) (u : Value) : (w.setCell ⟨g, i, none⟩ u).ownsRow B e 1 (.slice a N c) N (xs.set i u) := by
  refine ⟨by rw [List.length_set]; exact ho.1, ?_⟩
  rcases ho.2 with ⟨h0, h1⟩ | ⟨g', cap, cur, e1, e2, h1, h2, h3, h4, h5⟩
  · omega
  · subst hg
    injection e1 with e1 _ e3
    injection e1 with e1
    injection e1 with e1 _ _
    subst e1 e3
    refine .inr ⟨g, c, _, rfl, e2, heap_setCell_same w g i cur e u h1, h2, h3, by simp [h4], ?_⟩
    rw [← h5, Array.toList_setIfInBounds, List.take_set]
theorem own_ne {w : World} {B B' N N' : Nat} {e e' : TypeId} {v v' : Value} {xs xs' : List Value} (h : w.ownsRow B e 1 v N xs) (h' : w.ownsRow B' e' 1 v' N' xs') (he : e ≠ e') {k : Nat} (hk : v.ownBlock = some k) : v'.ownBlock ≠ some k := by
  intro hk'
  rcases h.2 with ⟨h0, _⟩ | ⟨g, _, cur, e1, _, h1, _⟩
  · rw [h0] at hk; cases hk
  rcases h'.2 with ⟨h0, _⟩ | ⟨g', _, cur', e1', _, h1', _⟩
  · rw [h0] at hk'; cases hk'
  rw [e1] at hk; rw [e1'] at hk'
  injection hk with hk
  injection hk' with hk'
  have e5 : g = k := hk
  have e6 : g' = k := hk'
  subst e5 e6
  rw [h1] at h1'
  injection h1' with h2
  injection h2 with _ h2
  exact he h2
theorem own_ne_bx {w : World} {B N : Nat} {e : TypeId} {v : Value} {xs : List Value} (h : w.ownsRow B e 1 v N xs) (he : e ≠ 25) {g n c m d : Nat} {a b : Option Addr} (hB : Bx w g a n c b m d) {k : Nat} (hk : v.ownBlock = some k) : g ≠ k := by
  rintro rfl
  rcases h.2 with ⟨h0, _⟩ | ⟨g', _, cur, e1, _, h1, _⟩
  · rw [h0] at hk; cases hk
  rw [e1] at hk
  injection hk with hk
  have e5 : g' = g := hk
  subst e5
  have hx : w.heap[g']? = _ := hB
  rw [hx] at h1
  injection h1 with h1
  injection h1 with _ h1
  exact he h1.symm
theorem fr_off {l : List Int} {es : List ByteArray} (hf : Fits l es) {k : Nat} (hk : k < es.length) :
    plB l k = true ∧ plO l k = plL l k ∧ ofB l.reverse (plL l k).reverse = true ∧
      ∃ o : Nat, ofV l.reverse (plL l k).reverse = (o : Int) ∧ o < es.length ∧ es.getD k ByteArray.empty = (flM l es).getD o ByteArray.empty := by
  have h := fl_off hf.turned (k := k) (by rw [(flM_at hf).1]; exact hk)
  rw [List.reverse_reverse, (flM_at hf).1, flM_twice hf] at h
  exact h
theorem fr_all {l : List Int} {es : List ByteArray} (hf : Fits l es) {p : Nat} (hp : p < es.length) : ∃ j, j < es.length ∧ ofV l.reverse (plL l (j : Int)).reverse = (p : Int) := by
  have hpos : 0 < pr l := by have := hf.2; omega
  have ha := hf.1.pos hpos
  have t := tno_range ha.turned (p : Int)
  rw [pr_reverse, ← hf.2] at t
  have hj : (tno l.reverse p).toNat < es.length := by omega
  refine ⟨(tno l.reverse p).toNat, hj, ?_⟩
  obtain ⟨_, _, hb, _⟩ := fr_off hf hj
  have e : ((tno l.reverse p).toNat : Int) = tno l.reverse p := by omega
  rw [e] at hb ⊢
  unfold ofV
  rw [if_pos hb]
  have := tno_back ha.turned (k := (p : Int)) (by omega) (by rw [pr_reverse, ← hf.2]; omega)
  rw [List.reverse_reverse] at this
  unfold tno at this ⊢
  simp only [List.length_reverse] at this ⊢
  exact this
/-- Behind the region that makes the box: its axes turned round, its elements. -/
def FCut (l : List Int) (es : List ByteArray) (wz : World) (p : Value) (wx : World) : Prop :=
  ∃ g ta tc ea ec, p = .pointer (some ⟨g, 0, none⟩) ∧ Bx wx g ta l.length tc ea es.length ec ∧ wz.heap.size ≤ g ∧ wx.ownsRow wz.heap.size 3 1 (.slice ta l.length tc) l.length (valsI l.reverse) ∧ Fr wx wz.heap.size 9 ea es.length ec (valsS es) ∧ Below wz.heap.size wz wx
theorem FCut.new {l : List Int} {es : List ByteArray} {wz wb : World} {ta ea : Option Addr} {n m tc ec : Nat} (hb : Below wz.heap.size wz wb) (hO : wb.ownsRow wz.heap.size 3 1 (.slice ta n tc) n (valsI l.reverse)) (hF : Fr wb wz.heap.size 9 ea m ec (valsS es)) (hn : n = l.length) (hm : m = es.length) : FCut l es wz (.pointer (some ⟨wb.heap.size, 0, none⟩)) (wb.alloc (.cells #[.slice ta n tc, .slice ea m ec] 25)) := by
  subst hn hm
  have h1 : Below wb.heap.size wb (wb.alloc (.cells #[.slice ta l.length tc, .slice ea es.length ec] 25)) := (Below.refl _ _).alloc (Nat.le_refl _) _
  exact ⟨_, ta, tc, ea, ec, rfl, Bx.new _ _ _ _ _ _ _, hb.size, own_below hO h1, hF.below h1, hb.alloc hb.size _⟩
theorem FCut.set {l : List Int} {es : List ByteArray} {wz wb : World} {ta ea : Option Addr} {n m g tc ec : Nat} (hb : Below wz.heap.size wz wb) (hO : wb.ownsRow wz.heap.size 3 1 (.slice ta n tc) n (valsI l.reverse)) (hF : Fr wb wz.heap.size 9 ea m ec (valsS es)) (hn : n = l.length) (hm : m = es.length) (hZ : Bx wb g none 0 0 none 0 0) (hg : wz.heap.size ≤ g) : FCut l es wz (.pointer (some ⟨g, 0, none⟩)) ((wb.setCell ⟨g, 0, none⟩ (.slice ta n tc)).setCell ⟨g, 1, none⟩ (.slice ea m ec)) := by
  subst hn hm
  have hZ1 := hZ.set0 ta l.length tc
  refine ⟨_, ta, tc, ea, ec, rfl, hZ.set _ _ _ _ _ _, hg, own_set_bx (own_set_bx hO (by decide) hZ 0 _) (by decide) hZ1 1 _, ⟨?_, fun h0 => own_set_bx (own_set_bx (hF.2.1 h0) (by decide) hZ 0 _) (by decide) hZ1 1 _, hF.2.2⟩, (hb.setCell hg _).setCell hg _⟩
  exact (hZ1.st1 (hZ.st1 hF.1.st (.inl rfl) _) (.inr rfl) _).rd
end Go.Proofs.YtpledghphljfkaaDoor
/-
  The reference's Amend, by its contract.
-/
namespace Go.Proofs.YtpledghphljfkaaDoor
set_option linter.unusedVariables false
set_option linter.unusedSimpArgs false
open Go.RowKit

theorem live3 (W : World) (a : Option Addr) (n c : Nat) (b : Option Addr) (m d : Nat) (a2 : Option Addr) (n2 c2 : Nat) (b2 : Option Addr) (m2 d2 : Nat) (a3 : Option Addr) (n3 c3 : Nat) (b3 : Option Addr) (m3 d3 : Nat) :
    Lv (fun w => Bx w (W.heap.size + 1 + 1 + 1) none 0 0 none 0 0 ∧ Bx w (W.heap.size + 1 + 1) a3 n3 c3 b3 m3 d3 ∧ Bx w (W.heap.size + 1) a2 n2 c2 b2 m2 d2 ∧ Bx w W.heap.size a n c b m d ∧ Below W.heap.size W w)
      ((((W.alloc (.cells #[.slice a n c, .slice b m d] 25)).alloc (.cells #[.slice a2 n2 c2, .slice b2 m2 d2] 25)).alloc (.cells #[.slice a3 n3 c3, .slice b3 m3 d3] 25)).alloc (.cells #[.slice none 0 0, .slice none 0 0] 25)) :=
  ⟨⟨Bx.newG _ _ (by simp) _ _ _ _ _ _, (Bx.newG _ _ (by simp) _ _ _ _ _ _).alloc _, ((Bx.newG _ _ (by simp) _ _ _ _ _ _).alloc _).alloc _, (((Bx.new W a n c b m d).alloc _).alloc _).alloc _, ((((Below.refl _ _).alloc (Nat.le_refl _) _).alloc (by simp) _).alloc (by simp; omega) _).alloc (by simp; omega) _⟩⟩
theorem am_1 (o r : Option Ar) : amK o none r = (none, 1) := by cases o <;> cases r <;> rfl
theorem am_2 (o : Option Ar) (t : Ar) : amK o (some t) none = (none, 1) := by cases o <;> rfl
theorem am_3 {o : Option Ar} (t r : Ar) (h : vcE o ≠ 0) : amK o (some t) (some r) = (none, vcE o) := by
  cases o with
  | none => rfl
  | some v =>
    unfold vcE at h ⊢
    unfold amK
    dsimp only at h ⊢
    by_cases hl : v.1.length ≠ 1
    · rw [if_pos hl, if_pos hl]
    · rw [if_neg hl] at h; exact absurd rfl h
theorem am_4 {q t : Ar} (r : Ar) (hl : q.1.length = 1) (h : 1 < t.1.length) : amK (some q) (some t) (some r) = (none, 3) := by
  unfold amK; dsimp only; rw [if_neg (fun e => e hl), if_pos h]
theorem am_5 {q t : Ar} (r : Ar) (hl : q.1.length = 1) (h : ¬ 1 < t.1.length) (hp : plE t (q.2.length : Int) ≠ 0) : amK (some q) (some t) (some r) = (none, plE t (q.2.length : Int)) := by
  unfold amK; dsimp only; rw [if_neg (fun e => e hl), if_neg h, if_pos hp]
theorem am_6 {q t r : Ar} (hl : q.1.length = 1) (h : ¬ 1 < t.1.length) (hp : plE t (q.2.length : Int) = 0) (hs : r.1 ≠ [] ∧ t.1 ≠ r.1) : amK (some q) (some t) (some r) = (none, 4) := by
  unfold amK; dsimp only; rw [if_neg (fun e => e hl), if_neg h, if_neg (fun e => e hp), if_pos hs]
theorem am_7 {q t r : Ar} (hl : q.1.length = 1) (h : ¬ 1 < t.1.length) (hp : plE t (q.2.length : Int) = 0) (hs : ¬ (r.1 ≠ [] ∧ t.1 ≠ r.1)) : amK (some q) (some t) (some r) = (some (q.1, amS q.2 (natL t.2) (wsL r t.2.length)), 0) := by
  unfold amK; dsimp only; rw [if_neg (fun e => e hl), if_neg h, if_neg (fun e => e hp), if_neg hs]
theorem am_step (es : List Int) {L : List Nat} {ws : List Int} (h : L.length = ws.length) {k : Nat} (hk : k < L.length) : amS es (L.take (k + 1)) (ws.take (k + 1)) = (amS es (L.take k) (ws.take k)).set (L.getD k 0) (ws.getD k 0) := by
  have hk2 : k < ws.length := by omega
  rw [List.take_succ_eq_append_getElem hk, List.take_succ_eq_append_getElem hk2, am_snoc es (by rw [List.length_take, List.length_take]; omega)]
  simp [List.getD_eq_getElem?_getD, List.getElem?_eq_getElem hk, List.getElem?_eq_getElem hk2]
theorem ws_len {r : Ar} {n : Nat} (h : r.1 ≠ [] → r.2.length = n) : (wsL r n).length = n := by
  unfold wsL
  split
  · simp
  · rename_i h1; exact h h1
theorem ws_one {r : Ar} {n k : Nat} (h : r.1 = []) (hk : k < n) : (wsL r n).getD k 0 = r.2.getD 0 0 := by
  unfold wsL
  rw [if_pos h]
  simp [List.getD_eq_getElem?_getD, List.getElem?_replicate, hk]
theorem ws_all {r : Ar} {n : Nat} (h : r.1 ≠ []) : wsL r n = r.2 := if_neg h
/-- Behind the region that makes the box: the elements, the call's own. -/
def ACut (a : Option Addr) (n c : Nat) (es : List ByteArray) (wz : World) (p : Value) (wx : World) : Prop :=
  ∃ g ea ec, p = .pointer (some ⟨g, 0, none⟩) ∧ Bx wx g a n c ea es.length ec ∧ wz.heap.size ≤ g ∧ Fr wx wz.heap.size 9 ea es.length ec (valsS es) ∧ Below wz.heap.size wz wx
theorem ACut.new {es : List ByteArray} {wz wb : World} {a ea : Option Addr} {n c m ec : Nat} (hb : Below wz.heap.size wz wb) (hF : Fr wb wz.heap.size 9 ea m ec (valsS es)) (hm : m = es.length) : ACut a n c es wz (.pointer (some ⟨wb.heap.size, 0, none⟩)) (wb.alloc (.cells #[.slice a n c, .slice ea m ec] 25)) := by
  subst hm
  have h1 : Below wb.heap.size wb (wb.alloc (.cells #[.slice a n c, .slice ea es.length ec] 25)) := (Below.refl _ _).alloc (Nat.le_refl _) _
  exact ⟨_, ea, ec, rfl, Bx.new _ _ _ _ _ _ _, hb.size, hF.below h1, hb.alloc hb.size _⟩
theorem ACut.set {es : List ByteArray} {wz wb : World} {a ea : Option Addr} {n c m g ec : Nat} (hb : Below wz.heap.size wz wb) (hF : Fr wb wz.heap.size 9 ea m ec (valsS es)) (hm : m = es.length) (hZ : Bx wb g none 0 0 none 0 0) (hg : wz.heap.size ≤ g) : ACut a n c es wz (.pointer (some ⟨g, 0, none⟩)) ((wb.setCell ⟨g, 0, none⟩ (.slice a n c)).setCell ⟨g, 1, none⟩ (.slice ea m ec)) := by
  subst hm
  have hZ1 := hZ.set0 a n c
  refine ⟨_, ea, ec, rfl, hZ.set _ _ _ _ _ _, hg, ⟨?_, fun h0 => own_set_bx (own_set_bx (hF.2.1 h0) (by decide) hZ 0 _) (by decide) hZ1 1 _, hF.2.2⟩, (hb.setCell hg _).setCell hg _⟩
  exact (hZ1.st1 (hZ.st1 hF.1.st (.inl rfl) _) (.inr rfl) _).rd
end Go.Proofs.YtpledghphljfkaaDoor

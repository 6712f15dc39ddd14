import Derived.Test.YtomkjmhebnecbaaGreatDoorMar
import Derived.Maps.AppendAt
/-
  text.numbers: the numbers in a row that a text tells, so many at most.
-/
namespace Go.Proofs.YtomkjmhebnecbaaGreatDoor
set_option linter.unusedVariables false
set_option linter.unusedSimpArgs false
open Go.RowKit Go.Shelf

attribute [local go_sem] Oper.semAt_some
theorem info_str : (Tryz.prog.info? 9).map (fun i => (i.zero, i.size, i.bytes)) = some (some (.string ⟨#[]⟩), 1, 16) := by kernel_rfl
def valsT (es : List (List UInt8)) : List Value := es.map fun l => .string (tx l)
def nbT (ps : List (List UInt8)) (k : Nat) : List Value := valsT ((ps.take k).map numT)
theorem nbT_succ {ps : List (List UInt8)} {k : Nat} (h : k < ps.length) : nbT ps (k + 1) = nbT ps k ++ [.string (tx (numT (ps.getD k [])))] := by
  unfold nbT valsT
  rw [List.take_succ_eq_append_getElem h, List.map_append, List.map_append, List.getD_eq_getElem?_getD, List.getElem?_eq_getElem h]
  rfl
def goodT (ps : List (List UInt8)) (k : Nat) : Prop := ∀ x ∈ ps.take k, numB x = true
theorem goodT_succ {ps : List (List UInt8)} {k : Nat} (h : k < ps.length) (g : goodT ps k) (hb : numB (ps.getD k []) = true) : goodT ps (k + 1) := by
  intro x hx
  rw [List.take_succ_eq_append_getElem h] at hx
  rcases List.mem_append.1 hx with hx | hx
  · exact g x hx
  · rw [List.mem_singleton.1 hx]
    rw [List.getD_eq_getElem?_getD, List.getElem?_eq_getElem h] at hb
    exact hb
/-- What numbers has in memory between two rounds. -/
structure NbI (ps : List (List UInt8)) (m : Nat) (w : World) (k : Nat) (W : World) : Prop where
  row : ∃ v, Boxed W (w.heap.size + 3) 23 v ∧ W.ownsRow (w.heap.size + 7) 9 1 v k (nbT ps k)
  most : Boxed W w.heap.size 3 (.int .i64 m)
  r0 : Boxed W (w.heap.size + 1) 23 (.slice none 0 0)
  r1 : Boxed W (w.heap.size + 2) 4 (.bool false)
  good : goodT ps k
  le : k ≤ m
  bel : Below w.heap.size w W
  sz : w.heap.size + 7 ≤ W.heap.size
/-- What it has when it has left. -/
structure NbX (ps : List (List UInt8)) (m : Nat) (w : World) (W : World) : Prop where
  r0 : Boxed W (w.heap.size + 1) 23 (.slice none 0 0)
  r1 : Boxed W (w.heap.size + 2) 4 (.bool false)
  why : (∃ x ∈ ps, numB x = false) ∨ m < ps.length
  bel : Below w.heap.size w W
section
variable {ps : List (List UInt8)} {m k : Nat} {w W : World}
theorem boxed_put {B : Nat} {t : TypeId} {v : Value} (h : Boxed W B t v) {l : Nat} (o' : Obj) (hne : B ≠ l) : Boxed (W.putObj l o') B t v := (World.putObj_heap_other hne).trans h
theorem below_put {A : Nat} (h : Below A w W) {l : Nat} (o' : Obj) (hl : A ≤ l) : Below A w (W.putObj l o') :=
  h.trans ⟨rfl, rfl, rfl, by simp, fun k hk => World.putObj_heap_other (by omega)⟩
theorem row_not {B base : Nat} {v : Value} {xs : List Value} {n : Nat} {e : TypeId} (h : W.ownsRow base e 1 v n xs) (hB : B < base) : v.ownBlock = none ∨ v.ownBlock ≠ some B := by
  rcases h.2 with ⟨rfl, _⟩ | ⟨g, cap, cur, rfl, hb, _⟩
  · exact .inl rfl
  · refine .inr fun e => ?_
    injection e with e
    have : g = B := e
    omega
theorem NbI.abs : Abs (w.heap.size + 7) (w.heap.size + 4) (NbI ps m w k) where
  own := fun A A' h hg => by
    obtain ⟨v, h1, h2⟩ := h.row
    exact ⟨⟨v, h1.kept hg (by simp), h2.kept hg (row_not h2 (by omega))⟩, h.most.kept hg (by simp), h.r0.kept hg (by simp), h.r1.kept hg (by simp), h.good, h.le, h.bel.grown hg h.bel.size (fun k e => by cases e; omega), Nat.le_trans h.sz hg.size⟩
  put := fun A l o o' h hl ho hc => by
    obtain ⟨v, h1, h2⟩ := h.row
    exact ⟨⟨v, boxed_put h1 _ (by omega), ownsRow_putObj h2 _ ho hc⟩, boxed_put h.most _ (by omega), boxed_put h.r0 _ (by omega), boxed_put h.r1 _ (by omega), h.good, h.le, below_put h.bel _ (by omega), by rw [World.putObj_size]; exact h.sz⟩
theorem NbX.abs : Abs (w.heap.size + 7) (w.heap.size + 4) (NbX ps m w) where
  own := fun A A' h hg => ⟨h.r0.kept hg (by simp), h.r1.kept hg (by simp), h.why, h.bel.grown hg h.bel.size (fun k e => by cases e; omega)⟩
  put := fun A l o o' h hl ho hc => ⟨boxed_put h.r0 _ (by omega), boxed_put h.r1 _ (by omega), h.why, below_put h.bel _ (by omega)⟩
end
def NumIs : Prop := ∀ (l : List UInt8) (_ : l.length ≤ 140737488355327) (w : World), Calls Tryz.prog 34 #[.string (tx l)] w fun e w' => e = .returned (.tuple #[.string (tx (numT l)), .bool (numB l)]) ∧ w = w'
def NbEnd (s : List UInt8) (m : Nat) (W : World) (e : Ending) (W' : World) : Prop :=
  ∃ v es b, e = .returned (.tuple #[v, .bool b]) ∧ W'.ownsRow W.heap.size 9 1 v es.length (valsT es) ∧ NbS s m es b ∧ Below W.heap.size W W'
/-- The function's own boxes. -/
def nbW (w : World) (m : Nat) : World := (((w.alloc (.cells #[.int .i64 m] 3)).alloc (.cells #[.slice none 0 0] 23)).alloc (.cells #[.bool false] 4)).alloc (.cells #[.slice none 0 0] 23)
theorem nbW_size (w : World) (m : Nat) : (nbW w m).heap.size = w.heap.size + 4 := by unfold nbW; simp
theorem nbW_below (w : World) (m : Nat) : Below w.heap.size w (nbW w m) := ((((Below.refl _ w).alloc (Nat.le_refl _) _).alloc (by simp) _).alloc (by simp; omega) _).alloc (by simp; omega) _
theorem boxed_below {X Y : World} {B S : Nat} {t : TypeId} {v : Value} (h : Boxed X B t v) (hb : Below S X Y) (hS : B < S) : Boxed Y B t v := (hb.block B hS).trans h
theorem nbW_is (w : World) (m : Nat) : Boxed (nbW w m) w.heap.size 3 (.int .i64 m) ∧ Boxed (nbW w m) (w.heap.size + 1) 23 (.slice none 0 0) ∧ Boxed (nbW w m) (w.heap.size + 2) 4 (.bool false) ∧ Boxed (nbW w m) (w.heap.size + 3) 23 (.slice none 0 0) := by
  unfold nbW
  refine ⟨(((Boxed.new w _ _).alloc _).alloc _).alloc _, ?_, ?_, ?_⟩
  · have := Boxed.new (w.alloc (.cells #[.int .i64 m] 3)) 23 (.slice none 0 0)
    rw [World.size_alloc] at this
    exact (this.alloc _).alloc _
  · have := Boxed.new ((w.alloc (.cells #[.int .i64 m] 3)).alloc (.cells #[.slice none 0 0] 23)) 4 (.bool false)
    rw [World.size_alloc, World.size_alloc] at this
    exact this.alloc _
  · have := Boxed.new (((w.alloc (.cells #[.int .i64 m] 3)).alloc (.cells #[.slice none 0 0] 23)).alloc (.cells #[.bool false] 4)) 23 (.slice none 0 0)
    rw [World.size_alloc, World.size_alloc, World.size_alloc] at this
    exact this
theorem row_form {W : World} {base k : Nat} {e : TypeId} {v : Value} {xs : List Value} (h : W.ownsRow base e 1 v k xs) : ∃ a c, v = .slice a k c := by
  rcases h.2 with ⟨rfl, rfl⟩ | ⟨g, cap, cur, rfl, _⟩
  · exact ⟨_, _, rfl⟩
  · exact ⟨_, _, rfl⟩
theorem boxed_set {W : World} {B C : Nat} {t : TypeId} {v : Value} (h : Boxed W B t v) (u : Value) (hne : B ≠ C) : Boxed (W.setCell ⟨C, 0, none⟩ u) B t v := boxed_far h hne u
/-- Behind the stores of a round that leaves. -/
theorem NbI.left {ps : List (List UInt8)} {m k : Nat} {w W : World} (h : NbI ps m w k W) (hw : (∃ x ∈ ps, numB x = false) ∨ m < ps.length) :
    KeepsOthers W ((W.setCell ⟨w.heap.size + 1, 0, none⟩ (.slice none 0 0)).setCell ⟨w.heap.size + 1 + 1, 0, none⟩ (.bool false)) ∧ NbX ps m w ((W.setCell ⟨w.heap.size + 1, 0, none⟩ (.slice none 0 0)).setCell ⟨w.heap.size + 1 + 1, 0, none⟩ (.bool false)) :=
  ⟨(KeepsOthers.setCell _ _ _).trans (KeepsOthers.setCell _ _ _), boxed_set (h.r0.set _) _ (by omega), (boxed_set h.r1 _ (by omega)).set _, hw, (h.bel.setCell (p := ⟨w.heap.size + 1, 0, none⟩) (by simp) _).setCell (p := ⟨w.heap.size + 1 + 1, 0, none⟩) (by simp; omega) _⟩
theorem row_weak {W : World} {base base' k : Nat} {e : TypeId} {v : Value} {xs : List Value} (h : W.ownsRow base e 1 v k xs) (hb : base' ≤ base) : W.ownsRow base' e 1 v k xs := by
  refine ⟨h.1, ?_⟩
  rcases h.2 with h | ⟨g, cap, cur, e1, h1, h2⟩
  · exact .inl h
  · exact .inr ⟨g, cap, cur, e1, by omega, h2⟩
/-- Behind an append and the store. -/
theorem NbI.next {ps : List (List UInt8)} {m k : Nat} {w W w1 : World} {v v' : Value} {tmp : Obj} (h : NbI ps m w k W) (hv : Boxed W (w.heap.size + 3) 23 v) (hr : W.ownsRow (w.heap.size + 7) 9 1 v k (nbT ps k)) (hs : w.heap.size + 7 ≤ W.heap.size)
    (hg : goodT ps (k + 1)) (hk : k + 1 ≤ m) (ho : w1.ownsRow (w.heap.size + 7) 9 1 v' (k + 1) (nbT ps (k + 1))) (hgr : (W.alloc tmp).grownBy w1 v.ownBlock) :
    Boxed w1 (w.heap.size + 3) 23 v ∧ KeepsOthers W (w1.setCell ⟨w.heap.size + 1 + 1 + 1, 0, none⟩ v') ∧ SpK (w.heap.size + 4) W (w1.setCell ⟨w.heap.size + 1 + 1 + 1, 0, none⟩ v') ∧ NbI ps m w (k + 1) (w1.setCell ⟨w.heap.size + 1 + 1 + 1, 0, none⟩ v') := by
  have hfar : ∀ b, b < w.heap.size + 7 → w1.heap[b]? = W.heap[b]? := fun b hb => by
    rw [hgr.block b (by simp; omega) ?_, Below.heap_alloc _ _ _ (by omega)]
    rcases hr.2 with ⟨rfl, _⟩ | ⟨g, cap, cur, rfl, hg1, _⟩
    · simp [Value.ownBlock]
    · intro e
      injection e with e
      have : b = g := e
      omega
  have h3 : ∀ b, b < w.heap.size + 7 → b ≠ w.heap.size + 3 → (w1.setCell ⟨w.heap.size + 1 + 1 + 1, 0, none⟩ v').heap[b]? = W.heap[b]? := fun b hb hne => (Below.heap_setCell w1 ⟨w.heap.size + 1 + 1 + 1, 0, none⟩ v' b (by simpa using hne)).trans (hfar b hb)
  obtain ⟨a1, a2, a3, a4, a5⟩ := Boxed.appended (n₀ := w.heap.size) hv (by decide) (row_weak hr (by omega)) (by omega) (by omega) (row_weak ho (by omega)) hgr
  refine ⟨a1, a4, fun b h1 h2 => h3 b (by omega) (by omega), ⟨v', a2, ?_⟩, (h3 _ (by omega) (by omega)).trans h.most, (h3 _ (by omega) (by omega)).trans h.r0, (h3 _ (by omega) (by omega)).trans h.r1, hg, hk, h.bel.trans a5, Nat.le_trans hs a4.size⟩
  exact ho.kept (grownBy_setCell' w1 (w.heap.size + 3) v') (row_not ho (by omega))
set_option maxRecDepth 100000 in
set_option maxHeartbeats 3200000 in
theorem numbers_is (KI : IdxIs) (KN : NumIs) (s : List UInt8) (hz : s.length ≤ 1000000000) (m : Nat) (hm : m ≤ 1000000) (w : World) : Calls Tryz.prog 51 #[.string (tx s), .int .i64 m] w (NbEnd s m w) := by
  obtain ⟨ps, hc⟩ := Cu.any s
  have hlen := hc.len
  obtain ⟨i0, hi, hz0, hz1, hz2⟩ := info_parts info_str
  refine (callsIn_wide (n := 9)).1 ?_
  refine callsIn_of_wp_marks Tryz.func51 rfl trivial ?_ rfl
  simp only [Tryz.ntmps51, List.size_toArray, List.length_cons, List.length_nil, Nat.reduceAdd, Nat.reduceSub, Array.replicate_succ, Array.replicate_zero, List.push_toArray, List.append_toArray, List.nil_append, List.cons_append]
  gi_wp2
  refine ⟨trivial, (callsIn_wide.2 (SplitSeq_is s (nbW w m))).mono ?_⟩
  rintro e w' ⟨rfl, rfl⟩
  have hS : (spW3 (nbW w m) s).heap.size = w.heap.size + 7 := by rw [spW3_size, nbW_size]
  have hF : spF (nbW w m) = .func (.func 95) #[] #[.pointer (some ⟨w.heap.size + 5, 0, none⟩), .pointer (some ⟨w.heap.size + 4, 0, none⟩), .pointer (some ⟨w.heap.size + 6, 0, none⟩)] := by unfold spF; rw [nbW_size]
  have hSp : SpB (spW3 (nbW w m) s) (w.heap.size + 4) s := by
    have := spW3_is (nbW w m) s
    rw [nbW_size] at this
    exact this
  obtain ⟨q0, q1, q2, q3⟩ := nbW_is w m
  have hb3 := spW3_below (nbW w m) s
  rw [nbW_size] at hb3
  have hI0 : NbI ps m w 0 (spW3 (nbW w m) s) := ⟨⟨_, boxed_below q3 hb3 (by omega), World.ownsRow_nil _ _ _ _⟩, boxed_below q0 hb3 (by omega), boxed_below q1 hb3 (by omega), boxed_below q2 hb3 (by omega), fun x hx => (by simp at hx), Nat.zero_le _, (nbW_below w m).trans (hb3.mono (by omega)), by rw [hS]; exact Nat.le_refl _⟩
  rw [hF]
  generalize spW3 (nbW w m) s = V at *
  clear q0 q1 q2 q3 hb3 hF
  gi_wp2
  refine range_gives (N := ps.length) (B := w.heap.size + 4) (Kp := SpK (w.heap.size + 4)) rfl (by decide) rfl trivial (enters_of Tryz.func95 (by kernel_rfl) rfl)
    (split_gives KI 8 s ps hc (by omega) (w.heap.size + 4) V hSp (by omega)) (by omega)
    (fun X Y Z h g b h1 h2 => (g b h1 h2).trans (h b h1 h2)) (fun X l o hl b h1 h2 => World.putObj_heap_other (by omega)) (fun _ => rfl)
    (NbI ps m w) (NbX ps m w) (fun k => by rw [hS]; exact NbI.abs) (by rw [hS]; exact NbX.abs) hI0
    (fun k => { tmps := #[.string (tx s), .int .i64 m, undef, .pointer (some ⟨w.heap.size, 0, none⟩), .pointer (some ⟨w.heap.size + 1, 0, none⟩), .pointer (some ⟨w.heap.size + 1 + 1, 0, none⟩), .pointer (some ⟨w.heap.size + 1 + 1 + 1, 0, none⟩), .string (tx (ps.getD k [])), undef, undef, .string (tx s), .func (.func 95) #[] #[.pointer (some ⟨w.heap.size + 5, 0, none⟩), .pointer (some ⟨w.heap.size + 4, 0, none⟩), .pointer (some ⟨w.heap.size + 6, 0, none⟩)], .string (tx (ps.getD k [])), undef, undef, undef, undef, undef, undef, undef, undef, undef, undef, undef, undef, undef, undef, undef, undef, undef, undef], defers := [] }) ?assign ?body ?done ?stop
  case assign =>
    intro l k W K hK
    unfold encP
    gi_wp2
    exact hK
  case body =>
    intro l k W hk hI
    obtain ⟨v, hv, hr⟩ := hI.row
    obtain ⟨a, c, rfl⟩ := row_form hr
    have hxm : ps.getD k [] ∈ ps := by rw [List.getD_eq_getElem?_getD, List.getElem?_eq_getElem hk]; exact List.getElem_mem hk
    have hxl := hlen.2 _ hxm
    have hn1 := nbT_succ hk
    have hg1 := fun h => goodT_succ hk hI.good h
    generalize hx : ps.getD k [] = x at *
    have KNx := KN x (by omega) W
    have q0 := hI.most.cell
    have q3 := hv.cell
    have c1 := hI.r0.cell
    have c2 := hI.r1.cell
    have f1 := hI.r0.frozen
    have f2 := hI.r1.frozen
    have f3 := hv.frozen
    have HI := Lib.hid hI
    have HR := Lib.hid hr
    have HV := Lib.hid hv
    have HL := Lib.hid (And.intro hlen (And.intro hc hx))
    clear hI hr hv hlen hc hxl hI0 hSp hx
    cases hb : numB x with
    | false =>
      rw [hb] at KNx
      have hw : (∃ x ∈ ps, numB x = false) ∨ m < ps.length := .inl ⟨x, hxm, hb⟩
      clear hb hxm
      gi_wp2
      refine ⟨trivial, (CallsIn.inRound l (callsIn_wide.2 KNx)).mono ?_⟩
      rintro e w' ⟨rfl, rfl⟩
      gi_wp2
      exact HI.out.left hw
    | true =>
      rw [hb] at KNx
      have hg2 := hg1 hb
      clear hb hg1
      by_cases hkm : k = m
      · have hw : (∃ x ∈ ps, numB x = false) ∨ m < ps.length := .inr (by omega)
        subst hkm
        gi_wp2
        refine ⟨trivial, (CallsIn.inRound l (callsIn_wide.2 KNx)).mono ?_⟩
        rintro e w' ⟨rfl, rfl⟩
        gi_wp2
        exact HI.out.left hw
      · have hkm2 : ((k : Int) == (m : Int)) = false := beq_eq_false_iff_ne.2 (by omega)
        gi_wp2
        refine ⟨trivial, (CallsIn.inRound l (callsIn_wide.2 KNx)).mono ?_⟩
        rintro e w' ⟨rfl, rfl⟩
        have hWs := HI.out.bel.size
        have hWs7 : w.heap.size + 7 ≤ W.heap.size := HI.out.sz
        have hk1 : k + 1 ≤ 1000000 := by have := HI.out.le; omega
        have hkm3 : k + 1 ≤ m := by have := HI.out.le; omega
        gi_wp2_with (gi_at_builtin; refine wpListIn_append_own _ rfl _ _ 23 rfl (w.heap.size + 7) 9 i0 (.string ⟨#[]⟩) 1 16 Tryz.underlying23 hi hz0 hz1 hz2 rfl (by decide) _ _ _ rfl (HR.out.alloc _) ⟨W.heap.size, 0, none⟩ 1 1 [.string (tx (numT x))] rfl rfl (cell_one_new _ _ _) (by simp [Value.oneCell']) (by unfold maxLen; omega) (by omega) (by simp; omega) ?_; intro v' w1 hown' hgrow _; obtain ⟨g', cap', rfl⟩ := ownsRow_succ hown'; rw [← hn1] at hown'; obtain ⟨hv1, hk2, hs2, hi2⟩ := HI.out.next HV.out HR.out hWs7 hg2 hkm3 hown' hgrow; have hc1 := hv1.cell; have hf1 := hv1.frozen)
        exact ⟨hk2, hs2, hi2⟩
  case done =>
    intro D W hD hI hd
    obtain ⟨v, hv, hr⟩ := hI.row
    obtain ⟨a, c, rfl⟩ := row_form hr
    have q3 := hv.cell
    have c1 := hI.r0.cell
    have c2 := hI.r1.cell
    have f1 := hI.r0.frozen
    have f2 := hI.r1.frozen
    have HI := Lib.hid hI
    have HR := Lib.hid hr
    have HL := Lib.hid (And.intro hlen hc)
    clear hI hr hv hlen hc hI0 hSp
    gi_wp2
    have k0 := (KeepsOthers.setCell W ⟨w.heap.size + 1, 0, none⟩ (.slice a ps.length c)).trans (KeepsOthers.setCell _ ⟨w.heap.size + 1 + 1, 0, none⟩ (.bool true))
    have hd' := k0.same D _ hd rfl
    refine ⟨by simp, .inl ⟨_, _, rfl, run_takeDeferred hd', ?_⟩⟩
    have b0 := (boxed_put (boxed_set (HI.out.r0.set (.slice a ps.length c)) (C := w.heap.size + 1 + 1) (.bool true) (by omega)) (.deferred none) (show w.heap.size + 1 ≠ D by omega)).cell
    have b1 := (boxed_put ((boxed_set HI.out.r1 (C := w.heap.size + 1) (.slice a ps.length c) (by omega)).set (.bool true)) (.deferred none) (show w.heap.size + 2 ≠ D by omega)).cell
    have hr2 := ownsRow_putObj ((HR.out.kept (grownBy_setCell' W (w.heap.size + 1) (.slice a ps.length c)) (row_not HR.out (by omega))).kept (grownBy_setCell' _ (w.heap.size + 1 + 1) (.bool true)) (row_not HR.out (by omega))) (.deferred none) hd' rfl
    have hbl := below_put ((HI.out.bel.setCell (p := ⟨w.heap.size + 1, 0, none⟩) (by simp) (.slice a ps.length c)).setCell (p := ⟨w.heap.size + 1 + 1, 0, none⟩) (by simp; omega) (.bool true)) (.deferred none) (show w.heap.size ≤ D by omega)
    have hgood : ∀ x ∈ ps, numB x = true := fun x hx => HI.out.good x (by rw [List.take_of_length_le (Nat.le_refl _)]; exact hx)
    have hns := nb_yes HL.out.2 hgood HI.out.le
    have hl : (ps.map numT).length = ps.length := List.length_map _
    have hT : nbT ps ps.length = valsT (ps.map numT) := by unfold nbT; rw [List.take_of_length_le (Nat.le_refl _)]
    refine ⟨.tuple #[.slice a ps.length c, .bool true], by simp [results, Tryz.results51, Tryz.f51, go_sem, b0, b1], ?_⟩
    exact ⟨_, ps.map numT, true, rfl, by rw [hl, ← hT]; exact row_weak hr2 (by omega), hns, hbl⟩
  case stop =>
    intro D W hD hX hd
    have c1 := hX.r0.cell
    have c2 := hX.r1.cell
    gi_wp2
    refine ⟨by simp, .inl ⟨_, _, rfl, run_takeDeferred hd, ?_⟩⟩
    have b0 := (boxed_put hX.r0 (.deferred none) (show w.heap.size + 1 ≠ D by omega)).cell
    have b1 := (boxed_put hX.r1 (.deferred none) (show w.heap.size + 2 ≠ D by omega)).cell
    have hbl := below_put hX.bel (.deferred none) (show w.heap.size ≤ D by omega)
    have hns := nb_no hc hX.why
    refine ⟨.tuple #[.slice none 0 0, .bool false], by simp [results, Tryz.results51, Tryz.f51, go_sem, b0, b1], ?_⟩
    exact ⟨_, [], false, rfl, World.ownsRow_nil _ _ _ _, hns, hbl⟩
end Go.Proofs.YtomkjmhebnecbaaGreatDoor

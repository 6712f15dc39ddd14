import Derived.Test.YtlhbejeninjmoaaGreatDoorMat
import Derived.Test.YtlhbejeninjmoaaGreatDoorMax
import Derived.Test.YtlhbejeninjmoaaGreatDoorMan
import Derived.BigQuiet
import Derived.Lib.Bytealg
/-
  What signs do with arrays tells arrays that may be; two shapes together, in both words.
-/
namespace Go.Proofs.YtlhbejeninjmoaaGreatDoor
set_option linter.unusedVariables false
set_option linter.unusedSimpArgs false
open Go.RowKit

theorem mtE_is (l k : List Int) : mtE l k = meE l k := by
  unfold mtE meE
  by_cases h : l = k
  · subst h; simp
  · have h' : (l == k) = false := beq_eq_false_iff_ne.2 h
    rw [h']
    by_cases h1 : k = [] <;> by_cases h2 : l = [] <;> simp_all
theorem mtV_is (l k : List Int) : mtV l k = meV l k := by
  unfold mtV meV
  by_cases h : l = k
  · subst h; simp
  · have h' : (l == k) = false := beq_eq_false_iff_ne.2 h
    rw [h']
    by_cases h1 : k = [] <;> by_cases h2 : l = [] <;> simp_all
theorem ais_none : AIs [] [] none := by show mayV [] [] = false; decide
theorem mayL_S {x : Int} (h : x.natAbs < lim) : mayL (S x).data.toList = true := by
  have hi : Is (S x) (some x) := ⟨rfl, h⟩
  exact hi.may
/-- Axes that may be, and as many numbers, not too large: an array that may be. -/
theorem ais_of {l xs : List Int} (h : szE l = 0) (hl : (xs.length : Int) = pr l) (hb : ∀ x ∈ xs, x.natAbs < lim) : AIs l (xs.map S) (some (l, xs)) := by
  refine ⟨rfl, rfl, ⟨h, by rw [List.length_map]; exact hl, fun j hj => ?_⟩, hb⟩
  rw [List.length_map] at hj
  rw [List.getD_eq_getElem?_getD, List.getElem?_map, List.getElem?_eq_getElem hj]
  exact mayL_S (hb _ (List.getElem_mem hj))
theorem AIs.len {l : List Int} {es : List ByteArray} {q : Ar} (h : AIs l es (some q)) : q.1 = l ∧ es.length = q.2.length ∧ szE l = 0 ∧ (q.2.length : Int) = pr l ∧ ∀ x ∈ q.2, x.natAbs < lim := by
  obtain ⟨h1, h2, h3, h4⟩ := h
  have e : es.length = q.2.length := by rw [h2, List.length_map]
  exact ⟨h1, e, h3.e, by rw [← e]; exact h3.len, h4⟩
theorem dyA_is {k : Nat} {l m : List Int} {es fs : List ByteArray} {o p : Option Ar} (h1 : AIs l es o) (h2 : AIs m fs p) : AIs (TS (dyA k o p).1).1 (TS (dyA k o p).1).2 (dyA k o p).1 := by
  rcases dyA_end k o p with ⟨_, h⟩ | ⟨h, _⟩
  · by_cases hk : k < 11
    · cases o with
      | none => cases h
      | some a =>
      cases p with
      | none => cases h
      | some b =>
      obtain ⟨a1, xs⟩ := a
      obtain ⟨b1, ys⟩ := b
      obtain ⟨g1, _, g3, g4, g5⟩ := h1.len
      obtain ⟨f1, _, f3, f4, f5⟩ := h2.len
      simp only at g1 g4 g5 f1 f4 f5
      subst g1 f1
      by_cases hm : meE a1 b1 = 0
      · rw [dyA_two hk hm] at h ⊢
        generalize hs : spL k _ = r at h ⊢
        obtain ⟨u, e⟩ := r
        cases u with
        | none => cases h
        | some zs =>
          have hz : szE (meV a1 b1) = 0 := by
            unfold meV
            split
            · exact g3
            · split
              · exact f3
              · exact (by decide : szE [] = 0)
          refine ais_of hz ?_ (spL_bd hs (prs_bd g5 f5))
          rw [spL_len hs, prs_length, prD_is, Int.toNat_of_nonneg (may_pr hz).1]
          rfl
      · rw [dyA_shape hk hm] at h; cases h
    · rw [dyA_none hk] at h; cases h
  · rw [h]; exact ais_none
theorem mnZ_bd {k : Nat} (hk : k < 3) {x : Int} (h : x.natAbs < lim) : (mnZ k x).natAbs < lim := mnI_bd (k := k) h _ (by rw [mnI_ok hk])
theorem mnA_is {k : Nat} {l : List Int} {es : List ByteArray} {o : Option Ar} (h : AIs l es o) : AIs (TS (mnA k o).1).1 (TS (mnA k o).1).2 (mnA k o).1 := by
  cases o with
  | none => exact ais_none
  | some a =>
    obtain ⟨a1, xs⟩ := a
    obtain ⟨g1, _, g3, g4, g5⟩ := h.len
    simp only at g1 g4 g5
    subst g1
    by_cases hk : k < 3
    · have e : mnA k (some (a1, xs)) = (some (a1, xs.map (mnZ k)), 0) := by simp only [mnA]; rw [if_neg (by omega)]
      rw [e]
      refine ais_of g3 (by rw [List.length_map]; exact g4) fun z hz => ?_
      obtain ⟨x, hx, rfl⟩ := List.mem_map.1 hz
      exact mnZ_bd hk (g5 x hx)
    · have e : mnA k (some (a1, xs)) = (none, 1) := by simp only [mnA]; rw [if_pos hk]
      rw [e]; exact ais_none
end Go.Proofs.YtlhbejeninjmoaaGreatDoor
/-
  What is known of a sign, whether it is whole, its unit; the signs, as texts.
-/
namespace Go.Proofs.YtlhbejeninjmoaaGreatDoor
set_option linter.unusedVariables false
set_option linter.unusedSimpArgs false
open Go.RowKit

/-- A box with a sign's row in it. -/
def Sg (W : World) (g : Nat) (a : ByteArray) (b : Bool) (c : ByteArray) : Prop := W.heap[g]? = some (.cells #[.string a, .bool b, .string c] 88 (0, 0))
section
variable {W W' : World} {g : Nat} {a c : ByteArray} {b : Bool}
theorem Sg.lt (h : Sg W g a b c) : g < W.heap.size := (Array.getElem?_eq_some_iff.1 h).1
theorem Sg.c0 (h : Sg W g a b c) : W.cell? ⟨g, 0, none⟩ = some (.string a) := by rw [cell_of_row _ _ 0 _ _ _ h]; rfl
theorem Sg.c1 (h : Sg W g a b c) : W.cell? ⟨g, 1, none⟩ = some (.bool b) := by rw [cell_of_row _ _ 1 _ _ _ h]; rfl
theorem Sg.c2 (h : Sg W g a b c) : W.cell? ⟨g, 2, none⟩ = some (.string c) := by rw [cell_of_row _ _ 2 _ _ _ h]; rfl
theorem Sg.fz (h : Sg W g a b c) (i : Nat) : W.frozen? ⟨g, i, none⟩ = false := frozen_of_row _ _ i _ _ h
theorem Sg.on (h : Sg W g a b c) {B : Nat} (hb : Below B W W') (hg : g < B) : Sg W' g a b c := (hb.block g hg).trans h
theorem Sg.alloc (h : Sg W g a b c) (o : Obj) : Sg (W.alloc o) g a b c := (Below.heap_alloc W o g h.lt).trans h
theorem Sg.new (W : World) (a : ByteArray) (b : Bool) (c : ByteArray) : Sg (W.alloc (.cells #[.string a, .bool b, .string c] 88)) W.heap.size a b c := heap_alloc_new W _
theorem Sg.set (h : Sg W g a b c) (a' : ByteArray) (b' : Bool) (c' : ByteArray) : Sg (((W.setCell ⟨g, 0, none⟩ (.string a')).setCell ⟨g, 1, none⟩ (.bool b')).setCell ⟨g, 2, none⟩ (.string c')) g a' b' c' := by
  unfold Sg at *
  simp [World.setCell, Array.getElem?_modify, h]
end
theorem dS_nil {k : Nat} (hk : ¬ k < 11) : dS k = ⟨#[]⟩ := by
  unfold dS
  rw [List.getD_eq_getElem?_getD, List.getElem?_eq_none (by simp; omega)]; rfl
theorem dix (W : World) (k : Nat) (hk : k < 11) : (Instr.index 89 (.agg drow) (.int .i64 k)).run Tryz.prog W = .ok (.agg #[.string (dS k), .bool (dW k), .string (dU k)]) W := by
  obtain rfl | rfl | rfl | rfl | rfl | rfl | rfl | rfl | rfl | rfl | rfl : k = 0 ∨ k = 1 ∨ k = 2 ∨ k = 3 ∨ k = 4 ∨ k = 5 ∨ k = 6 ∨ k = 7 ∨ k = 8 ∨ k = 9 ∨ k = 10 := by omega
  all_goals kernel_rfl
theorem dS_kd (k : Nat) (hk : k < 11) : kdL (dS k).data.toList = k := by
  obtain rfl | rfl | rfl | rfl | rfl | rfl | rfl | rfl | rfl | rfl | rfl : k = 0 ∨ k = 1 ∨ k = 2 ∨ k = 3 ∨ k = 4 ∨ k = 5 ∨ k = 6 ∨ k = 7 ∨ k = 8 ∨ k = 9 ∨ k = 10 := by omega
  all_goals decide
theorem kd_le (l : List UInt8) : kdL l ≤ 11 := by
  unfold kdL
  repeat' split
  all_goals omega
theorem dS_of {op : ByteArray} {k : Nat} (h : kdL op.data.toList = k) (hk : k < 11) : dS k = op := by
  rcases kdL_inv h with ⟨rfl, e⟩ | ⟨rfl, e⟩ | ⟨rfl, e⟩ | ⟨rfl, e⟩ | ⟨rfl, e⟩ | ⟨rfl, e⟩ | ⟨rfl, e⟩ | ⟨rfl, e⟩ | ⟨rfl, e⟩ | ⟨rfl, e⟩ | ⟨rfl, e⟩ | ⟨rfl, e, _⟩
  all_goals first | exact absurd hk (by decide) | (obtain ⟨⟨d⟩⟩ := op; have e : d = _ := e; subst e; rfl)
/-- The first k signs, in their turn. -/
def dC (k : Nat) : ByteArray := ⟨(([43, 45, 42, 37, 33, 38, 124, 60, 62, 61, 126] : List UInt8).take k).toArray⟩
theorem dC_step {k : Nat} (hk : k < 11) : dC k ++ dS k = dC (k + 1) ∧ (dC k).size = k ∧ (dS k).size = 1 := by
  obtain rfl | rfl | rfl | rfl | rfl | rfl | rfl | rfl | rfl | rfl | rfl : k = 0 ∨ k = 1 ∨ k = 2 ∨ k = 3 ∨ k = 4 ∨ k = 5 ∨ k = 6 ∨ k = 7 ∨ k = 8 ∨ k = 9 ∨ k = 10 := by omega
  all_goals exact ⟨by decide, by decide, by decide⟩
set_option maxRecDepth 10000 in
set_option maxHeartbeats 3200000 in
theorem ds_ok : DsIs := by
  intro W hw
  obtain ⟨tt, fr, hg1⟩ := hw.dy
  obtain ⟨dr, hdr⟩ : ∃ dr, drow = dr := ⟨_, rfl⟩
  have HI : Hid (∀ (W : World) (k : Nat), k < 11 → (Instr.index 89 (.agg dr) (.int .i64 k)).run Tryz.prog W = .ok (.agg #[.string (dS k), .bool (dW k), .string (dU k)]) W) := Lib.hid (by rw [← hdr]; exact dix)
  have hds : (Tryz.prog.info? 89).map (·.size) = some dr.size := by rw [← hdr]; kernel_rfl
  rw [hdr] at hg1
  have hz := Tryz.zeroValue88
  clear hw hdr
  go_enter Tryz.func38, Tryz.ntmps38
  go_wp2_with (refine wpList_load_row rfl 89 _ rfl 1 rfl tt dr fr _ hg1 Tryz.underlying89 rfl hds ?_)
  go_loopw [1, 5] (fun sv iv wr => ∃ k : Nat, iv = .int .i64 k ∧ k ≤ 11 ∧ sv = .string (dC k) ∧ Below W.heap.size W wr) (fun _ iv _ => 11 - (intOf iv).toNat)
  case atStart => exact ⟨0, rfl, by omega, rfl, Below.refl _ _⟩
  case round =>
    clear hg1
    obtain ⟨k, rfl, hk, rfl, hB⟩ := hrel
    by_cases hlt : k < 11
    · have hix := fun W => HI.out W k hlt
      have e2 : (k : Int) < 11 := by omega
      obtain ⟨hc1, hc2, hc3⟩ := dC_step hlt
      obtain ⟨vS, hvS⟩ : ∃ v, dS k = v := ⟨_, rfl⟩
      obtain ⟨vW, hvW⟩ : ∃ v, dW k = v := ⟨_, rfl⟩
      obtain ⟨vU, hvU⟩ : ∃ v, dU k = v := ⟨_, rfl⟩
      obtain ⟨vC, hvC⟩ : ∃ v, dC k = v := ⟨_, rfl⟩
      rw [hvS, hvW, hvU] at hix
      rw [hvS, hvC] at hc1
      rw [hvC] at hc2
      rw [hvS] at hc3
      rw [hvC]
      have hs : vC.size + vS.size ≤ 12 := by omega
      have hs1 : vC.size ≤ 12 := by omega
      have hs2 : vS.size ≤ 12 := by omega
      have HC := Lib.hid hc1
      clear hvS hvW hvU hvC hc1 hc2 hc3
      have hX := Sg.new wr vS vW vU
      have hBX := hB.alloc hB.size (.cells #[.string vS, .bool vW, .string vU] 88)
      have x0 := hX.c0
      have x1 := hX.c1
      have x2 := hX.c2
      have HBX := Lib.hid hBX
      clear hX hBX hB
      go_wp2_with fail
      go_roundw
      case rel => exact ⟨k + 1, by go_num, by omega, by rw [HC.out], HBX.out⟩
      case measure => simp [intOf]; omega
    · obtain rfl : k = 11 := by omega
      go_wp2_with fail
      go_ret
      exact ⟨rfl, hB⟩
def mS (k : Nat) : ByteArray := [(⟨#[45]⟩ : ByteArray), ⟨#[126]⟩, ⟨#[42]⟩].getD k ⟨#[]⟩
def mC (k : Nat) : ByteArray := ⟨(([45, 126, 42] : List UInt8).take k).toArray⟩
theorem mC_step {k : Nat} (hk : k < 3) : mC k ++ mS k = mC (k + 1) ∧ (mC k).size = k ∧ (mS k).size = 1 := by
  obtain rfl | rfl | rfl : k = 0 ∨ k = 1 ∨ k = 2 := by omega
  all_goals exact ⟨by decide, by decide, by decide⟩
theorem mix (W : World) (k : Nat) (hk : k < 3) : (Instr.index 80 (.agg mrow) (.int .i64 k)).run Tryz.prog W = .ok (.string (mS k)) W := by
  obtain rfl | rfl | rfl : k = 0 ∨ k = 1 ∨ k = 2 := by omega
  all_goals kernel_rfl
set_option maxRecDepth 10000 in
set_option maxHeartbeats 3200000 in
theorem ms_ok : MsIs := by
  intro W hw
  obtain ⟨tt, fr, hg1⟩ := hw.mo
  obtain ⟨dr, hdr⟩ : ∃ dr, mrow = dr := ⟨_, rfl⟩
  have HI : Hid (∀ (W : World) (k : Nat), k < 3 → (Instr.index 80 (.agg dr) (.int .i64 k)).run Tryz.prog W = .ok (.string (mS k)) W) := Lib.hid (by rw [← hdr]; exact mix)
  have hds : (Tryz.prog.info? 80).map (·.size) = some dr.size := by rw [← hdr]; kernel_rfl
  rw [hdr] at hg1
  clear hw hdr
  go_enter Tryz.func33, Tryz.ntmps33
  go_wp2_with (refine wpList_load_row rfl 80 _ rfl 0 rfl tt dr fr _ hg1 Tryz.underlying80 rfl hds ?_)
  go_loopw [1, 5] (fun sv iv wr => ∃ k : Nat, iv = .int .i64 k ∧ k ≤ 3 ∧ sv = .string (mC k) ∧ wr = W) (fun _ iv _ => 3 - (intOf iv).toNat)
  case atStart => exact ⟨0, rfl, by omega, rfl, rfl⟩
  case round =>
    obtain ⟨k, rfl, hk, rfl, rfl⟩ := hrel
    by_cases hlt : k < 3
    · have hix := fun W => HI.out W k hlt
      have e2 : (k : Int) < 3 := by omega
      obtain ⟨hc1, hc2, hc3⟩ := mC_step hlt
      obtain ⟨vS, hvS⟩ : ∃ v, mS k = v := ⟨_, rfl⟩
      obtain ⟨vC, hvC⟩ : ∃ v, mC k = v := ⟨_, rfl⟩
      rw [hvS] at hix
      rw [hvS, hvC] at hc1
      rw [hvC] at hc2
      rw [hvS] at hc3
      rw [hvC]
      have hs : vC.size + vS.size ≤ 12 := by omega
      have hs1 : vC.size ≤ 12 := by omega
      have hs2 : vS.size ≤ 12 := by omega
      have HC := Lib.hid hc1
      clear hvS hvC hc1 hc2 hc3
      go_wp2_with fail
      go_roundw
      case rel => exact ⟨k + 1, by go_num, by omega, by rw [HC.out], by first | rfl | trivial⟩
      case measure => simp [intOf]; omega
    · obtain rfl : k = 3 := by omega
      go_wp2_with fail
      go_ret
      exact ⟨rfl, Below.refl _ _⟩
end Go.Proofs.YtlhbejeninjmoaaGreatDoor
/-
  Signs done pair by pair, one pair more; an array's element at a place; which texts are signs: spread's small functions, and the reference's.
-/
namespace Go.Proofs.YtlhbejeninjmoaaGreatDoor
set_option linter.unusedVariables false
set_option linter.unusedSimpArgs false
open Go.RowKit

theorem spL_snoc {k : Nat} {ps : List (Int × Int)} {q : Int × Int} {l : List Int} {z : Int} (h : spL k ps = (some l, 0)) (hq : dyI k q.1 q.2 = (some z, 0)) : spL k (ps ++ [q]) = (some (l ++ [z]), 0) := by
  induction ps generalizing l with
  | nil =>
    cases h
    show spL k [q] = _
    unfold spL
    rw [hq]; rfl
  | cons p r ih =>
    obtain ⟨o, c, hd⟩ : ∃ o c, dyI k p.1 p.2 = (o, c) := ⟨_, _, rfl⟩
    obtain ⟨o', c', hs⟩ : ∃ o c, spL k r = (o, c) := ⟨_, _, rfl⟩
    unfold spL at h
    rw [hd] at h
    cases o with
    | none => simp at h
    | some x =>
      simp only [hs] at h
      cases o' with
      | none => simp at h
      | some l' =>
        simp only [Prod.mk.injEq, Option.some.injEq, and_true] at h
        subst h
        have hc := (spL_ok hs).1
        subst hc
        rw [List.cons_append]
        unfold spL
        rw [hd, ih hs]; rfl
theorem spL_stop {k : Nat} {ps r : List (Int × Int)} {q : Int × Int} {l : List Int} {e : Int} (h : spL k ps = (some l, 0)) (hq : dyI k q.1 q.2 = (none, e)) : spL k (ps ++ q :: r) = (none, e) := by
  induction ps generalizing l with
  | nil =>
    show spL k (q :: r) = _
    unfold spL
    rw [hq]
  | cons p t ih =>
    obtain ⟨o, c, hd⟩ : ∃ o c, dyI k p.1 p.2 = (o, c) := ⟨_, _, rfl⟩
    obtain ⟨o', c', hs⟩ : ∃ o c, spL k t = (o, c) := ⟨_, _, rfl⟩
    unfold spL at h
    rw [hd] at h
    cases o with
    | none => simp at h
    | some x =>
      simp only [hs] at h
      cases o' with
      | none => simp at h
      | some l' =>
        have hc := (spL_ok hs).1
        subst hc
        rw [List.cons_append]
        unfold spL
        rw [hd, ih hs]
/-- What the first i pairs made. -/
def SpI (k : Nat) (ps : List (Int × Int)) (i : Nat) (zs : List Int) : Prop := spL k (ps.take i) = (some zs, 0)
theorem SpI.start (k : Nat) (ps : List (Int × Int)) : SpI k ps 0 [] := rfl
theorem SpI.len {k i : Nat} {ps : List (Int × Int)} {zs : List Int} (h : SpI k ps i zs) (hi : i ≤ ps.length) : zs.length = i := by
  rw [spL_len h, List.length_take]; omega
theorem SpI.step {k i : Nat} {ps : List (Int × Int)} {zs : List Int} {z : Int} (h : SpI k ps i zs) (hi : i < ps.length) (hz : dyI k (ps.getD i (0, 0)).1 (ps.getD i (0, 0)).2 = (some z, 0)) : SpI k ps (i + 1) (zs ++ [z]) := by
  unfold SpI
  rw [List.take_succ_eq_append_getElem hi]
  rw [List.getD_eq_getElem?_getD, List.getElem?_eq_getElem hi] at hz
  exact spL_snoc h hz
theorem SpI.stop {k i : Nat} {ps : List (Int × Int)} {zs : List Int} {e : Int} (h : SpI k ps i zs) (hi : i < ps.length) (hz : dyI k (ps.getD i (0, 0)).1 (ps.getD i (0, 0)).2 = (none, e)) : spL k ps = (none, e) := by
  have e1 : ps = ps.take i ++ ps[i] :: ps.drop (i + 1) := by
    rw [← List.drop_eq_getElem_cons hi, List.take_append_drop]
  rw [List.getD_eq_getElem?_getD, List.getElem?_eq_getElem hi] at hz
  rw [e1]
  exact spL_stop h hz
theorem SpI.ends {k : Nat} {ps : List (Int × Int)} {zs : List Int} (h : SpI k ps ps.length zs) : spL k ps = (some zs, 0) := by
  unfold SpI at h
  rwa [List.take_of_length_le (Nat.le_refl _)] at h
theorem prs_getD {u v : Bool} {xs ys : List Int} {n i : Nat} (h : i < n) : (prs u v xs ys n).getD i (0, 0) = (xs.getD (if u then 0 else i) 0, ys.getD (if v then 0 else i) 0) := by
  have hl : i < (prs u v xs ys n).length := by rw [prs_length]; exact h
  rw [List.getD_eq_getElem?_getD, List.getElem?_eq_getElem hl]
  exact prs_get hl
theorem getD_S {xs : List Int} {j : Nat} (hj : j < xs.length) : (xs.map S).getD j ByteArray.empty = S (xs.getD j 0) := by
  simp [List.getD_eq_getElem?_getD, List.getElem?_eq_getElem hj]
theorem getD_bd {xs : List Int} (h : ∀ x ∈ xs, x.natAbs < lim) (j : Nat) : (xs.getD j 0).natAbs < lim := by
  rw [List.getD_eq_getElem?_getD]
  cases e : xs[j]? with
  | none => simp; exact lim_pos
  | some x => exact h x (List.mem_of_getElem? e)
/-! ### element, at -/
def TxOut (s : ByteArray) (W : World) (e : Ending) (W' : World) : Prop := e = .returned (.string s) ∧ Below W.heap.size W W'
set_option maxRecDepth 10000 in
set_option maxHeartbeats 1600000 in
theorem element_is {a b : Option Addr} {n c m d : Nat} {l : List Int} {es : List ByteArray} (W : World) (h : Vl W a n b m l es) (i : Nat) (hi : (if nx l then 0 else i) < m) :
    Calls Tryz.prog 46 #[.agg #[.slice a n c, .slice b m d], .int .i64 i] W (TxOut (es.getD (if nx l then 0 else i) ByteArray.empty) W) := by
  have hx := Bx.new W a n c b m d
  have hbl : Below W.heap.size W (W.alloc (.cells #[.slice a n c, .slice b m d] 25)) := (Below.refl _ _).alloc (Nat.le_refl _) _
  have hv := h.below hbl
  have hmm := h.mm
  obtain ⟨gb, off, rfl, hc⟩ := hv.t.2 (by omega)
  have hck := hc _ hi
  have hln := h.s.1
  have x0 := hx.c0
  have x1 := hx.c1
  have HB := Lib.hid hbl
  by_cases h0 : n = 0
  · subst h0
    obtain rfl := List.length_eq_zero_iff.1 hln
    have e : (if nx [] then 0 else i) = 0 := rfl
    rw [e] at hck hi ⊢
    rw [Nat.add_zero] at hck
    generalize es.getD 0 ByteArray.empty = s at hck ⊢
    clear hv h hc hln hbl hx e
    go_enter Tryz.func46, Tryz.ntmps46
    go_wp2_with fail
    go_ret
    exact ⟨rfl, HB.out⟩
  · have e : (if nx l then 0 else i) = i := by
      have : nx l = false := decide_eq_false (by rintro rfl; exact h0 hln.symm)
      rw [this]; rfl
    rw [e] at hck hi ⊢
    generalize es.getD i ByteArray.empty = s at hck ⊢
    have e1 : ¬ (n : Int) = 0 := by omega
    have e2 : (i : Int) < (m : Int) := by omega
    clear hv h hc hln hbl hx e
    go_enter Tryz.func46, Tryz.ntmps46
    go_wp2_with fail
    go_ret
    exact ⟨rfl, HB.out⟩
/-! ### which texts are signs -/
def sigL (l : List UInt8) (sg : List UInt8) : Bool := match l with
  | [c] => decide (c ∈ sg)
  | _ => false
theorem sig_kd (l : List UInt8) : sigL l [43, 45, 42, 37, 33, 38, 124, 60, 62, 61, 126] = decide (kdL l < 11) := by
  rcases kdL_inv (l := l) rfl with ⟨h, e⟩ | ⟨h, e⟩ | ⟨h, e⟩ | ⟨h, e⟩ | ⟨h, e⟩ | ⟨h, e⟩ | ⟨h, e⟩ | ⟨h, e⟩ | ⟨h, e⟩ | ⟨h, e⟩ | ⟨h, e⟩ | ⟨h, n1, n2, n3, n4, n5, n6, n7, n8, n9, n10, n11⟩
  all_goals try (subst e; decide)
  rw [h]
  unfold sigL
  split
  · simp_all
  · rfl
theorem sig_km (l : List UInt8) : sigL l [45, 126, 42] = decide (kmL l < 3) := by
  rcases kmL_inv (l := l) rfl with ⟨h, e⟩ | ⟨h, e⟩ | ⟨h, e⟩ | ⟨h, n1, n2, n3⟩
  all_goals try (subst e; decide)
  rw [h]
  unfold sigL
  split
  · simp_all
  · rfl
theorem idx_mem (l : List UInt8) (c : UInt8) : (0 ≤ Lib.indexByte l c) ↔ c ∈ l := by
  induction l with
  | nil => simp [Lib.indexByte]
  | cons x a ih =>
    unfold Lib.indexByte
    by_cases h : x = c
    · subst h; simp
    · have hx : (x == c) = false := beq_false_of_ne h
      have hc : c ≠ x := fun e => h e.symm
      simp only [hx, List.mem_cons, hc, false_or]
      rw [← ih]
      by_cases h1 : Lib.indexByte a c = -1
      · simp [h1]
      · have h2 : (Lib.indexByte a c == -1) = false := beq_false_of_ne h1
        simp only [h2]
        have := Lib.indexByte_ge a c
        simp; omega
set_option maxHeartbeats 1600000 in
theorem isSign_is (s m : ByteArray) (hz : s.size ≤ maxLen) (w : World) : Calls Tryz.prog 32 #[.string s, .string m] w (BoolEnd (sigL s.data.toList m.data.toList) w) := by
  unfold maxLen at hz
  rcases hl : s.data.toList with _ | ⟨c, _ | ⟨d, r⟩⟩
  · have hs : s.data.toList.length = s.size := by simp
    have e2 : ¬ (s.size : Int) = 1 := by rw [← hs, hl]; simp
    rw [show sigL [] m.data.toList = false from rfl]
    clear hl hs
    go_enter Tryz.func32, Tryz.ntmps32
    go_wp2_with fail
    go_ret
    exact ⟨rfl, Below.refl _ _⟩
  · obtain rfl : s = ⟨#[c]⟩ := by
      obtain ⟨⟨d⟩⟩ := s
      have hl : d = [c] := hl
      rw [hl]
    have K := Tryz.strings_Contains_one m c w
    rw [show decide (0 ≤ Lib.indexByte m.data.toList c) = sigL [c] m.data.toList from decide_eq_decide.2 (idx_mem _ _)] at K
    generalize sigL [c] m.data.toList = v at *
    replace K := Lib.hid K
    clear hl
    cases v
    all_goals
      go_enter Tryz.func32, Tryz.ntmps32
      go_wp2_with fail
      refine K.out.mono ?_
      rintro e w1 ⟨rfl, rfl⟩
      go_wp2_with fail
      go_ret
      exact ⟨rfl, Below.refl _ _⟩
  · have hs : s.data.toList.length = s.size := by simp
    have e2 : ¬ (s.size : Int) = 1 := by rw [← hs, hl]; simp; omega
    rw [show sigL (c :: d :: r) m.data.toList = false from rfl]
    clear hl hs
    go_enter Tryz.func32, Tryz.ntmps32
    go_wp2_with fail
    go_ret
    exact ⟨rfl, Below.refl _ _⟩
theorem Ops_is (op : ByteArray) (ho : op.size ≤ maxLen) (w : World) (hw : SC w) : Calls Tryz.prog 16 #[.string op] w (BoolEnd (decide (kdL op.data.toList < 11)) w) := by
  have K1 := Lib.hid (ds_ok w hw)
  have K2 := fun w' => isSign_is op ⟨#[43, 45, 42, 37, 33, 38, 124, 60, 62, 61, 126]⟩ ho w'
  rw [show (⟨#[43, 45, 42, 37, 33, 38, 124, 60, 62, 61, 126]⟩ : ByteArray).data.toList = [43, 45, 42, 37, 33, 38, 124, 60, 62, 61, 126] from rfl, sig_kd] at K2
  replace K2 := Lib.hid K2
  generalize decide (kdL op.data.toList < 11) = v at *
  clear ho
  go_enter Tryz.func16, Tryz.ntmps16
  go_wp2_with fail
  refine K1.out.mono ?_
  rintro e w1 ⟨rfl, hb⟩
  go_wp2_with fail
  refine (K2.out _).mono ?_
  rintro e w2 ⟨rfl, hq⟩
  go_wp2_with fail
  go_ret
  exact ⟨rfl, hb.trans (hq.mono hb.size)⟩
end Go.Proofs.YtlhbejeninjmoaaGreatDoor

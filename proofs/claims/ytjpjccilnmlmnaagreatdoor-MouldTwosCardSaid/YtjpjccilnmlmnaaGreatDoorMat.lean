import Derived.Test.YtjpjccilnmlmnaaGreatDoorMan
import Derived.WalkKit
import Derived.WalkSpells
import Derived.WalkLawsBesides
import Derived.Lib.Hide
import Derived.BigQuiet
import Derived.Deep.QuietTactic
import Derived.Deep.RegionWith
import Derived.Deep.OwnRows
namespace Go.Proofs.YtjpjccilnmlmnaaGreatDoor
set_option linter.unusedVariables false
set_option linter.unusedSimpArgs false
section
open Go.RowKit
theorem SDrawn.sl {w w' : World} (h : SDrawn w w') {a : Option Addr} {n : Nat} {l : List Int} (hs : Sl w a n l) : Sl w' a n l := by obtain ⟨m, rfl⟩ := h; exact hs
theorem ofB_in {l t : List Int} {k : Nat} (hk : k < l.length) (h : t.getD k 0 < 0 ∨ l.getD k 0 ≤ t.getD k 0) : ofB l t = false ∧ ofV l t = 0 := by
  have e : ofB l t = false := by unfold ofB; rw [inL_not hk h]; simp
  exact ⟨e, by unfold ofV; rw [e]; rfl⟩
theorem ofB_bad {l t : List Int} (h : szE l ≠ 0 ∨ l.length ≠ t.length) : ofB l t = false ∧ ofV l t = 0 := by
  have e : ofB l t = false := by
    unfold ofB
    rcases h with h | h
    · rw [decide_eq_false h]; rfl
    · rw [decide_eq_false h]; simp
  exact ⟨e, by unfold ofV; rw [e]; rfl⟩
def OffIs (f : Nat) (a1 a2 : Option Addr) (n c m d : Nat) (v : Int) (b : Bool) (W : World) : Prop :=
  Calls Tryz.prog f #[.slice a1 n c, .slice a2 m d] W fun x W' => x = .returned (.tuple #[.int .i64 v, .bool b]) ∧ SDrawn W W'
set_option maxRecDepth 10000 in
set_option maxHeartbeats 800000 in
theorem Offset_is (a1 a2 : Option Addr) (n c m d : Nat) (l t : List Int) (W : World) (h1 : Sl W a1 n l) (h2 : Sl W a2 m t) (hm20 : m ≤ 20) : OffIs 45 a1 a2 n c m d (ofV l t) (ofB l t) W := by
  have hmay := May_is a1 n c l W h1 _ rfl
  obtain ⟨v, hv⟩ : ∃ v, v = ofV l t := ⟨_, rfl⟩
  obtain ⟨b, hb⟩ : ∃ b, b = ofB l t := ⟨_, rfl⟩
  rw [← hv, ← hb]
  have HV := Lib.hid hv
  have HB := Lib.hid hb
  have H1 := Lib.hid h1
  have H2 := Lib.hid h2
  clear hv hb h1 h2
  unfold OffIs
  by_cases he : szE l = 0
  · rw [he] at hmay
    have HM := Lib.hid (szE_may.1 he)
    have hn3 : n ≤ 3 := by have := HM.out.len; rw [H1.out.1] at this; exact this
    have K := Lib.hid hmay
    clear hmay he
    by_cases hnm : m = n
    · subst hnm
      have hlt : l.length = t.length := by rw [H1.out.1, H2.out.1]
      have HL := Lib.hid hlt
      clear hlt
      go_enter Tryz.func45, Tryz.ntmps45
      go_wp2_with fail
      refine K.out.mono ?_
      rintro x w1 ⟨rfl, rfl⟩
      go_wp2_with fail
      go_loop [6, 21] (fun o i => ∃ (k : Nat) (z : Int), i = .int .i64 k ∧ o = .int .i64 z ∧ k ≤ m ∧ OfInv l t k z) (fun _ i => m - (intOf i).toNat)
      case atStart => exact ⟨0, 0, rfl, rfl, by omega, OfInv.start l t⟩
      case round =>
        obtain ⟨k, z, rfl, rfl, hk, hI⟩ := hrel
        have HI := Lib.hid hI
        clear hI
        by_cases hlt : k < m
        · have e2 : (k : Int) < (m : Int) := by omega
          obtain ⟨b1, o1, rfl, hc1⟩ := H1.out.2 (by omega)
          obtain ⟨b2, o2, rfl, hc2⟩ := H2.out.2 (by omega)
          have hk1 := hc1 k hlt
          have hk2 := hc2 k hlt
          clear hc1 hc2
          obtain ⟨x, hx⟩ : ∃ x, x = l.getD k 0 := ⟨_, rfl⟩
          obtain ⟨y, hy⟩ : ∃ y, y = t.getD k 0 := ⟨_, rfl⟩
          rw [← hx] at hk1
          rw [← hy] at hk2
          have HX := Lib.hid hx
          have HY := Lib.hid hy
          clear hx hy
          have hkl : k < l.length := by rw [H1.out.1]; exact hlt
          by_cases c1 : y < 0
          · obtain ⟨f1, f2⟩ := ofB_in (t := t) hkl (.inl (by rw [← HY.out]; exact c1))
            obtain rfl : b = false := HB.out.trans f1
            obtain rfl : v = 0 := HV.out.trans f2
            clear f1 f2
            go_wp2_with fail
            go_ret2
            exact ⟨rfl, SDrawn.refl _⟩
          by_cases c2 : x ≤ y
          · obtain ⟨f1, f2⟩ := ofB_in (t := t) hkl (.inr (by rw [← HY.out, ← HX.out]; exact c2))
            obtain rfl : b = false := HB.out.trans f1
            obtain rfl : v = 0 := HV.out.trans f2
            clear f1 f2
            go_wp2_with fail
            go_ret2
            exact ⟨rfl, SDrawn.refl _⟩
          · have hst := HI.out.step HM.out hkl (by rw [← HY.out]; omega) (by rw [← HY.out, ← HX.out]; omega)
            rw [← HX.out, ← HY.out] at hst
            have HT := Lib.hid hst
            clear hst
            go_wp2_with fail
            go_round
            case rel => exact ⟨k + 1, _, by go_num, rfl, by omega, HT.out⟩
            case measure => simp [intOf]; omega
        · have e2 : ¬ (k : Int) < (m : Int) := by omega
          obtain rfl : k = m := by omega
          obtain ⟨f1, f2⟩ := (show OfInv l t l.length z by rw [H1.out.1]; exact HI.out).ends HM.out HL.out
          obtain rfl : b = true := HB.out.trans f1
          obtain rfl : v = z := HV.out.trans f2
          clear f1 f2
          go_wp2_with fail
          go_ret2
          exact ⟨rfl, SDrawn.refl _⟩
    · obtain ⟨f1, f2⟩ := ofB_bad (l := l) (t := t) (.inr (by rw [H1.out.1, H2.out.1]; omega))
      obtain rfl : b = false := HB.out.trans f1
      obtain rfl : v = 0 := HV.out.trans f2
      clear f1 f2
      have e2 : (m : Int) ≠ (n : Int) := by omega
      go_enter Tryz.func45, Tryz.ntmps45
      go_wp2_with fail
      refine K.out.mono ?_
      rintro x w1 ⟨rfl, rfl⟩
      go_wp2_with fail
      go_ret2
      exact ⟨rfl, SDrawn.refl _⟩
  · obtain ⟨f1, f2⟩ := ofB_bad (l := l) (t := t) (.inl he)
    obtain rfl : b = false := HB.out.trans f1
    obtain rfl : v = 0 := HV.out.trans f2
    clear f1 f2
    rw [show (szE l == 0) = false from beq_eq_false_iff_ne.2 he] at hmay
    have K := Lib.hid hmay
    clear hmay he
    go_enter Tryz.func45, Tryz.ntmps45
    go_wp2_with fail
    refine K.out.mono ?_
    rintro x w1 ⟨rfl, rfl⟩
    go_wp2_with fail
    go_ret2
    exact ⟨rfl, SDrawn.refl _⟩
end
section
open Go.RowKit
theorem infoInt : (Tryz.prog.info? 3).map (fun i => (i.zero, i.size, i.bytes)) = some (some (.int .i64 0), 1, 8) := by kernel_rfl
theorem run_mk (n : Nat) (hn : n ≤ 20) (w : World) :
    (Instr.makeSlice 22 (.int .i64 (n : Int)) (.int .i64 (n : Int))).run Tryz.prog w = .ok (.slice (some ⟨w.heap.size, 0, none⟩) n n) (w.alloc (.cells (madeCells #[.int .i64 0] n) 3)) :=
  run_make_row' 22 3 _ 8 Tryz.underlying22 infoInt rfl _ _ n (by omega) (by omega) w
def upd (F : Nat → Int) (i : Nat) (x : Int) : Nat → Int := fun j => if j = i then x else F j
theorem SRw.frozen {w : World} {g N : Nat} {F : Nat → Int} (h : SRw w g N F) (i : Nat) : w.frozen? ⟨g, i, none⟩ = false := World.rowIs.frozen h i
theorem SRw.set {w : World} {g N : Nat} {F : Nat → Int} (h : SRw w g N F) (i : Nat) (v : Int) : SRw (w.setCell ⟨g, i, none⟩ (.int .i64 v)) g N (upd F i v) := by
  refine (World.rowIs.set h i _).congr fun j _ => ?_
  unfold upd
  split <;> rfl
theorem SRw.made (w : World) (n : Nat) : SRw (w.alloc (.cells (madeCells #[.int .i64 0] n) 3)) w.heap.size n (fun _ => 0) := World.rowIs_made w _ n _
theorem SRw.sl {w : World} {g N : Nat} {F : Nat → Int} (h : SRw w g N F) {l : List Int} (hl : l.length = N) (e : ∀ j, j < N → F j = l.getD j 0) : Sl w (some ⟨g, 0, none⟩) N l :=
  ⟨hl, fun _ => ⟨g, 0, rfl, fun j hj => by rw [Nat.zero_add, h.cell hj, e j hj]⟩⟩
def plB (l : List Int) (k : Int) : Bool := decide (szE l = 0) && (decide (0 ≤ k) && decide (k < pr l))
def plO (l : List Int) (k : Int) : List Int := if plB l k then plL l k else []
def PlPost (b : Bool) (p : List Int) (W : World) (x : Ending) (W' : World) : Prop := ∃ a' n' c', x = .returned (.tuple #[.slice a' n' c', .bool b]) ∧ Sl W' a' n' p ∧ n' ≤ 20 ∧ Below W.heap.size W W'
def PlIs (f : Nat) (a : Option Addr) (n c : Nat) (k : Int) (b : Bool) (p : List Int) (W : World) : Prop := Calls Tryz.prog f #[.slice a n c, .int .i64 k] W (PlPost b p W)
theorem plB_no {l : List Int} {k : Int} (h : szE l ≠ 0 ∨ k < 0 ∨ pr l ≤ k) : plB l k = false ∧ plO l k = [] := by
  have e : plB l k = false := by
    unfold plB
    rcases h with h | h | h
    · rw [decide_eq_false h]; rfl
    · rw [decide_eq_false (show ¬ 0 ≤ k by omega)]; simp
    · rw [decide_eq_false (show ¬ k < pr l by omega)]; simp
  exact ⟨e, by unfold plO; rw [e]; rfl⟩
theorem plB_yes {l : List Int} {k : Int} (h : szE l = 0) (h0 : 0 ≤ k) (h1 : k < pr l) : plB l k = true ∧ plO l k = plL l k := by
  have e : plB l k = true := by unfold plB; rw [decide_eq_true h, decide_eq_true h0, decide_eq_true h1]; rfl
  exact ⟨e, by unfold plO; rw [e]; rfl⟩
/-- What Place tells, of the call's own. -/
def PlOwn (b : Bool) (p : List Int) (W : World) (x : Ending) (W' : World) : Prop := ∃ a' c', x = .returned (.tuple #[.slice a' p.length c', .bool b]) ∧ W'.ownsRow W.heap.size 3 1 (.slice a' p.length c') p.length (valsI p) ∧ Below W.heap.size W W'
def PlOw (f : Nat) (a : Option Addr) (n c : Nat) (k : Int) (b : Bool) (p : List Int) (W : World) : Prop := Calls Tryz.prog f #[.slice a n c, .int .i64 k] W (PlOwn b p W)
theorem SRw.own {w : World} {B g n : Nat} {F : Nat → Int} (h : SRw w g n F) {l : List Int} (hl : l.length = n) (e : ∀ j, j < n → F j = l.getD j 0) (hg : B ≤ g) (hn : n ≤ maxLen) : w.ownsRow B 3 1 (.slice (some ⟨g, 0, none⟩) n n) n (valsI l) := by
  obtain ⟨c, hc, hs, hv⟩ := h
  refine ⟨by simp [valsI, hl], .inr ⟨g, n, c, rfl, hg, hc, Nat.le_refl _, hn, by rw [hs, Nat.mul_one], ?_⟩⟩
  apply List.ext_getElem?
  intro j
  by_cases hj : j < n
  · rw [List.getElem?_take_of_lt (by omega), Array.getElem?_toList, hv j hj]
    show some (Value.int .i64 (F j)) = _
    rw [e j hj]
    simp [valsI, List.getD_eq_getElem?_getD, List.getElem?_eq_getElem (show j < l.length by omega)]
  · rw [List.getElem?_eq_none (by rw [List.length_take]; omega), List.getElem?_eq_none (by simp [valsI]; omega)]
set_option maxRecDepth 10000 in
set_option maxHeartbeats 1600000 in
theorem Place_is (a : Option Addr) (n c : Nat) (l : List Int) (k : Int) (W : World) (h : Sl W a n l) (hk63 : k ≤ 9223372036854775807) : PlOw 44 a n c k (plB l k) (plO l k) W := by
  have hsz := Size_is a n c l W h
  unfold SizeIs at hsz
  obtain ⟨b, hb⟩ : ∃ b, b = plB l k := ⟨_, rfl⟩
  obtain ⟨p, hp⟩ : ∃ p, p = plO l k := ⟨_, rfl⟩
  rw [← hb, ← hp]
  have HB := Lib.hid hb
  have HP := Lib.hid hp
  have HS := Lib.hid h
  clear hb hp h
  unfold PlOw PlOwn
  by_cases he : szE l = 0
  · rw [szV_pr he, he] at hsz
    have HM := Lib.hid (szE_may.1 he)
    have hn3 : n ≤ 3 := by have := HM.out.len; rw [HS.out.1] at this; exact this
    obtain ⟨S, hS⟩ : ∃ S, S = pr l := ⟨_, rfl⟩
    rw [← hS] at hsz
    have K := Lib.hid hsz
    have HZ := Lib.hid hS
    clear hsz hS
    by_cases c1 : k < 0
    · obtain ⟨f1, f2⟩ := plB_no (l := l) (k := k) (.inr (.inl c1))
      obtain rfl : b = false := HB.out.trans f1
      obtain rfl : p = [] := HP.out.trans f2
      clear f1 f2 he
      go_enter Tryz.func44, Tryz.ntmps44
      go_wp2_with fail
      refine K.out.mono ?_
      rintro x w1 ⟨rfl, rfl⟩
      go_wp2_with fail
      go_ret2
      exact ⟨none, 0, rfl, World.ownsRow_nil _ _ _ _, Below.refl _ _⟩
    by_cases c2 : S ≤ k
    · obtain ⟨f1, f2⟩ := plB_no (l := l) (k := k) (.inr (.inr (by rw [← HZ.out]; exact c2)))
      obtain rfl : b = false := HB.out.trans f1
      obtain rfl : p = [] := HP.out.trans f2
      clear f1 f2 he
      go_enter Tryz.func44, Tryz.ntmps44
      go_wp2_with fail
      refine K.out.mono ?_
      rintro x w1 ⟨rfl, rfl⟩
      go_wp2_with fail
      go_ret2
      exact ⟨none, 0, rfl, World.ownsRow_nil _ _ _ _, Below.refl _ _⟩
    · have hA := HM.out.pos (by rw [← HZ.out]; omega)
      obtain ⟨f1, f2⟩ := plB_yes he (k := k) (by omega) (by rw [← HZ.out]; omega)
      obtain rfl : b = true := HB.out.trans f1
      have HP2 := Lib.hid (HP.out.trans f2)
      have HA := Lib.hid hA
      have hmk := run_mk n (by omega)
      clear f1 f2 he HP hA
      go_enter Tryz.func44, Tryz.ntmps44
      go_wp2_with fail
      refine K.out.mono ?_
      rintro x w1 ⟨rfl, rfl⟩
      go_wp2_with fail
      have hRw := SRw.made W n
      have hbel : Below W.heap.size W (W.alloc (.cells (madeCells #[.int .i64 0] n) 3)) := (Below.refl _ _).alloc (Nat.le_refl _) _
      obtain ⟨g, hg⟩ : ∃ g, g = W.heap.size := ⟨_, rfl⟩
      rw [← hg] at hRw hbel ⊢
      have HG := Lib.hid hg
      clear hg
      generalize W.alloc (.cells (madeCells #[.int .i64 0] n) 3) = w1 at hRw hbel ⊢
      have hw : wrap64 ((n : Int) - 1) = (n : Int) - 1 := w64 (by omega) (by omega)
      clear hmk
      go_loopw [1, 9] (fun o i wr => ∃ (q : Nat) (z : Int) (F : Nat → Int), i = .int .i64 ((q : Int) - 1) ∧ o = .int .i64 z ∧ q ≤ n ∧ Hid (z = quo l k q) ∧ Hid (∀ j, q ≤ j → j < n → F j = plc l k j) ∧ SRw wr g n F ∧ Below g W wr) (fun _ i _ => (intOf i + 1).toNat)
      case atStart => exact ⟨n, k, _, by simp, rfl, Nat.le_refl _, Lib.hid (by rw [← HS.out.1, quo_last]), Lib.hid (fun j h1 h2 => by omega), hRw, hbel⟩
      case round =>
        obtain ⟨q, z, F, rfl, rfl, hq, HQ, HF, hR, hbel2⟩ := hrel
        rcases q with _ | q
        · have hpl : p.length = n := by rw [HP2.out, plL_length, HS.out.1]
          have hsl : wr.ownsRow W.heap.size 3 1 (.slice (some ⟨g, 0, none⟩) p.length n) p.length (valsI p) := by
            rw [← HG.out, hpl]
            exact hR.own hpl (fun j hj => by rw [HF.out j (Nat.zero_le _) hj, HP2.out, plL_get (by rw [HS.out.1]; exact hj)]) (Nat.le_refl _) (by unfold maxLen; omega)
          have HSL := Lib.hid hsl
          have HBL : Hid (Below W.heap.size W wr) := by rw [← HG.out]; exact hbel2
          clear hpl hsl hbel2 hR hRw hbel
          go_wp2_with fail
          go_ret2
          have hpl : p.length = n := by rw [HP2.out, plL_length, HS.out.1]
          refine ⟨some ⟨g, 0, none⟩, n, ?_, HSL.out, HBL.out⟩
          rw [hpl]
          rfl
        · rw [show (((q + 1 : Nat) : Int) - 1) = (q : Int) by omega]
          obtain ⟨b, off, rfl, hc⟩ := HS.out.2 (by omega)
          have hck := (hbel2.cell (p := ⟨b, off + q, none⟩) (by rw [HG.out]; exact World.block_lt_of_cell? W _ (hc q (by omega)))).trans (hc q (by omega))
          obtain ⟨x, hx⟩ : ∃ x, x = l.getD q 0 := ⟨_, rfl⟩
          rw [← hx] at hck
          have hxp : 0 < x := by rw [hx]; exact HA.out.pos q (by rw [HS.out.1]; omega)
          have hbg : b ≠ g := by have := World.block_lt_of_cell? W _ (hc q (by omega)); intro e; rw [← HG.out, ← e] at this; exact absurd this (Nat.lt_irrefl _)
          have hcell := hR.cell (i := q) (by omega)
          have hfr := hR.frozen q
          have hck2 : ∀ u, (wr.setCell ⟨g, q, none⟩ u).cell? ⟨b, off + q, none⟩ = some (.int .i64 x) := fun u => by rw [World.cell?_setCell_other _ _ _ _ (by intro e; injection e with e; exact hbg e.symm), hck]
          have hx0 : (x == 0) = false := beq_eq_false_iff_ne.2 (by omega)
          have HX := Lib.hid hx
          clear hc hx
          have hz0 : 0 ≤ z := by rw [HQ.out]; exact quo_nonneg HA.out (by omega) _
          have hzk : z ≤ k := by rw [HQ.out]; exact quo_le HA.out (by omega) _
          have em : z % x = plc l k q := by rw [HQ.out, HX.out]; rfl
          have ed : z / x = quo l k q := by rw [HQ.out, HX.out]; exact quo_step (by rw [HS.out.1]; omega) (Int.le_of_lt (HA.out.drop _))
          have HE := Lib.hid (And.intro em ed)
          clear em ed
          go_wp2_with fail
          go_roundw
          case rel =>
            refine ⟨q, _, _, rfl, rfl, by omega, HE.out.2, Lib.hid fun j h1 h2 => ?_, hR.set q _, hbel2.setCell (by show g ≤ g; exact Nat.le_refl _) _⟩
            unfold upd
            by_cases hjq : j = q
            · rw [if_pos hjq, hjq, HE.out.1]
            · rw [if_neg hjq]; exact HF.out j (by omega) h2
          case measure => simp [intOf]
  · obtain ⟨f1, f2⟩ := plB_no (l := l) (k := k) (.inl he)
    obtain rfl : b = false := HB.out.trans f1
    obtain rfl : p = [] := HP.out.trans f2
    rw [szV_zero he] at hsz
    generalize szE l = E at hsz he
    have K := Lib.hid hsz
    clear f1 f2 hsz
    go_enter Tryz.func44, Tryz.ntmps44
    go_wp2_with fail
    refine K.out.mono ?_
    rintro x w1 ⟨rfl, rfl⟩
    go_wp2_with fail
    go_ret2
    exact ⟨none, 0, rfl, World.ownsRow_nil _ _ _ _, Below.refl _ _⟩
end
end Go.Proofs.YtjpjccilnmlmnaaGreatDoor

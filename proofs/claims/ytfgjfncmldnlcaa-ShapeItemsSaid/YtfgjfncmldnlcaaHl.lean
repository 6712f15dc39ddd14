import Derived.Test.YtfgjfncmldnlcaaHs
import Derived.Deep.OwnRows
namespace Go.Proofs.Ytfgjfncmldnlcaa
open Go.RowKit

theorem infoInt : (Try.prog.info? 3).map (fun i => (i.zero, i.size, i.bytes)) = some (some (.int .i64 0), 1, 8) := by kernel_rfl
/-- make([]int, n). -/
theorem run_mk (n : Nat) (hn : n ≤ 20) (w : World) :
    (Instr.makeSlice 22 (.int .i64 (n : Int)) (.int .i64 (n : Int))).run Try.prog w = .ok (.slice (some ⟨w.heap.size, 0, none⟩) n n) (w.alloc (.cells (madeCells #[.int .i64 0] n) 3)) :=
  run_make_row' 22 3 _ 8 Try.underlying22 infoInt rfl _ _ n (by omega) (by omega) w
/-- A block that is a row of ints. -/
def Rw (w : World) (g N : Nat) (F : Nat → Int) : Prop := w.rowIs g 3 N (fun j => Value.int .i64 (F j))
def upd (F : Nat → Int) (i : Nat) (x : Int) : Nat → Int := fun j => if j = i then x else F j
theorem Rw.cell {w : World} {g N : Nat} {F : Nat → Int} (h : Rw w g N F) {i : Nat} (hi : i < N) : w.cell? ⟨g, i, none⟩ = some (.int .i64 (F i)) := World.rowIs.cell h hi
theorem Rw.frozen {w : World} {g N : Nat} {F : Nat → Int} (h : Rw w g N F) (i : Nat) : w.frozen? ⟨g, i, none⟩ = false := World.rowIs.frozen h i
theorem Rw.set {w : World} {g N : Nat} {F : Nat → Int} (h : Rw w g N F) (i : Nat) (v : Int) : Rw (w.setCell ⟨g, i, none⟩ (.int .i64 v)) g N (upd F i v) := by
  refine (World.rowIs.set h i _).congr fun j _ => ?_
  unfold upd
  split <;> rfl
theorem Rw.made (w : World) (n : Nat) : Rw (w.alloc (.cells (madeCells #[.int .i64 0] n) 3)) w.heap.size n (fun _ => 0) := World.rowIs_made w _ n _
theorem Rw.sl {w : World} {g N : Nat} {F : Nat → Int} (h : Rw w g N F) {l : List Int} (hl : l.length = N) (e : ∀ j, j < N → F j = l.getD j 0) : Sl w (some ⟨g, 0, none⟩) N l :=
  ⟨hl, fun _ => ⟨g, 0, rfl, fun j hj => by rw [Nat.zero_add, h.cell hj, e j hj]⟩⟩

/-! ### Place -/
def plB (l : List Int) (k : Int) : Bool := decide (szE l = 0) && (decide (0 ≤ k) && decide (k < pr l))
def plO (l : List Int) (k : Int) : List Int := if plB l k then plL l k else []
def PlPost (b : Bool) (p : List Int) (W : World) (x : Ending) (W' : World) : Prop := ∃ a' n' c', x = .returned (.tuple #[.slice a' n' c', .bool b]) ∧ Sl W' a' n' p ∧ n' ≤ 20 ∧ Below W.heap.size W W'
def PlIs (f : Nat) (a : Option Addr) (n c : Nat) (k : Int) (b : Bool) (p : List Int) (W : World) : Prop := Calls Try.prog f #[.slice a n c, .int .i64 k] W (PlPost b p W)
theorem plB_no {l : List Int} {k : Int} (h : szE l ≠ 0 ∨ k < 0 ∨ pr l ≤ k) : plB l k = false ∧ plO l k = [] := by
  have e : plB l k = false := by
    unfold plB
    rcases h with h | h | h
    · rw [decide_eq_false h]; rfl
    · rw [decide_eq_false (show ¬ 0 ≤ k by omega)]; simp
    · rw [decide_eq_false (show ¬ k < pr l by omega)]; simp
  exact ⟨e, by unfold plO; rw [e]; rfl⟩
theorem plB_yes {l : List Int} {k : Int} (h : szE l = 0) (h0 : 0 ≤ k) (h1 : k < pr l) : plB l k = true ∧ plO l k = plL l k := by
  have e : plB l k = true := by unfold plB; rw [decide_eq_true h, decide_eq_true h0, decide_eq_true h1]; rfl
  exact ⟨e, by unfold plO; rw [e]; rfl⟩
set_option maxRecDepth 10000 in
set_option maxHeartbeats 1600000 in
theorem Place_is (a : Option Addr) (n c : Nat) (l : List Int) (k : Int) (W : World) (h : Sl W a n l) (hk63 : k ≤ 9223372036854775807) : PlIs 14 a n c k (plB l k) (plO l k) W := by
  have hsz := Size_is a n c l W h
  unfold SizeIs at hsz
  obtain ⟨b, hb⟩ : ∃ b, b = plB l k := ⟨_, rfl⟩
  obtain ⟨p, hp⟩ : ∃ p, p = plO l k := ⟨_, rfl⟩
  rw [← hb, ← hp]
  have HB := Lib.hid hb
  have HP := Lib.hid hp
  have HS := Lib.hid h
  clear hb hp h
  unfold PlIs
  by_cases he : szE l = 0
  · rw [szV_pr he, he] at hsz
    have HM := Lib.hid (szE_may.1 he)
    have hn3 : n ≤ 3 := by have := HM.out.len; rw [HS.out.1] at this; exact this
    obtain ⟨S, hS⟩ : ∃ S, S = pr l := ⟨_, rfl⟩
    rw [← hS] at hsz
    have K := Lib.hid hsz
    have HZ := Lib.hid hS
    clear hsz hS
    by_cases c1 : k < 0
    · obtain ⟨f1, f2⟩ := plB_no (l := l) (k := k) (.inr (.inl c1))
      obtain rfl : b = false := HB.out.trans f1
      obtain rfl : p = [] := HP.out.trans f2
      clear f1 f2 he
      go_enter Try.func14, Try.ntmps14
      go_wp2_with fail
      refine K.out.mono ?_
      rintro x w1 ⟨rfl, rfl⟩
      go_wp2_with fail
      go_ret2
      exact ⟨none, 0, 0, rfl, Sl.nil _ _, by omega, Below.refl _ _⟩
    by_cases c2 : S ≤ k
    · obtain ⟨f1, f2⟩ := plB_no (l := l) (k := k) (.inr (.inr (by rw [← HZ.out]; exact c2)))
      obtain rfl : b = false := HB.out.trans f1
      obtain rfl : p = [] := HP.out.trans f2
      clear f1 f2 he
      go_enter Try.func14, Try.ntmps14
      go_wp2_with fail
      refine K.out.mono ?_
      rintro x w1 ⟨rfl, rfl⟩
      go_wp2_with fail
      go_ret2
      exact ⟨none, 0, 0, rfl, Sl.nil _ _, by omega, Below.refl _ _⟩
    · have hA := HM.out.pos (by rw [← HZ.out]; omega)
      obtain ⟨f1, f2⟩ := plB_yes he (k := k) (by omega) (by rw [← HZ.out]; omega)
      obtain rfl : b = true := HB.out.trans f1
      have HP2 := Lib.hid (HP.out.trans f2)
      have HA := Lib.hid hA
      have hmk := run_mk n (by omega)
      clear f1 f2 he HP hA
      go_enter Try.func14, Try.ntmps14
      go_wp2_with fail
      refine K.out.mono ?_
      rintro x w1 ⟨rfl, rfl⟩
      go_wp2_with fail
      have hRw := Rw.made W n
      have hbel : Below W.heap.size W (W.alloc (.cells (madeCells #[.int .i64 0] n) 3)) := (Below.refl _ _).alloc (Nat.le_refl _) _
      obtain ⟨g, hg⟩ : ∃ g, g = W.heap.size := ⟨_, rfl⟩
      rw [← hg] at hRw hbel ⊢
      have HG := Lib.hid hg
      clear hg
      generalize W.alloc (.cells (madeCells #[.int .i64 0] n) 3) = w1 at hRw hbel ⊢
      have hw : wrap64 ((n : Int) - 1) = (n : Int) - 1 := w64 (by omega) (by omega)
      clear hmk
      go_loopw [1, 9] (fun o i wr => ∃ (q : Nat) (z : Int) (F : Nat → Int), i = .int .i64 ((q : Int) - 1) ∧ o = .int .i64 z ∧ q ≤ n ∧ Hid (z = quo l k q) ∧ Hid (∀ j, q ≤ j → j < n → F j = plc l k j) ∧ Rw wr g n F ∧ Below g W wr) (fun _ i _ => (intOf i + 1).toNat)
      case atStart => exact ⟨n, k, _, by simp, rfl, Nat.le_refl _, Lib.hid (by rw [← HS.out.1, quo_last]), Lib.hid (fun j h1 h2 => by omega), hRw, hbel⟩
      case round =>
        obtain ⟨q, z, F, rfl, rfl, hq, HQ, HF, hR, hbel2⟩ := hrel
        rcases q with _ | q
        · have hsl : Sl wr (some ⟨g, 0, none⟩) n p := hR.sl (by rw [HP2.out, plL_length, HS.out.1]) (fun j hj => by rw [HF.out j (Nat.zero_le _) hj, HP2.out, plL_get (by rw [HS.out.1]; exact hj)])
          have HSL := Lib.hid hsl
          have HBL : Hid (Below W.heap.size W wr) := by rw [← HG.out]; exact hbel2
          clear hsl hbel2 hR hRw hbel
          go_wp2_with fail
          go_ret2
          exact ⟨_, _, _, rfl, HSL.out, by omega, HBL.out⟩
        · rw [show (((q + 1 : Nat) : Int) - 1) = (q : Int) by omega]
          obtain ⟨b, off, rfl, hc⟩ := HS.out.2 (by omega)
          have hck := (hbel2.cell (p := ⟨b, off + q, none⟩) (by rw [HG.out]; exact World.block_lt_of_cell? W _ (hc q (by omega)))).trans (hc q (by omega))
          obtain ⟨x, hx⟩ : ∃ x, x = l.getD q 0 := ⟨_, rfl⟩
          rw [← hx] at hck
          have hxp : 0 < x := by rw [hx]; exact HA.out.pos q (by rw [HS.out.1]; omega)
          have hbg : b ≠ g := by have := World.block_lt_of_cell? W _ (hc q (by omega)); intro e; rw [← HG.out, ← e] at this; exact absurd this (Nat.lt_irrefl _)
          have hcell := hR.cell (i := q) (by omega)
          have hfr := hR.frozen q
          have hck2 : ∀ u, (wr.setCell ⟨g, q, none⟩ u).cell? ⟨b, off + q, none⟩ = some (.int .i64 x) := fun u => by rw [World.cell?_setCell_other _ _ _ _ (by intro e; injection e with e; exact hbg e.symm), hck]
          have hx0 : (x == 0) = false := beq_eq_false_iff_ne.2 (by omega)
          have HX := Lib.hid hx
          clear hc hx
          have hz0 : 0 ≤ z := by rw [HQ.out]; exact quo_nonneg HA.out (by omega) _
          have hzk : z ≤ k := by rw [HQ.out]; exact quo_le HA.out (by omega) _
          have em : z % x = plc l k q := by rw [HQ.out, HX.out]; rfl
          have ed : z / x = quo l k q := by rw [HQ.out, HX.out]; exact quo_step (by rw [HS.out.1]; omega) (Int.le_of_lt (HA.out.drop _))
          have HE := Lib.hid (And.intro em ed)
          clear em ed
          go_wp2_with fail
          go_roundw
          case rel =>
            refine ⟨q, _, _, rfl, rfl, by omega, HE.out.2, Lib.hid fun j h1 h2 => ?_, hR.set q _, hbel2.setCell (by show g ≤ g; exact Nat.le_refl _) _⟩
            unfold upd
            by_cases hjq : j = q
            · rw [if_pos hjq, hjq, HE.out.1]
            · rw [if_neg hjq]; exact HF.out j (by omega) h2
          case measure => simp [intOf]
  · obtain ⟨f1, f2⟩ := plB_no (l := l) (k := k) (.inl he)
    obtain rfl : b = false := HB.out.trans f1
    obtain rfl : p = [] := HP.out.trans f2
    rw [szV_zero he] at hsz
    generalize szE l = E at hsz he
    have K := Lib.hid hsz
    clear f1 f2 hsz
    go_enter Try.func14, Try.ntmps14
    go_wp2_with fail
    refine K.out.mono ?_
    rintro x w1 ⟨rfl, rfl⟩
    go_wp2_with fail
    go_ret2
    exact ⟨none, 0, 0, rfl, Sl.nil _ _, by omega, Below.refl _ _⟩
end Go.Proofs.Ytfgjfncmldnlcaa

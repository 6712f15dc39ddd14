import Derived.Test.YtlhbejeninjmoaaGreatDoorMas
import Derived.WalkKit
import Derived.WalkSpells
import Derived.WalkLawsBesides
import Derived.Lib.Hide
import Derived.Test.YtlhbejeninjmoaaGreatDoorMar
import Derived.BigQuiet
import Derived.Deep.QuietTactic
import Derived.Deep.RegionWith
import Derived.Deep.OwnRows
import Derived.Deep.RegionLaw
import Derived.Deep.AppendLies
/-
  The reference Size of shapes, by its contract; joined by shake.py, minus.py.
-/
namespace Go.Proofs.YtlhbejeninjmoaaGreatDoor
set_option linter.unusedVariables false
set_option linter.unusedSimpArgs false
section
end
section
open Go.RowKit
structure R3 (l : List Int) (k : Nat) (sz : Int) : Prop where
  lo : 1 ≤ sz
  hi : sz ≤ 4096
  eq : sz = pr (l.take k)
set_option maxRecDepth 10000 in
theorem rSize_rank (a : Option Addr) (n c : Nat) (W : World) (hn : 3 < n) : SizeIs 29 a n c 0 3 W := by
  have e1 : (3 : Int) < (n : Int) := by omega
  unfold SizeIs
  go_enter Tryz.func29, Tryz.ntmps29
  go_wp2_with fail
  go_ret2
  exact ⟨rfl, rfl⟩
set_option maxRecDepth 10000 in
set_option maxHeartbeats 1600000 in
theorem rSize_few (a : Option Addr) (n c : Nat) (l : List Int) (W : World) (h : Sl W a n l) (hn : n ≤ 3) : SizeIs 29 a n c (szV l) (szE l) W := by
  have e1 : ¬ (3 : Int) < (n : Int) := by omega
  obtain ⟨v, hv⟩ : ∃ v, v = szV l := ⟨_, rfl⟩
  obtain ⟨e, he⟩ : ∃ e, e = szE l := ⟨_, rfl⟩
  rw [← hv, ← he]
  have HV := Lib.hid hv
  have HE := Lib.hid he
  have HS := Lib.hid h
  clear hv he h
  unfold SizeIs
  go_enter Tryz.func29, Tryz.ntmps29
  go_wp2_with fail
  go_loop [4, 5] (fun z i => ∃ (k : Nat) (b : Bool), i = .int .i64 k ∧ z = .bool b ∧ k ≤ n ∧ R1 l k b) (fun _ i => n - (intOf i).toNat)
  case atStart => exact ⟨0, false, rfl, rfl, by omega, R1.start l⟩
  case round =>
    obtain ⟨k, bl, rfl, rfl, hk, hI⟩ := hrel
    have HI := Lib.hid hI
    clear hI
    by_cases hlt : k < n
    · have e2 : (k : Int) < (n : Int) := by omega
      obtain ⟨b, off, rfl, hc⟩ := HS.out.2 (by omega)
      have hck := hc k hlt
      clear hc
      obtain ⟨x, hx⟩ : ∃ x, x = l.getD k 0 := ⟨_, rfl⟩
      rw [← hx] at hck
      have HX := Lib.hid hx
      clear hx
      by_cases c1 : x < 0
      · have hE := szE_neg (by rw [HS.out.1]; exact hn) (negL_yes (j := k) (by rw [HS.out.1]; exact hlt) (by rw [← HX.out]; exact c1))
        have hV := szV_zero (l := l) (by rw [hE]; decide)
        obtain rfl : e = 5 := HE.out.trans hE
        obtain rfl : v = 0 := HV.out.trans hV
        clear hE hV
        go_wp2_with fail
        go_ret2
        exact ⟨rfl, rfl⟩
      · have hst := HI.out.step (by rw [← HX.out]; omega)
        rw [← HX.out] at hst
        have HT := Lib.hid hst
        clear hst
        rcases Bool.eq_false_or_eq_true bl with rfl | rfl
        · go_wp2_with fail
          go_round
          case rel => exact ⟨k + 1, _, by go_num, rfl, by omega, HT.out⟩
          case measure => simp [intOf]; omega
        · go_wp2_with fail
          go_round
          case rel => exact ⟨k + 1, _, by go_num, rfl, by omega, HT.out⟩
          case measure => simp [intOf]; omega
    · have e2 : ¬ (k : Int) < (n : Int) := by omega
      obtain rfl : k = n := by omega
      have H1 : Hid (R1 l l.length bl) := by rw [HS.out.1]; exact HI
      clear HI
      go_wp2_with fail
      go_loop [6] (fun i => ∃ k' : Nat, i = .int .i64 k' ∧ k' ≤ k ∧ ∀ j, j < k' → l.getD j 0 ≤ 1099511627776) (fun i => k - (intOf i).toNat)
      case atStart => exact ⟨0, rfl, by omega, fun j hj => by omega⟩
      case round =>
        obtain ⟨q, rfl, hq, hI⟩ := hrel
        have HI := Lib.hid hI
        clear hI
        by_cases hlt : q < k
        · have e3 : (q : Int) < (k : Int) := by omega
          obtain ⟨b, off, rfl, hc⟩ := HS.out.2 (by omega)
          have hck := hc q hlt
          clear hc
          obtain ⟨x, hx⟩ : ∃ x, x = l.getD q 0 := ⟨_, rfl⟩
          rw [← hx] at hck
          have HX := Lib.hid hx
          clear hx
          by_cases c1 : 1099511627776 < x
          · have hE := szE_big (by rw [HS.out.1]; exact hn) (negL_no H1.out.nn) (bigL_yes (j := q) (by rw [HS.out.1]; exact hlt) (by rw [← HX.out]; exact c1))
            have hV := szV_zero (l := l) (by rw [hE]; decide)
            obtain rfl : e = 8 := HE.out.trans hE
            obtain rfl : v = 0 := HV.out.trans hV
            clear hE hV
            go_wp2_with fail
            go_ret2
            exact ⟨rfl, rfl⟩
          · go_wp2_with fail
            go_round
            case rel =>
              refine ⟨q + 1, by go_num, by omega, fun j hj => ?_⟩
              rcases Nat.lt_or_ge j q with h2 | h2
              · exact HI.out j h2
              · rw [show j = q by omega, ← HX.out]; omega
            case measure => simp [intOf]; omega
        · have e3 : ¬ (q : Int) < (k : Int) := by omega
          obtain rfl : q = k := by omega
          have H2 : Hid (∀ j, j < l.length → l.getD j 0 ≤ 1099511627776) := by rw [HS.out.1]; exact HI
          clear HI
          rcases Bool.eq_false_or_eq_true bl with rfl | rfl
          · obtain ⟨j, hj, hz⟩ := H1.out.z.1 rfl
            have hp := pr_zero_at hj hz
            have hE := szE_ok (by rw [HS.out.1]; exact hn) (negL_no H1.out.nn) (bigL_no H2.out) (by rw [hp]; decide)
            have hV := (szV_pr hE).trans hp
            obtain rfl : e = 0 := HE.out.trans hE
            obtain rfl : v = 0 := HV.out.trans hV
            clear hE hV hp hz hj
            go_wp2_with fail
            go_ret2
            exact ⟨rfl, rfl⟩
          · have HP := Lib.hid H1.out.pos
            go_wp2_with fail
            go_loop [7, 8] (fun s i => ∃ (k' : Nat) (sz : Int), i = .int .i64 k' ∧ s = .int .i64 sz ∧ k' ≤ q ∧ R3 l k' sz) (fun _ i => q - (intOf i).toNat)
            case atStart => exact ⟨0, 1, rfl, rfl, by omega, by decide, by decide, by simp [pr]⟩
            case round =>
              obtain ⟨p, sz, rfl, rfl, hp, hI⟩ := hrel
              have HI := Lib.hid hI
              clear hI
              by_cases hlt : p < q
              · have e4 : (p : Int) < (q : Int) := by omega
                obtain ⟨b, off, rfl, hc⟩ := HS.out.2 (by omega)
                have hck := hc p hlt
                clear hc
                have hpl : p < l.length := by rw [HS.out.1]; exact hlt
                have hpos := HP.out.pos p hpl
                have hat := HP.out.at_le hpl
                have htk := HP.out.take_le (p + 1)
                rw [pr_take hpl, ← HI.out.eq] at htk
                obtain ⟨x, hx⟩ : ∃ x, x = l.getD p 0 := ⟨_, rfl⟩
                rw [← hx] at hck hpos hat htk
                have HX := Lib.hid hx
                clear hx
                by_cases c1 : 4096 < x
                · have hE := szE_pr (by rw [HS.out.1]; exact hn) (negL_no H1.out.nn) (bigL_no H2.out) (by omega)
                  have hV := szV_zero (l := l) (by rw [hE]; decide)
                  obtain rfl : e = 8 := HE.out.trans hE
                  obtain rfl : v = 0 := HV.out.trans hV
                  clear hE hV hat htk
                  go_wp2_with fail
                  go_ret2
                  exact ⟨rfl, rfl⟩
                have hl := HI.out.lo
                have hh := HI.out.hi
                have hm : 0 ≤ sz * x := Int.mul_nonneg (by omega) (by omega)
                have hm2 : sz * x ≤ 4096 * x := Int.mul_le_mul_of_nonneg_right hh (by omega)
                have hw := w64 (x := sz * x) (by omega) (by omega)
                have hm1 : 1 ≤ sz * x := Int.mul_pos (by omega) hpos
                by_cases c2 : 4096 < wrap64 (sz * x)
                · have hE := szE_pr (by rw [HS.out.1]; exact hn) (negL_no H1.out.nn) (bigL_no H2.out) (by omega)
                  have hV := szV_zero (l := l) (by rw [hE]; decide)
                  obtain rfl : e = 8 := HE.out.trans hE
                  obtain rfl : v = 0 := HV.out.trans hV
                  clear hE hV hat htk hw hm1 hm hm2 hl hh
                  go_wp2_with fail
                  go_ret2
                  exact ⟨rfl, rfl⟩
                · have HT : Hid (R3 l (p + 1) (wrap64 (sz * x))) := Lib.hid ⟨by omega, by omega, by rw [hw, pr_take hpl, ← HI.out.eq, ← HX.out]⟩
                  clear hat htk hw hm1 hm hm2 hl hh
                  go_wp2_with fail
                  go_round
                  case rel => exact ⟨p + 1, _, by go_num, rfl, by omega, HT.out⟩
                  case measure => simp [intOf]; omega
              · have e4 : ¬ (p : Int) < (q : Int) := by omega
                obtain rfl : p = q := by omega
                have heq := HI.out.eq
                rw [List.take_of_length_le (by rw [HS.out.1]; exact Nat.le_refl _)] at heq
                have hE := szE_ok (by rw [HS.out.1]; exact hn) (negL_no H1.out.nn) (bigL_no H2.out) (by rw [← heq]; exact HI.out.hi)
                have hV := (szV_pr hE).trans heq.symm
                obtain rfl : e = 0 := HE.out.trans hE
                obtain rfl : v = sz := HV.out.trans hV
                clear hE hV heq
                go_wp2_with fail
                go_ret2
                exact ⟨rfl, rfl⟩
theorem rSize_is (a : Option Addr) (n c : Nat) (l : List Int) (W : World) (h : Sl W a n l) : SizeIs 29 a n c (szV l) (szE l) W := by
  rcases Nat.lt_or_ge 3 n with h3 | h3
  · have e := szE_rank (l := l) (by rw [h.1]; exact h3)
    rw [e, szV_zero (by rw [e]; decide)]
    exact rSize_rank a n c W h3
  · exact rSize_few a n c l W h h3
end
end Go.Proofs.YtlhbejeninjmoaaGreatDoor
/-
  Of shape, what mould and spread lean on besides: Meet, Place, Offset, the reference's Meet, Items, Place, Offset; joined by shake.py, minus.py.
-/
namespace Go.Proofs.YtlhbejeninjmoaaGreatDoor
set_option linter.unusedVariables false
set_option linter.unusedSimpArgs false
section
open Go.RowKit
end
section
open Go.RowKit
theorem SDrawn.sl {w w' : World} (h : SDrawn w w') {a : Option Addr} {n : Nat} {l : List Int} (hs : Sl w a n l) : Sl w' a n l := by obtain ⟨m, rfl⟩ := h; exact hs
theorem ofB_in {l t : List Int} {k : Nat} (hk : k < l.length) (h : t.getD k 0 < 0 ∨ l.getD k 0 ≤ t.getD k 0) : ofB l t = false ∧ ofV l t = 0 := by
  have e : ofB l t = false := by unfold ofB; rw [inL_not hk h]; simp
  exact ⟨e, by unfold ofV; rw [e]; rfl⟩
theorem ofB_bad {l t : List Int} (h : szE l ≠ 0 ∨ l.length ≠ t.length) : ofB l t = false ∧ ofV l t = 0 := by
  have e : ofB l t = false := by
    unfold ofB
    rcases h with h | h
    · rw [decide_eq_false h]; rfl
    · rw [decide_eq_false h]; simp
  exact ⟨e, by unfold ofV; rw [e]; rfl⟩
def OffIs (f : Nat) (a1 a2 : Option Addr) (n c m d : Nat) (v : Int) (b : Bool) (W : World) : Prop :=
  Calls Tryz.prog f #[.slice a1 n c, .slice a2 m d] W fun x W' => x = .returned (.tuple #[.int .i64 v, .bool b]) ∧ SDrawn W W'
theorem part_le {l : List Int} (hm : MayL l) {i : Nat} (hi : i < l.length) (hp : ∀ j, j ≤ i → 0 < l.getD j 0) {q : Nat} (hq : i + 1 + q ≤ l.length) : 0 ≤ pr ((l.drop (i + 1)).take q) ∧ pr ((l.drop (i + 1)).take q) ≤ 9007199254740992 := by
  obtain ⟨h1, h2, h3, h4⟩ := hm
  have p0 := hp 0 (Nat.zero_le _)
  rcases l with _ | ⟨x, _ | ⟨y, _ | ⟨z, _ | ⟨u, r⟩⟩⟩⟩
  · simp at hi
  · simp at hi hq; obtain rfl : i = 0 := by omega
    obtain rfl : q = 0 := by omega
    simp [pr]
  · have y0 := h2 1 (by simp); have y1 := h3 1 (by simp)
    simp at hi hq y0 y1
    rcases i with _ | _ | i
    · rcases q with _ | _ | q
      · simp [pr]
      · simp [pr]; omega
      · omega
    · obtain rfl : q = 0 := by omega
      simp [pr]
    · omega
  · have y0 := h2 1 (by simp); have y1 := h3 1 (by simp); have z0 := h2 2 (by simp); have z1 := h3 2 (by simp)
    simp at hi hq y0 y1 z0 z1 p0
    simp only [pr, Int.mul_one] at h4
    rcases i with _ | _ | _ | i
    · rcases q with _ | _ | _ | q
      · simp [pr]
      · simp [pr]; omega
      · simp [pr]
        have a : 0 ≤ y * z := Int.mul_nonneg y0 z0
        have b : 1 * (y * z) ≤ x * (y * z) := Int.mul_le_mul_of_nonneg_right (by omega) a
        omega
      · omega
    · rcases q with _ | _ | q
      · simp [pr]
      · simp [pr]; omega
      · omega
    · obtain rfl : q = 0 := by omega
      simp [pr]
    · omega
  · simp at h1
end
section
open Go.RowKit
theorem sum_range {l t : List Int} (hm : MayL l) {k : Nat} (hk : k < l.length) (h : inL l t (k + 1) = true) : 0 ≤ t.getD k 0 * pr (l.drop (k + 1)) ∧ t.getD k 0 * pr (l.drop (k + 1)) ≤ 4096 ∧ 0 ≤ sum l t (k + 1) ∧ sum l t (k + 1) ≤ 4096 := by
  have hr := hor_range (l := l) (t := t) (n := k + 1) (by omega) h
  have hr0 := hor_range (l := l) (t := t) (n := k) (by omega) (by simp only [inL, Bool.and_eq_true] at h; exact h.1)
  have hpr := hm.pr
  have ha := inL_at h (Nat.lt_succ_self k)
  by_cases hp : AllPos l
  · have hd := hp.drop (k + 1)
    have h1 : 0 ≤ t.getD k 0 * pr (l.drop (k + 1)) := Int.mul_nonneg ha.1 (by omega)
    have e := sum_hor (l := l) (t := t) (i := k + 1) (by omega)
    have e0 := sum_hor (l := l) (t := t) (i := k) (by omega)
    have h2 : hor l t (k + 1) * pr (l.drop (k + 1)) ≤ pr (l.take (k + 1)) * pr (l.drop (k + 1)) := Int.mul_le_mul_of_nonneg_right (by omega) (by omega)
    rw [← pr_append, List.take_append_drop] at h2
    have h3 : 0 ≤ hor l t k * pr (l.drop k) := Int.mul_nonneg hr0.1 (by have := hp.drop k; omega)
    have e2 : sum l t (k + 1) = sum l t k + t.getD k 0 * pr (l.drop (k + 1)) := rfl
    omega
  · have : ∃ j, j < l.length ∧ l.getD j 0 = 0 := by
      refine Classical.byContradiction fun hn => hp ⟨fun j hj => ?_⟩
      have := hm.nn j hj
      rcases Int.lt_or_le 0 (l.getD j 0) with h1 | h1
      · exact h1
      · exact absurd ⟨j, hj, by omega⟩ hn
    obtain ⟨j, hj, hz⟩ := this
    have hjk : k < j := by
      rcases Nat.lt_or_ge k j with h1 | h1
      · exact h1
      · have := inL_at h (show j < k + 1 by omega); omega
    have hd : pr (l.drop (k + 1)) = 0 := pr_zero_at (j := j - (k + 1)) (by rw [List.length_drop]; omega) (by rw [getD_drop, show k + 1 + (j - (k + 1)) = j by omega]; exact hz)
    rw [sum_hor (by omega), hd]
    simp
end
section
open Go.RowKit
theorem infoInt : (Tryz.prog.info? 3).map (fun i => (i.zero, i.size, i.bytes)) = some (some (.int .i64 0), 1, 8) := by kernel_rfl
theorem smrun_mk (n : Nat) (hn : n ≤ 20) (w : World) :
    (Instr.makeSlice 22 (.int .i64 (n : Int)) (.int .i64 (n : Int))).run Tryz.prog w = .ok (.slice (some ⟨w.heap.size, 0, none⟩) n n) (w.alloc (.cells (madeCells #[.int .i64 0] n) 3)) :=
  run_make_row' 22 3 _ 8 Tryz.underlying22 infoInt rfl _ _ n (by omega) (by omega) w
def supd (F : Nat → Int) (i : Nat) (x : Int) : Nat → Int := fun j => if j = i then x else F j
theorem SRw.frozen {w : World} {g N : Nat} {F : Nat → Int} (h : SRw w g N F) (i : Nat) : w.frozen? ⟨g, i, none⟩ = false := World.rowIs.frozen h i
theorem SRw.set {w : World} {g N : Nat} {F : Nat → Int} (h : SRw w g N F) (i : Nat) (v : Int) : SRw (w.setCell ⟨g, i, none⟩ (.int .i64 v)) g N (supd F i v) := by
  refine (World.rowIs.set h i _).congr fun j _ => ?_
  unfold supd
  split <;> rfl
theorem SRw.made (w : World) (n : Nat) : SRw (w.alloc (.cells (madeCells #[.int .i64 0] n) 3)) w.heap.size n (fun _ => 0) := World.rowIs_made w _ n _
theorem SRw.sl {w : World} {g N : Nat} {F : Nat → Int} (h : SRw w g N F) {l : List Int} (hl : l.length = N) (e : ∀ j, j < N → F j = l.getD j 0) : Sl w (some ⟨g, 0, none⟩) N l :=
  ⟨hl, fun _ => ⟨g, 0, rfl, fun j hj => by rw [Nat.zero_add, h.cell hj, e j hj]⟩⟩
def plB (l : List Int) (k : Int) : Bool := decide (szE l = 0) && (decide (0 ≤ k) && decide (k < pr l))
def plO (l : List Int) (k : Int) : List Int := if plB l k then plL l k else []
def PlPost (b : Bool) (p : List Int) (W : World) (x : Ending) (W' : World) : Prop := ∃ a' n' c', x = .returned (.tuple #[.slice a' n' c', .bool b]) ∧ Sl W' a' n' p ∧ n' ≤ 20 ∧ Below W.heap.size W W'
def PlIs (f : Nat) (a : Option Addr) (n c : Nat) (k : Int) (b : Bool) (p : List Int) (W : World) : Prop := Calls Tryz.prog f #[.slice a n c, .int .i64 k] W (PlPost b p W)
theorem plB_no {l : List Int} {k : Int} (h : szE l ≠ 0 ∨ k < 0 ∨ pr l ≤ k) : plB l k = false ∧ plO l k = [] := by
  have e : plB l k = false := by
    unfold plB
    rcases h with h | h | h
    · rw [decide_eq_false h]; rfl
    · rw [decide_eq_false (show ¬ 0 ≤ k by omega)]; simp
    · rw [decide_eq_false (show ¬ k < pr l by omega)]; simp
  exact ⟨e, by unfold plO; rw [e]; rfl⟩
theorem plB_yes {l : List Int} {k : Int} (h : szE l = 0) (h0 : 0 ≤ k) (h1 : k < pr l) : plB l k = true ∧ plO l k = plL l k := by
  have e : plB l k = true := by unfold plB; rw [decide_eq_true h, decide_eq_true h0, decide_eq_true h1]; rfl
  exact ⟨e, by unfold plO; rw [e]; rfl⟩
end
section
open Go.RowKit
def plTo (l : List Int) (k : Int) (q : Nat) : List Int := (List.range q).map (plc l k)
theorem plTo_succ (l : List Int) (k : Int) (q : Nat) : valsI (plTo l k q) ++ [.int .i64 (plc l k q)] = valsI (plTo l k (q + 1)) := by
  unfold plTo valsI
  rw [List.range_succ]; simp
theorem step_push {ops : Array Oper} {o : Oper} {a : Act} {K : Act → World → Prop} {Q : Exit → Act → World → Prop} {E : Prop} {w : World} (W wr : World) (s x : Operand) (av : Option Addr) (n cv : Nat) (xs : List Value) (v : Int)
    (ho : o.op = .call { callee := .builtin .append, args := #[s, x], argTypes := #[22, 22] }) (hgd : o.guard = none)
    (hs : a.eval s = .slice av n cv) (hx : a.eval x = .slice (some ⟨wr.heap.size, 0, none⟩) 1 1) (hh : w.heap = wr.heap.push (.cells #[.int .i64 v] 3)) (h1 : w.os = wr.os) (h2 : w.tape = wr.tape) (h3 : w.output = wr.output)
    (hown : wr.ownsRow W.heap.size 3 1 (.slice av n cv) n xs) (hbel : Below W.heap.size W wr) (hn : n ≤ 20)
    (h : ∀ av' cv' w', w'.ownsRow W.heap.size 3 1 (.slice av' (n + 1) cv') (n + 1) (xs ++ [.int .i64 v]) → Below W.heap.size W w' → K (a.put o.dst (.slice av' (n + 1) cv')) w') :
    if Region.wanted o (yielded ops a.tmps) = true then Oper.wp Tryz.prog o a w K Q else E := by
  obtain ⟨i0, hi, hz0, hz1, hz2⟩ := info_parts infoInt
  have hsz := hbel.size
  have hown2 : w.ownsRow W.heap.size 3 1 (.slice av n cv) n xs := by
    have h4 := hown.alloc (.cells #[.int .i64 v] 3)
    unfold World.ownsRow at h4 ⊢
    rw [hh]
    exact h4
  have hb2 : Below W.heap.size W w := by
    have h4 := hbel.alloc hsz (.cells #[.int .i64 v] 3)
    exact ⟨h1.trans hbel.os, h2.trans hbel.tape, h3.trans hbel.output, by rw [hh]; exact h4.size, fun k hk => by rw [hh]; exact h4.block k hk⟩
  refine step_append_lies w hgd s x 22 ho W.heap.size 3 i0 (.int .i64 0) 1 8 Tryz.underlying22 hi hz0 hz1 hz2 rfl (by decide) _ _ _ hs hown2 ⟨wr.heap.size, 0, none⟩ 1 1 [.int .i64 v] hx rfl ?_ ?_ (by decide) (by unfold maxLen; omega) (by omega) (by rw [hh, Array.size_push]; omega) _ rfl ?_
  · exact World.news_of_block (t := 3) (fr := (0, 0)) (cs := #[.int .i64 v]) (by rw [hh]; simp)
  · intro u hu
    rw [List.mem_singleton] at hu
    rw [hu]; rfl
  · intro g cap w' o1 o2 _ _
    exact h _ _ w' o1 (hb2.grown o2 (by rw [hh, Array.size_push]; omega) (fun q hq => (hown2.lt q hq).1))
end
section
open Go.RowKit
def mtE (l k : List Int) : Int := if (l == k) = true ∨ k.length = 0 then 0 else if l.length = 0 then 0 else 4
def mtV (l k : List Int) : List Int := if (l == k) = true ∨ k.length = 0 then l else if l.length = 0 then k else []
def MtPost (l : List Int) (e : Int) (W : World) (x : Ending) (W' : World) : Prop := ∃ a' n' c', x = .returned (.tuple #[.slice a' n' c', .int .i64 e]) ∧ Sl W' a' n' l ∧ n' ≤ 20 ∧ Below W.heap.size W W'
set_option maxRecDepth 10000 in
theorem Meet_is (a1 a2 : Option Addr) (n c m d : Nat) (l k : List Int) (W : World) (h1 : Sl W a1 n l) (h2 : Sl W a2 m k) (hn : n ≤ 20) (hm : m ≤ 20) :
    Calls Tryz.prog 24 #[.slice a1 n c, .slice a2 m d] W (MtPost (mtV l k) (mtE l k) W) := by
  have K := Lib.hid (Same_is a1 a2 n c m d l k W h1 h2 (by omega) (by omega))
  have hl := h1.1
  have hk := h2.1
  have HL := Lib.hid (And.intro hl hk)
  have H1 := Lib.hid h1
  have H2 := Lib.hid h2
  have C1 := Lib.hid (fun w (hw : Below W.heap.size W w) => Clone_is a1 n c l w (h1.below hw) hn)
  have C2 := Lib.hid (fun w (hw : Below W.heap.size W w) => Clone_is a2 m d k w (h2.below hw) hm)
  obtain ⟨b, hb⟩ : ∃ b, b = (l == k) := ⟨_, rfl⟩
  rw [← hb] at K
  have HB := Lib.hid hb
  clear hb h1 h2 hl hk
  by_cases c1 : b = true
  · subst c1
    have e1 : mtE l k = 0 := if_pos (.inl HB.out.symm)
    have e2 : mtV l k = l := if_pos (.inl HB.out.symm)
    rw [e1, e2]
    clear e1 e2
    go_enter Tryz.func24, Tryz.ntmps24
    go_wp2_with fail
    refine K.out.mono ?_
    rintro x w1 ⟨rfl, hb1⟩
    go_wp2_with fail
    refine (C1.out _ hb1).mono ?_
    rintro x w2 ⟨a', n', c', rfl, hs, hn', hb2⟩
    go_wp2_with fail
    go_ret2
    exact ⟨a', n', c', rfl, hs, hn', hb1.trans (hb2.mono hb1.size)⟩
  obtain rfl : b = false := by simpa using c1
  by_cases c2 : m = 0
  · subst c2
    have e1 : mtE l k = 0 := if_pos (.inr HL.out.2)
    have e2 : mtV l k = l := if_pos (.inr HL.out.2)
    rw [e1, e2]
    clear e1 e2
    go_enter Tryz.func24, Tryz.ntmps24
    go_wp2_with fail
    refine K.out.mono ?_
    rintro x w1 ⟨rfl, hb1⟩
    go_wp2_with fail
    refine (C1.out _ hb1).mono ?_
    rintro x w2 ⟨a', n', c', rfl, hs, hn', hb2⟩
    go_wp2_with fail
    go_ret2
    exact ⟨a', n', c', rfl, hs, hn', hb1.trans (hb2.mono hb1.size)⟩
  have c2' : (m : Int) ≠ 0 := by omega
  have hno : ¬ ((l == k) = true ∨ k.length = 0) := by
    rintro (h | h)
    · rw [← HB.out] at h; cases h
    · have := HL.out.2; omega
  by_cases c3 : n = 0
  · subst c3
    have e1 : mtE l k = 0 := by unfold mtE; rw [if_neg hno, if_pos HL.out.1]
    have e2 : mtV l k = k := by unfold mtV; rw [if_neg hno, if_pos HL.out.1]
    rw [e1, e2]
    clear e1 e2 hno
    go_enter Tryz.func24, Tryz.ntmps24
    go_wp2_with fail
    refine K.out.mono ?_
    rintro x w1 ⟨rfl, hb1⟩
    go_wp2_with fail
    refine (C2.out _ hb1).mono ?_
    rintro x w2 ⟨a', n', c', rfl, hs, hn', hb2⟩
    go_wp2_with fail
    go_ret2
    exact ⟨a', n', c', rfl, hs, hn', hb1.trans (hb2.mono hb1.size)⟩
  have c3' : (n : Int) ≠ 0 := by omega
  have e1 : mtE l k = 4 := by unfold mtE; rw [if_neg hno, if_neg (by rw [HL.out.1]; exact c3)]
  have e2 : mtV l k = [] := by unfold mtV; rw [if_neg hno, if_neg (by rw [HL.out.1]; exact c3)]
  rw [e1, e2]
  clear e1 e2 hno
  go_enter Tryz.func24, Tryz.ntmps24
  go_wp2_with fail
  refine K.out.mono ?_
  rintro x w1 ⟨rfl, hb1⟩
  go_wp2_with fail
  go_ret2
  exact ⟨none, 0, 0, rfl, Sl.nil _ _, by omega, hb1⟩
set_option maxRecDepth 10000 in
theorem rMeet_is (a1 a2 : Option Addr) (n c m d : Nat) (l k : List Int) (W : World) (h1 : Sl W a1 n l) (h2 : Sl W a2 m k) (hn : n ≤ 20) (hm : m ≤ 20) :
    Calls Tryz.prog 28 #[.slice a1 n c, .slice a2 m d] W (MtPost (mtV l k) (mtE l k) W) := by
  obtain ⟨b, hb⟩ : ∃ b, b = (l == k) := ⟨_, rfl⟩
  have K := Lib.hid (rSame_is a1 a2 n c m d l k W h1 h2 (by omega) (by omega) b hb)
  have hl := h1.1
  have hk := h2.1
  have HL := Lib.hid (And.intro hl hk)
  have H1 := Lib.hid h1
  have H2 := Lib.hid h2
  have HB := Lib.hid hb
  clear hb h1 h2 hl hk
  by_cases c2 : m = 0
  · subst c2
    have e1 : mtE l k = 0 := if_pos (.inr HL.out.2)
    have e2 : mtV l k = l := if_pos (.inr HL.out.2)
    rw [e1, e2]
    clear e1 e2
    go_enter Tryz.func28, Tryz.ntmps28
    go_wp2_with fail
    go_ret2
    exact ⟨a1, n, c, rfl, H1.out, hn, Below.refl _ _⟩
  have c2' : ((m : Int) == 0) = false := beq_eq_false_iff_ne.2 (by omega)
  by_cases c1 : b = true
  · subst c1
    have e1 : mtE l k = 0 := if_pos (.inl HB.out.symm)
    have e2 : mtV l k = l := if_pos (.inl HB.out.symm)
    rw [e1, e2]
    clear e1 e2
    go_enter Tryz.func28, Tryz.ntmps28
    go_wp2_with fail
    refine K.out.mono ?_
    rintro x w1 ⟨rfl, hb1⟩
    go_wp2_with fail
    go_ret2
    exact ⟨a1, n, c, rfl, hb1.sl H1.out, hn, hb1.below⟩
  obtain rfl : b = false := by simpa using c1
  have hno : ¬ ((l == k) = true ∨ k.length = 0) := by
    rintro (h | h)
    · rw [← HB.out] at h; cases h
    · have := HL.out.2; omega
  by_cases c3 : n = 0
  · subst c3
    have e1 : mtE l k = 0 := by unfold mtE; rw [if_neg hno, if_pos HL.out.1]
    have e2 : mtV l k = k := by unfold mtV; rw [if_neg hno, if_pos HL.out.1]
    rw [e1, e2]
    clear e1 e2 hno
    go_enter Tryz.func28, Tryz.ntmps28
    go_wp2_with fail
    refine K.out.mono ?_
    rintro x w1 ⟨rfl, hb1⟩
    go_wp2_with fail
    go_ret2
    exact ⟨a2, m, d, rfl, hb1.sl H2.out, hm, hb1.below⟩
  have c3' : (n : Int) ≠ 0 := by omega
  have e1 : mtE l k = 4 := by unfold mtE; rw [if_neg hno, if_neg (by rw [HL.out.1]; exact c3)]
  have e2 : mtV l k = [] := by unfold mtV; rw [if_neg hno, if_neg (by rw [HL.out.1]; exact c3)]
  rw [e1, e2]
  clear e1 e2 hno
  go_enter Tryz.func28, Tryz.ntmps28
  go_wp2_with fail
  refine K.out.mono ?_
  rintro x w1 ⟨rfl, hb1⟩
  go_wp2_with fail
  go_ret2
  exact ⟨none, 0, 0, rfl, Sl.nil _ _, by omega, hb1.below⟩
end
end Go.Proofs.YtlhbejeninjmoaaGreatDoor

import Derived.Test.YtjpjccilnmlmnaaGreatDoorMat
import Derived.Test.YtjpjccilnmlmnaaGreatDoorMbh
import Derived.Test.YtjpjccilnmlmnaaGreatDoorMbi
import Derived.WalkKit
import Derived.WalkSpells
import Derived.WalkLawsBesides
import Derived.Lib.Hide
import Derived.BigQuiet
import Derived.Deep.QuietTactic
import Derived.Deep.RegionWith
import Derived.Deep.OwnRows
import Derived.Deep.RegionLaw
import Derived.Deep.AppendLies
namespace Go.Proofs.YtjpjccilnmlmnaaGreatDoor
set_option linter.unusedVariables false
set_option linter.unusedSimpArgs false
section
open Go.RowKit
set_option maxRecDepth 10000 in
theorem rSMay_is (a : Option Addr) (n c : Nat) (l : List Int) (W : World) (h : Sl W a n l) (b : Bool) (hb : b = (szE l == 0)) :
    Calls Tryz.prog 75 #[.slice a n c] W fun x W' => x = .returned (.bool b) ∧ W = W' := by
  have hs := rSize_is a n c l W h
  unfold SizeIs at hs
  have K := Lib.hid hs
  clear hs h
  subst hb
  go_enter Tryz.func75, Tryz.ntmps75
  go_wp2_with fail
  refine K.out.mono ?_
  rintro x w1 ⟨rfl, rfl⟩
  go_wp2_with fail
  go_ret
  exact ⟨rfl, rfl⟩
end
section
open Go.RowKit
theorem part_le {l : List Int} (hm : MayL l) {i : Nat} (hi : i < l.length) (hp : ∀ j, j ≤ i → 0 < l.getD j 0) {q : Nat} (hq : i + 1 + q ≤ l.length) : 0 ≤ pr ((l.drop (i + 1)).take q) ∧ pr ((l.drop (i + 1)).take q) ≤ 9007199254740992 := by
  obtain ⟨h1, h2, h3, h4⟩ := hm
  have p0 := hp 0 (Nat.zero_le _)
  rcases l with _ | ⟨x, _ | ⟨y, _ | ⟨z, _ | ⟨u, r⟩⟩⟩⟩
  · simp at hi
  · simp at hi hq; obtain rfl : i = 0 := by omega
    obtain rfl : q = 0 := by omega
    simp [pr]
  · have y0 := h2 1 (by simp); have y1 := h3 1 (by simp)
    simp at hi hq y0 y1
    rcases i with _ | _ | i
    · rcases q with _ | _ | q
      · simp [pr]
      · simp [pr]; omega
      · omega
    · obtain rfl : q = 0 := by omega
      simp [pr]
    · omega
  · have y0 := h2 1 (by simp); have y1 := h3 1 (by simp); have z0 := h2 2 (by simp); have z1 := h3 2 (by simp)
    simp at hi hq y0 y1 z0 z1 p0
    simp only [pr, Int.mul_one] at h4
    rcases i with _ | _ | _ | i
    · rcases q with _ | _ | _ | q
      · simp [pr]
      · simp [pr]; omega
      · simp [pr]
        have a : 0 ≤ y * z := Int.mul_nonneg y0 z0
        have b : 1 * (y * z) ≤ x * (y * z) := Int.mul_le_mul_of_nonneg_right (by omega) a
        omega
      · omega
    · rcases q with _ | _ | q
      · simp [pr]
      · simp [pr]; omega
      · omega
    · obtain rfl : q = 0 := by omega
      simp [pr]
    · omega
  · simp at h1
set_option maxRecDepth 10000 in
theorem step_is (a : Option Addr) (n c : Nat) (l : List Int) (i : Nat) (W : World) (h : Sl W a n l) (hi : i < n) (hn : n ≤ 20) (hb : ∀ q, i + 1 + q ≤ n → 0 ≤ pr ((l.drop (i + 1)).take q) ∧ pr ((l.drop (i + 1)).take q) ≤ 9007199254740992) :
    Calls Tryz.prog 74 #[.slice a n c, .int .i64 (i : Int)] W fun x W' => x = .returned (.int .i64 (pr (l.drop (i + 1)))) ∧ W' = W := by
  obtain ⟨v, hv⟩ : ∃ v, v = pr (l.drop (i + 1)) := ⟨_, rfl⟩
  rw [← hv]
  have HV := Lib.hid hv
  have HS := Lib.hid h
  have HB := Lib.hid hb
  clear hv h hb
  go_enter Tryz.func74, Tryz.ntmps74
  go_wp2_with fail
  go_loop [5, 6] (fun s j => ∃ (k : Nat) (z : Int), j = .int .i64 ((i + 1 + k : Nat) : Int) ∧ s = .int .i64 z ∧ i + 1 + k ≤ n ∧ Hid (z = pr ((l.drop (i + 1)).take k))) (fun _ j => n - (intOf j).toNat)
  case atStart => exact ⟨0, 1, by go_num, rfl, by omega, Lib.hid (by simp [pr])⟩
  case round =>
    obtain ⟨k, z, rfl, rfl, hk, HI⟩ := hrel
    obtain ⟨p, hp⟩ : ∃ p, p = i + 1 + k := ⟨_, rfl⟩
    rw [← hp] at hk ⊢
    have HP := Lib.hid hp
    clear hp
    by_cases hlt : p < n
    · have e2 : (p : Int) < (n : Int) := by omega
      obtain ⟨b, off, rfl, hc⟩ := HS.out.2 (by omega)
      have hck := hc p hlt
      clear hc
      obtain ⟨x, hx⟩ : ∃ x, x = l.getD p 0 := ⟨_, rfl⟩
      rw [← hx] at hck
      have hst : wrap64 (z * x) = pr ((l.drop (i + 1)).take (k + 1)) := by
        have h1 := HP.out
        have h2 := HB.out (k + 1) (by omega)
        rw [pr_take (by rw [List.length_drop, HS.out.1]; omega), getD_drop, ← h1, ← hx, ← HI.out] at h2 ⊢
        exact w64 (by omega) (by omega)
      have HT := Lib.hid hst
      clear hst hx
      go_wp2_with fail
      go_round
      case rel => exact ⟨k + 1, _, by have := HP.out; go_num, rfl, by have := HP.out; omega, HT⟩
      case measure => simp [intOf]; omega
    · have e2 : ¬ (p : Int) < (n : Int) := by omega
      have he : v = z := by
        rw [HV.out, HI.out, List.take_of_length_le (by rw [List.length_drop, HS.out.1]; have := HP.out; omega)]
      subst he
      go_wp2_with fail
      go_ret
      exact ⟨rfl, rfl⟩
end
section
open Go.RowKit
theorem sum_range {l t : List Int} (hm : MayL l) {k : Nat} (hk : k < l.length) (h : inL l t (k + 1) = true) : 0 ≤ t.getD k 0 * pr (l.drop (k + 1)) ∧ t.getD k 0 * pr (l.drop (k + 1)) ≤ 4096 ∧ 0 ≤ sum l t (k + 1) ∧ sum l t (k + 1) ≤ 4096 := by
  have hr := hor_range (l := l) (t := t) (n := k + 1) (by omega) h
  have hr0 := hor_range (l := l) (t := t) (n := k) (by omega) (by simp only [inL, Bool.and_eq_true] at h; exact h.1)
  have hpr := hm.pr
  have ha := inL_at h (Nat.lt_succ_self k)
  by_cases hp : AllPos l
  · have hd := hp.drop (k + 1)
    have h1 : 0 ≤ t.getD k 0 * pr (l.drop (k + 1)) := Int.mul_nonneg ha.1 (by omega)
    have e := sum_hor (l := l) (t := t) (i := k + 1) (by omega)
    have e0 := sum_hor (l := l) (t := t) (i := k) (by omega)
    have h2 : hor l t (k + 1) * pr (l.drop (k + 1)) ≤ pr (l.take (k + 1)) * pr (l.drop (k + 1)) := Int.mul_le_mul_of_nonneg_right (by omega) (by omega)
    rw [← pr_append, List.take_append_drop] at h2
    have h3 : 0 ≤ hor l t k * pr (l.drop k) := Int.mul_nonneg hr0.1 (by have := hp.drop k; omega)
    have e2 : sum l t (k + 1) = sum l t k + t.getD k 0 * pr (l.drop (k + 1)) := rfl
    omega
  · have : ∃ j, j < l.length ∧ l.getD j 0 = 0 := by
      refine Classical.byContradiction fun hn => hp ⟨fun j hj => ?_⟩
      have := hm.nn j hj
      rcases Int.lt_or_le 0 (l.getD j 0) with h1 | h1
      · exact h1
      · exact absurd ⟨j, hj, by omega⟩ hn
    obtain ⟨j, hj, hz⟩ := this
    have hjk : k < j := by
      rcases Nat.lt_or_ge k j with h1 | h1
      · exact h1
      · have := inL_at h (show j < k + 1 by omega); omega
    have hd : pr (l.drop (k + 1)) = 0 := pr_zero_at (j := j - (k + 1)) (by rw [List.length_drop]; omega) (by rw [getD_drop, show k + 1 + (j - (k + 1)) = j by omega]; exact hz)
    rw [sum_hor (by omega), hd]
    simp
set_option maxRecDepth 10000 in
set_option maxHeartbeats 1600000 in
theorem rOffset_is (a1 a2 : Option Addr) (n c m d : Nat) (l t : List Int) (W : World) (h1 : Sl W a1 n l) (h2 : Sl W a2 m t) (hm20 : m ≤ 20) : OffIs 48 a1 a2 n c m d (ofV l t) (ofB l t) W := by
  have hmay := rSMay_is a1 n c l W h1 _ rfl
  obtain ⟨v, hv⟩ : ∃ v, v = ofV l t := ⟨_, rfl⟩
  obtain ⟨b, hb⟩ : ∃ b, b = ofB l t := ⟨_, rfl⟩
  rw [← hv, ← hb]
  have HV := Lib.hid hv
  have HB := Lib.hid hb
  have H1 := Lib.hid h1
  have H2 := Lib.hid h2
  clear hv hb h1 h2
  unfold OffIs
  by_cases he : szE l = 0
  · rw [he] at hmay
    have HM := Lib.hid (szE_may.1 he)
    have hn3 : n ≤ 3 := by have := HM.out.len; rw [H1.out.1] at this; exact this
    have K := Lib.hid hmay
    clear hmay he
    by_cases hnm : m = n
    · subst hnm
      have hlt : l.length = t.length := by rw [H1.out.1, H2.out.1]
      have HL := Lib.hid hlt
      clear hlt
      go_enter Tryz.func48, Tryz.ntmps48
      go_wp2_with fail
      refine K.out.mono ?_
      rintro x w1 ⟨rfl, rfl⟩
      go_wp2_with fail
      go_loopw [6, 7] (fun o i wr => ∃ (k : Nat) (z : Int), i = .int .i64 k ∧ o = .int .i64 z ∧ k ≤ m ∧ Hid (inL l t k = true) ∧ Hid (z = sum l t k) ∧ SDrawn W wr) (fun _ i _ => m - (intOf i).toNat)
      case atStart => exact ⟨0, 0, rfl, rfl, by omega, Lib.hid rfl, Lib.hid rfl, SDrawn.refl _⟩
      case round =>
        obtain ⟨k, z, rfl, rfl, hk, HI, HZ, HD⟩ := hrel
        have HW := Lib.hid HD
        clear HD
        by_cases hlt : k < m
        · have e2 : (k : Int) < (m : Int) := by omega
          obtain ⟨b1, o1, rfl, hc1⟩ := H1.out.2 (by omega)
          obtain ⟨b2, o2, rfl, hc2⟩ := H2.out.2 (by omega)
          have hk1 := (HW.out.cell _).trans (hc1 k hlt)
          have hk2 := (HW.out.cell _).trans (hc2 k hlt)
          clear hc1 hc2
          obtain ⟨x, hx⟩ : ∃ x, x = l.getD k 0 := ⟨_, rfl⟩
          obtain ⟨y, hy⟩ : ∃ y, y = t.getD k 0 := ⟨_, rfl⟩
          rw [← hx] at hk1
          rw [← hy] at hk2
          have HX := Lib.hid hx
          have HY := Lib.hid hy
          clear hx hy
          have hkl : k < l.length := by rw [H1.out.1]; exact hlt
          by_cases c1 : y < 0
          · obtain ⟨f1, f2⟩ := ofB_in (t := t) hkl (.inl (by rw [← HY.out]; exact c1))
            obtain rfl : b = false := HB.out.trans f1
            obtain rfl : v = 0 := HV.out.trans f2
            clear f1 f2
            go_wp2_with fail
            go_quiet (fail)
            go_wp2_with fail
            go_ret2
            exact ⟨rfl, HW.out.more _⟩
          have d1 : decide (y < 0) = false := decide_eq_false c1
          by_cases c2 : x ≤ y
          · obtain ⟨f1, f2⟩ := ofB_in (t := t) hkl (.inr (by rw [← HY.out, ← HX.out]; exact c2))
            obtain rfl : b = false := HB.out.trans f1
            obtain rfl : v = 0 := HV.out.trans f2
            clear f1 f2
            go_wp2_with fail
            go_quiet (fail)
            go_wp2_with fail
            go_ret2
            exact ⟨rfl, HW.out.more _⟩
          · have d2 : decide (x ≤ y) = false := decide_eq_false c2
            have hin : inL l t (k + 1) = true := by simp only [inL, HI.out, Bool.true_and, Bool.and_eq_true, decide_eq_true_eq]; exact ⟨by rw [← HY.out]; omega, by rw [← HX.out, ← HY.out]; omega⟩
            have hsr := sum_range HM.out hkl hin
            have e : sum l t (k + 1) = sum l t k + t.getD k 0 * pr (l.drop (k + 1)) := rfl
            have hst : wrap64 (z + wrap64 (y * pr (l.drop (k + 1)))) = sum l t (k + 1) := by
              rw [e, ← HY.out, ← HZ.out] at hsr ⊢
              rw [w64 (x := y * pr (l.drop (k + 1))) (by omega) (by omega)]
              exact w64 (by omega) (by omega)
            have KS := Lib.hid (fun w' (hd : SDrawn W w') => step_is (some ⟨b1, o1, none⟩) m c l k w' (hd.sl H1.out) hlt hm20 (fun q hq => part_le HM.out hkl (fun j hj => by have := inL_at hin (show j < k + 1 by omega); omega) (by rw [H1.out.1]; exact hq)))
            generalize pr (l.drop (k + 1)) = D at KS hst
            have HT := Lib.hid hst
            have HN := Lib.hid hin
            clear hst hsr e hin
            go_wp2_with fail
            go_quiet (fail)
            go_wp2_with fail
            have HW2 := Lib.hid (HW.out.more nq)
            have hk3 := (HW2.out.cell _).trans ((HW.out.cell _).symm.trans hk1)
            have hk4 := (HW2.out.cell _).trans ((HW.out.cell _).symm.trans hk2)
            clear hk1 hk2
            generalize wr.drewN nq = wr2 at HW2 hk3 hk4 ⊢
            go_quiet ((go_at_call 74; exact Calls.quiet_of_same (KS.out _ (HW2.out.more _))))
            go_wp2_with fail
            go_roundw
            case rel => exact ⟨k + 1, _, by go_num, rfl, by omega, HN, HT, HW2.out.more _⟩
            case measure => simp [intOf]; omega
        · have e2 : ¬ (k : Int) < (m : Int) := by omega
          obtain rfl : k = m := by omega
          have f1 : ofB l t = true := by unfold ofB; rw [szE_may.2 HM.out, ← HL.out, H1.out.1, HI.out]; simp
          have f2 : ofV l t = z := by unfold ofV; rw [if_pos f1, ← sum_all, H1.out.1, ← HZ.out]
          obtain rfl : b = true := HB.out.trans f1
          obtain rfl : v = z := HV.out.trans f2
          clear f1 f2
          go_wp2_with fail
          go_ret2
          exact ⟨rfl, HW.out⟩
    · obtain ⟨f1, f2⟩ := ofB_bad (l := l) (t := t) (.inr (by rw [H1.out.1, H2.out.1]; omega))
      obtain rfl : b = false := HB.out.trans f1
      obtain rfl : v = 0 := HV.out.trans f2
      clear f1 f2
      have e2 : (n : Int) ≠ (m : Int) := by omega
      go_enter Tryz.func48, Tryz.ntmps48
      go_wp2_with fail
      refine K.out.mono ?_
      rintro x w1 ⟨rfl, rfl⟩
      go_wp2_with fail
      go_ret2
      exact ⟨rfl, SDrawn.refl _⟩
  · obtain ⟨f1, f2⟩ := ofB_bad (l := l) (t := t) (.inl he)
    obtain rfl : b = false := HB.out.trans f1
    obtain rfl : v = 0 := HV.out.trans f2
    clear f1 f2
    rw [show (szE l == 0) = false from beq_eq_false_iff_ne.2 he] at hmay
    have K := Lib.hid hmay
    clear hmay he
    go_enter Tryz.func48, Tryz.ntmps48
    go_wp2_with fail
    refine K.out.mono ?_
    rintro x w1 ⟨rfl, rfl⟩
    go_wp2_with fail
    go_ret2
    exact ⟨rfl, SDrawn.refl _⟩
end
section
open Go.RowKit
def plTo (l : List Int) (k : Int) (q : Nat) : List Int := (List.range q).map (plc l k)
theorem plTo_succ (l : List Int) (k : Int) (q : Nat) : valsI (plTo l k q) ++ [.int .i64 (plc l k q)] = valsI (plTo l k (q + 1)) := by
  unfold plTo valsI
  rw [List.range_succ]; simp
theorem step_push {ops : Array Oper} {o : Oper} {a : Act} {K : Act → World → Prop} {Q : Exit → Act → World → Prop} {E : Prop} {w : World} (W wr : World) (s x : Operand) (av : Option Addr) (n cv : Nat) (xs : List Value) (v : Int)
    (ho : o.op = .call { callee := .builtin .append, args := #[s, x], argTypes := #[22, 22] }) (hgd : o.guard = none)
    (hs : a.eval s = .slice av n cv) (hx : a.eval x = .slice (some ⟨wr.heap.size, 0, none⟩) 1 1) (hh : w.heap = wr.heap.push (.cells #[.int .i64 v] 3)) (h1 : w.os = wr.os) (h2 : w.tape = wr.tape) (h3 : w.output = wr.output)
    (hown : wr.ownsRow W.heap.size 3 1 (.slice av n cv) n xs) (hbel : Below W.heap.size W wr) (hn : n ≤ 20)
    (h : ∀ av' cv' w', w'.ownsRow W.heap.size 3 1 (.slice av' (n + 1) cv') (n + 1) (xs ++ [.int .i64 v]) → Below W.heap.size W w' → K (a.put o.dst (.slice av' (n + 1) cv')) w') :
    if Region.wanted o (yielded ops a.tmps) = true then Oper.wp Tryz.prog o a w K Q else E := by
  obtain ⟨i0, hi, hz0, hz1, hz2⟩ := info_parts infoInt
  have hsz := hbel.size
  have hown2 : w.ownsRow W.heap.size 3 1 (.slice av n cv) n xs := by
    have h4 := hown.alloc (.cells #[.int .i64 v] 3)
    unfold World.ownsRow at h4 ⊢
    rw [hh]
    exact h4
  have hb2 : Below W.heap.size W w := by
    have h4 := hbel.alloc hsz (.cells #[.int .i64 v] 3)
    exact ⟨h1.trans hbel.os, h2.trans hbel.tape, h3.trans hbel.output, by rw [hh]; exact h4.size, fun k hk => by rw [hh]; exact h4.block k hk⟩
  refine step_append_lies w hgd s x 22 ho W.heap.size 3 i0 (.int .i64 0) 1 8 Tryz.underlying22 hi hz0 hz1 hz2 rfl (by decide) _ _ _ hs hown2 ⟨wr.heap.size, 0, none⟩ 1 1 [.int .i64 v] hx rfl ?_ ?_ (by decide) (by unfold maxLen; omega) (by omega) (by rw [hh, Array.size_push]; omega) _ rfl ?_
  · exact World.news_of_block (t := 3) (fr := (0, 0)) (cs := #[.int .i64 v]) (by rw [hh]; simp)
  · intro u hu
    rw [List.mem_singleton] at hu
    rw [hu]; rfl
  · intro g cap w' o1 o2 _ _
    exact h _ _ w' o1 (hb2.grown o2 (by rw [hh, Array.size_push]; omega) (fun q hq => (hown2.lt q hq).1))
set_option maxRecDepth 10000 in
set_option maxHeartbeats 1600000 in
theorem rPlace_yes (a : Option Addr) (n c : Nat) (l : List Int) (k : Int) (W : World) (h : Sl W a n l) (hk63 : k ≤ 9223372036854775807) (he : szE l = 0) (h0 : 0 ≤ k) (h1 : k < pr l) : PlIs 47 a n c k true (plL l k) W := by
  have hsz := rSize_is a n c l W h
  unfold SizeIs at hsz
  rw [szV_pr he, he] at hsz
  have HM := Lib.hid (szE_may.1 he)
  have HA := Lib.hid (HM.out.pos (by omega))
  have HS := Lib.hid h
  have hn3 : n ≤ 3 := by have := HM.out.len; rw [HS.out.1] at this; exact this
  obtain ⟨S, hS⟩ : ∃ S, S = pr l := ⟨_, rfl⟩
  rw [← hS] at hsz h1
  have K := Lib.hid hsz
  have HZ := Lib.hid hS
  have hpr : S ≤ 4096 := by rw [hS]; exact HM.out.pr
  have c1 : ¬ k < 0 := by omega
  have c2 : ¬ S ≤ k := by omega
  clear hsz hS he h
  unfold PlIs
  go_enter Tryz.func47, Tryz.ntmps47
  go_wp2_with fail
  refine K.out.mono ?_
  rintro x w1 ⟨rfl, rfl⟩
  go_wp2_with fail
  obtain ⟨i0, hi, hz0, hz1, hz2⟩ := info_parts infoInt
  go_loopw [8, 9] (fun v i wr => ∃ (q : Nat), i = .int .i64 q ∧ q ≤ n ∧ wr.ownsRow W.heap.size 3 1 v q (valsI (plTo l k q)) ∧ Below W.heap.size W wr) (fun _ i _ => n - (intOf i).toNat)
  case atStart => exact ⟨0, rfl, by omega, World.ownsRow_nil _ _ _ _, Below.refl _ _⟩
  case round =>
    obtain ⟨q, rfl, hq, hown, hbel⟩ := hrel
    obtain ⟨av, cv, rfl⟩ := owns_form hown
    by_cases hlt : q < n
    · have e2 : (q : Int) < (n : Int) := by omega
      obtain ⟨b, off, rfl, hc⟩ := HS.out.2 (by omega)
      have hck := (hbel.cell (p := ⟨b, off + q, none⟩) (World.block_lt_of_cell? W _ (hc q (by omega)))).trans (hc q (by omega))
      have hsl := HS.out.below hbel
      have hql : q < l.length := by rw [HS.out.1]; exact hlt
      have hst := fun w' (hw' : Sl w' (some ⟨b, off, none⟩) n l) => step_is (some ⟨b, off, none⟩) n c l q w' hw' hlt (by omega) (fun j hj => part_le HM.out hql (fun i hi => HA.out.pos i (by omega)) (by rw [HS.out.1]; exact hj))
      have hD := HA.out.drop (q + 1)
      have hDle := HA.out.drop_le (q + 1)
      rw [← HZ.out] at hDle
      obtain ⟨x, hx⟩ : ∃ x, x = l.getD q 0 := ⟨_, rfl⟩
      rw [← hx] at hck
      have hxp : 0 < x := by rw [hx]; exact HA.out.pos q hql
      have hpl : plc l k q = k / pr (l.drop (q + 1)) % x := by rw [hx]; rfl
      generalize pr (l.drop (q + 1)) = D at hst hD hDle hpl
      have hx0 : x ≠ 0 := by omega
      have hD0 : D ≠ 0 := by omega
      have hkd : 0 ≤ k / D := Int.ediv_nonneg h0 (by omega)
      have hkl : k / D ≤ k := Int.ediv_le_self _ h0
      have hdv : IntKind.i64.wrap (k.tdiv D) = k / D := by
        rw [Int.tdiv_eq_ediv_of_nonneg h0]
        exact IntWalk.i64_in _ (by omega)
      obtain ⟨pv, hpv⟩ : ∃ pv, pv = plc l k q := ⟨_, rfl⟩
      have hmd : (k / D).tmod x = pv := by rw [Int.tmod_eq_emod_of_nonneg hkd, hpv, hpl]
      have HV := Lib.hid hpv
      clear hkl hkd hpv
      have HT := Lib.hid hst
      have HP := Lib.hid hpl
      have HX := Lib.hid hx
      have HO := Lib.hid hown
      have HN : Hid (q ≤ 20) := Lib.hid (by omega)
      have HB := Lib.hid hbel
      have HL := Lib.hid hsl
      clear hst hpl hx hc hown hbel hsl
      go_wp2_with fail
      go_region_law (first | (go_simp; go_at_call 74; refine (HT.out _ (by exact HL.out)).mono ?_; rintro e w2 ⟨rfl, rfl⟩) | (refine step_push W wr (.tmp 32) (.tmp 43) av q cv (valsI (plTo l k q)) _ rfl rfl rfl rfl rfl rfl rfl rfl HO.out HB.out HN.out ?_; intro av' cv' w3 hown3 hbel3))
      all_goals
        go_wp2_with fail
        go_roundw
        case rel => exact ⟨q + 1, by go_num, by omega, by rw [← plTo_succ, ← HV.out]; exact hown3, hbel3⟩
        case measure => simp [intOf]; omega
    · have e2 : ¬ (q : Int) < (n : Int) := by omega
      obtain rfl : q = n := by omega
      have hsl : ∃ a c, Value.slice av q cv = .slice a q c ∧ Sl wr a q (plL l k) := by
        have := owns_sl hown
        unfold plL
        rw [HS.out.1]
        exact this
      obtain ⟨av', cv', e, hsl⟩ := hsl
      injection e with e1 _ e3
      subst e1 e3
      have HL := Lib.hid hsl
      have HB := Lib.hid hbel
      clear hsl hown hbel
      go_wp2_with fail
      go_ret2
      exact ⟨_, _, _, rfl, HL.out, by omega, HB.out⟩
set_option maxRecDepth 10000 in
theorem rPlace_no (a : Option Addr) (n c : Nat) (l : List Int) (k : Int) (W : World) (h : Sl W a n l) (hno : szE l ≠ 0 ∨ k < 0 ∨ pr l ≤ k) : PlIs 47 a n c k false [] W := by
  have hsz := rSize_is a n c l W h
  unfold SizeIs at hsz
  unfold PlIs
  by_cases he : szE l = 0
  · rw [szV_pr he, he] at hsz
    generalize pr l = S at hsz hno
    have K := Lib.hid hsz
    clear hsz
    by_cases c1 : k < 0
    · clear hno
      go_enter Tryz.func47, Tryz.ntmps47
      go_wp2_with fail
      refine K.out.mono ?_
      rintro x w1 ⟨rfl, rfl⟩
      go_wp2_with fail
      go_ret2
      exact ⟨none, 0, 0, rfl, Sl.nil _ _, by omega, Below.refl _ _⟩
    · have c2 : S ≤ k := by rcases hno with h | h | h <;> first | exact absurd he h | exact absurd h c1 | exact h
      clear hno
      go_enter Tryz.func47, Tryz.ntmps47
      go_wp2_with fail
      refine K.out.mono ?_
      rintro x w1 ⟨rfl, rfl⟩
      go_wp2_with fail
      go_ret2
      exact ⟨none, 0, 0, rfl, Sl.nil _ _, by omega, Below.refl _ _⟩
  · rw [szV_zero he] at hsz
    clear hno
    generalize szE l = E at hsz he
    have K := Lib.hid hsz
    clear hsz
    go_enter Tryz.func47, Tryz.ntmps47
    go_wp2_with fail
    refine K.out.mono ?_
    rintro x w1 ⟨rfl, rfl⟩
    go_wp2_with fail
    go_ret2
    exact ⟨none, 0, 0, rfl, Sl.nil _ _, by omega, Below.refl _ _⟩
theorem rPlace_is (a : Option Addr) (n c : Nat) (l : List Int) (k : Int) (W : World) (h : Sl W a n l) (hk63 : k ≤ 9223372036854775807) : PlIs 47 a n c k (plB l k) (plO l k) W := by
  by_cases hno : szE l ≠ 0 ∨ k < 0 ∨ pr l ≤ k
  · rw [(plB_no hno).1, (plB_no hno).2]; exact rPlace_no a n c l k W h hno
  · have he : szE l = 0 := Classical.byContradiction fun h => hno (.inl h)
    have h0 : 0 ≤ k := by rcases Int.lt_or_le k 0 with h | h; exact absurd (.inr (.inl h)) hno; exact h
    have h1 : k < pr l := by rcases Int.lt_or_le k (pr l) with h | h; exact h; exact absurd (.inr (.inr h)) hno
    rw [(plB_yes he h0 h1).1, (plB_yes he h0 h1).2]; exact rPlace_yes a n c l k W h hk63 he h0 h1
end
section
open Go.RowKit
set_option maxRecDepth 10000 in
theorem rItems_is (a : Option Addr) (n c : Nat) (l : List Int) (W : World) (h : Sl W a n l) (hn : n ≤ 20) (hc : n ≤ c) (hc2 : c ≤ maxLen) :
    Calls Tryz.prog 37 #[.slice a n c] W (ItPost (itV l) l.tail W) := by
  unfold maxLen at hc2
  by_cases h0 : n = 0
  · subst h0
    obtain rfl := List.length_eq_zero_iff.1 h.1
    have HS := Lib.hid h
    clear h
    rw [show itV [] = 1 from rfl, List.tail_nil]
    go_enter Tryz.func37, Tryz.ntmps37
    go_wp2_with fail
    go_ret2
    exact ⟨none, 0, 0, rfl, Sl.nil _ _, by omega, Below.refl _ _⟩
  · obtain ⟨b, off, rfl, hcell⟩ := h.2 (by omega)
    have HT := Lib.hid (h.tail (by omega))
    have hv : itV l = l.getD 0 0 := if_neg (by rw [h.1]; exact h0)
    rw [hv]
    have hc0 := hcell 0 (by omega)
    rw [Nat.add_zero] at hc0
    generalize l.getD 0 0 = v at hc0 ⊢
    clear hv hcell h
    have e1 : (n : Int) ≠ 0 := by omega
    have e2 : (0 : Int) < n := by omega
    by_cases h1 : c = 1
    · subst h1
      obtain rfl : n = 1 := by omega
      have HT0 : Hid (∀ w a, Sl w a (1 - 1) l.tail) := Lib.hid fun w a => ⟨HT.out.1, fun h => by omega⟩
      go_enter Tryz.func37, Tryz.ntmps37
      go_wp2_with fail
      go_quiet (fail)
      go_wp2_with fail
      go_ret2
      exact ⟨_, 1 - 1, _, rfl, HT0.out _ _, by omega, SDrawn.below ⟨_, rfl⟩⟩
    · go_enter Tryz.func37, Tryz.ntmps37
      go_wp2_with fail
      go_quiet (fail)
      go_wp2_with fail
      go_ret2
      exact ⟨_, n - 1, _, rfl, HT.out, by omega, SDrawn.below ⟨_, rfl⟩⟩
end
end Go.Proofs.YtjpjccilnmlmnaaGreatDoor

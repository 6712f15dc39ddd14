import Derived.Test.YtfgjfncmldnlcaaHl
import Derived.Deep.RegionLaw
import Derived.Deep.AppendLies
namespace Go.Proofs.Ytfgjfncmldnlcaa
open Go.RowKit

/-! ### The document's Place -/
def valsI (l : List Int) : List Value := l.map (Value.int .i64)
def plTo (l : List Int) (k : Int) (q : Nat) : List Int := (List.range q).map (plc l k)
theorem plTo_succ (l : List Int) (k : Int) (q : Nat) : valsI (plTo l k q) ++ [.int .i64 (plc l k q)] = valsI (plTo l k (q + 1)) := by
  unfold plTo valsI
  rw [List.range_succ]; simp
theorem owns_sl {w : World} {base n : Nat} {v : Value} {l : List Int} (h : w.ownsRow base 3 1 v n (valsI l)) : ∃ a c, v = .slice a n c ∧ Sl w a n l := by
  obtain ⟨hl, h⟩ := h
  unfold valsI at hl h
  rw [List.length_map, Nat.mul_one] at hl
  rcases h with ⟨rfl, rfl⟩ | ⟨g, cap, cur, rfl, _, hg, _, _, _, ht⟩
  · exact ⟨none, 0, rfl, hl, fun h => by omega⟩
  · refine ⟨_, cap, rfl, hl, fun _ => ⟨g, 0, rfl, fun j hj => ?_⟩⟩
    rw [Nat.mul_one] at ht
    rw [Nat.zero_add, cell_of_row w g j cur _ _ hg, ← Array.getElem?_toList]
    have e : cur.toList[j]? = (cur.toList.take n)[j]? := by rw [List.getElem?_take_of_lt hj]
    rw [e, ht, List.getElem?_map, List.getElem?_eq_getElem (by omega)]
    simp [List.getElem?_eq_getElem (show j < l.length by omega)]
theorem owns_form {w : World} {base n : Nat} {v : Value} {xs : List Value} (h : w.ownsRow base 3 1 v n xs) : ∃ a c, v = .slice a n c := by
  rcases h.2 with ⟨rfl, rfl⟩ | ⟨g, cap, _, rfl, _⟩
  · exact ⟨_, _, rfl⟩
  · exact ⟨_, _, rfl⟩
/-- 'append(l, v)', v in a new block, l the call's own, as one step of a region that draws. -/
theorem step_push {ops : Array Oper} {o : Oper} {a : Act} {K : Act → World → Prop} {Q : Exit → Act → World → Prop} {E : Prop} {w : World} (W wr : World) (s x : Operand) (av : Option Addr) (n cv : Nat) (xs : List Value) (v : Int)
    (ho : o.op = .call { callee := .builtin .append, args := #[s, x], argTypes := #[22, 22] }) (hgd : o.guard = none)
    (hs : a.eval s = .slice av n cv) (hx : a.eval x = .slice (some ⟨wr.heap.size, 0, none⟩) 1 1) (hh : w.heap = wr.heap.push (.cells #[.int .i64 v] 3)) (h1 : w.os = wr.os) (h2 : w.tape = wr.tape) (h3 : w.output = wr.output)
    (hown : wr.ownsRow W.heap.size 3 1 (.slice av n cv) n xs) (hbel : Below W.heap.size W wr) (hn : n ≤ 20)
    (h : ∀ av' cv' w', w'.ownsRow W.heap.size 3 1 (.slice av' (n + 1) cv') (n + 1) (xs ++ [.int .i64 v]) → Below W.heap.size W w' → K (a.put o.dst (.slice av' (n + 1) cv')) w') :
    if Region.wanted o (yielded ops a.tmps) = true then Oper.wp Try.prog o a w K Q else E := by
  obtain ⟨i0, hi, hz0, hz1, hz2⟩ := info_parts infoInt
  have hsz := hbel.size
  have hown2 : w.ownsRow W.heap.size 3 1 (.slice av n cv) n xs := by
    have h4 := hown.alloc (.cells #[.int .i64 v] 3)
    unfold World.ownsRow at h4 ⊢
    rw [hh]
    exact h4
  have hb2 : Below W.heap.size W w := by
    have h4 := hbel.alloc hsz (.cells #[.int .i64 v] 3)
    exact ⟨h1.trans hbel.os, h2.trans hbel.tape, h3.trans hbel.output, by rw [hh]; exact h4.size, fun k hk => by rw [hh]; exact h4.block k hk⟩
  refine step_append_lies w hgd s x 22 ho W.heap.size 3 i0 (.int .i64 0) 1 8 Try.underlying22 hi hz0 hz1 hz2 rfl (by decide) _ _ _ hs hown2 ⟨wr.heap.size, 0, none⟩ 1 1 [.int .i64 v] hx rfl ?_ ?_ (by decide) (by unfold maxLen; omega) (by omega) (by rw [hh, Array.size_push]; omega) _ rfl ?_
  · exact World.news_of_block (t := 3) (fr := (0, 0)) (cs := #[.int .i64 v]) (by rw [hh]; simp)
  · intro u hu
    rw [List.mem_singleton] at hu
    rw [hu]; rfl
  · intro g cap w' o1 o2 _ _
    exact h _ _ w' o1 (hb2.grown o2 (by rw [hh, Array.size_push]; omega) (fun q hq => (hown2.lt q hq).1))
set_option maxRecDepth 10000 in
set_option maxHeartbeats 1600000 in
theorem rPlace_yes (a : Option Addr) (n c : Nat) (l : List Int) (k : Int) (W : World) (h : Sl W a n l) (hk63 : k ≤ 9223372036854775807) (he : szE l = 0) (h0 : 0 ≤ k) (h1 : k < pr l) : PlIs 15 a n c k true (plL l k) W := by
  have hsz := rSize_is a n c l W h
  unfold SizeIs at hsz
  rw [szV_pr he, he] at hsz
  have HM := Lib.hid (szE_may.1 he)
  have HA := Lib.hid (HM.out.pos (by omega))
  have HS := Lib.hid h
  have hn3 : n ≤ 3 := by have := HM.out.len; rw [HS.out.1] at this; exact this
  obtain ⟨S, hS⟩ : ∃ S, S = pr l := ⟨_, rfl⟩
  rw [← hS] at hsz h1
  have K := Lib.hid hsz
  have HZ := Lib.hid hS
  have hpr : S ≤ 4096 := by rw [hS]; exact HM.out.pr
  have c1 : ¬ k < 0 := by omega
  have c2 : ¬ S ≤ k := by omega
  clear hsz hS he h
  unfold PlIs
  go_enter Try.func15, Try.ntmps15
  go_wp2_with fail
  refine K.out.mono ?_
  rintro x w1 ⟨rfl, rfl⟩
  go_wp2_with fail
  obtain ⟨i0, hi, hz0, hz1, hz2⟩ := info_parts infoInt
  go_loopw [8, 9] (fun v i wr => ∃ (q : Nat), i = .int .i64 q ∧ q ≤ n ∧ wr.ownsRow W.heap.size 3 1 v q (valsI (plTo l k q)) ∧ Below W.heap.size W wr) (fun _ i _ => n - (intOf i).toNat)
  case atStart => exact ⟨0, rfl, by omega, World.ownsRow_nil _ _ _ _, Below.refl _ _⟩
  case round =>
    obtain ⟨q, rfl, hq, hown, hbel⟩ := hrel
    obtain ⟨av, cv, rfl⟩ := owns_form hown
    by_cases hlt : q < n
    · have e2 : (q : Int) < (n : Int) := by omega
      obtain ⟨b, off, rfl, hc⟩ := HS.out.2 (by omega)
      have hck := (hbel.cell (p := ⟨b, off + q, none⟩) (World.block_lt_of_cell? W _ (hc q (by omega)))).trans (hc q (by omega))
      have hsl := HS.out.below hbel
      have hql : q < l.length := by rw [HS.out.1]; exact hlt
      have hst := fun w' (hw' : Sl w' (some ⟨b, off, none⟩) n l) => step_is (some ⟨b, off, none⟩) n c l q w' hw' hlt (by omega) (fun j hj => part_le HM.out hql (fun i hi => HA.out.pos i (by omega)) (by rw [HS.out.1]; exact hj))
      have hD := HA.out.drop (q + 1)
      have hDle := HA.out.drop_le (q + 1)
      rw [← HZ.out] at hDle
      obtain ⟨x, hx⟩ : ∃ x, x = l.getD q 0 := ⟨_, rfl⟩
      rw [← hx] at hck
      have hxp : 0 < x := by rw [hx]; exact HA.out.pos q hql
      have hpl : plc l k q = k / pr (l.drop (q + 1)) % x := by rw [hx]; rfl
      generalize pr (l.drop (q + 1)) = D at hst hD hDle hpl
      have hx0 : x ≠ 0 := by omega
      have hD0 : D ≠ 0 := by omega
      have hkd : 0 ≤ k / D := Int.ediv_nonneg h0 (by omega)
      have hkl : k / D ≤ k := Int.ediv_le_self _ h0
      have hdv : IntKind.i64.wrap (k.tdiv D) = k / D := by
        rw [Int.tdiv_eq_ediv_of_nonneg h0]
        exact IntWalk.i64_in _ (by omega)
      obtain ⟨pv, hpv⟩ : ∃ pv, pv = plc l k q := ⟨_, rfl⟩
      have hmd : (k / D).tmod x = pv := by rw [Int.tmod_eq_emod_of_nonneg hkd, hpv, hpl]
      have HV := Lib.hid hpv
      clear hkl hkd hpv
      have HT := Lib.hid hst
      have HP := Lib.hid hpl
      have HX := Lib.hid hx
      have HO := Lib.hid hown
      have HN : Hid (q ≤ 20) := Lib.hid (by omega)
      have HB := Lib.hid hbel
      have HL := Lib.hid hsl
      clear hst hpl hx hc hown hbel hsl
      go_wp2_with fail
      go_region_law (first | (go_simp; go_at_call 24; refine (HT.out _ (by exact HL.out)).mono ?_; rintro e w2 ⟨rfl, rfl⟩) | (refine step_push W wr (.tmp 32) (.tmp 43) av q cv (valsI (plTo l k q)) _ rfl rfl rfl rfl rfl rfl rfl rfl HO.out HB.out HN.out ?_; intro av' cv' w3 hown3 hbel3))
      all_goals
        go_wp2_with fail
        go_roundw
        case rel => exact ⟨q + 1, by go_num, by omega, by rw [← plTo_succ, ← HV.out]; exact hown3, hbel3⟩
        case measure => simp [intOf]; omega
    · have e2 : ¬ (q : Int) < (n : Int) := by omega
      obtain rfl : q = n := by omega
      have hsl : ∃ a c, Value.slice av q cv = .slice a q c ∧ Sl wr a q (plL l k) := by
        have := owns_sl hown
        unfold plL
        rw [HS.out.1]
        exact this
      obtain ⟨av', cv', e, hsl⟩ := hsl
      injection e with e1 _ e3
      subst e1 e3
      have HL := Lib.hid hsl
      have HB := Lib.hid hbel
      clear hsl hown hbel
      go_wp2_with fail
      go_ret2
      exact ⟨_, _, _, rfl, HL.out, by omega, HB.out⟩
set_option maxRecDepth 10000 in
theorem rPlace_no (a : Option Addr) (n c : Nat) (l : List Int) (k : Int) (W : World) (h : Sl W a n l) (hno : szE l ≠ 0 ∨ k < 0 ∨ pr l ≤ k) : PlIs 15 a n c k false [] W := by
  have hsz := rSize_is a n c l W h
  unfold SizeIs at hsz
  unfold PlIs
  by_cases he : szE l = 0
  · rw [szV_pr he, he] at hsz
    generalize pr l = S at hsz hno
    have K := Lib.hid hsz
    clear hsz
    by_cases c1 : k < 0
    · clear hno
      go_enter Try.func15, Try.ntmps15
      go_wp2_with fail
      refine K.out.mono ?_
      rintro x w1 ⟨rfl, rfl⟩
      go_wp2_with fail
      go_ret2
      exact ⟨none, 0, 0, rfl, Sl.nil _ _, by omega, Below.refl _ _⟩
    · have c2 : S ≤ k := by rcases hno with h | h | h <;> first | exact absurd he h | exact absurd h c1 | exact h
      clear hno
      go_enter Try.func15, Try.ntmps15
      go_wp2_with fail
      refine K.out.mono ?_
      rintro x w1 ⟨rfl, rfl⟩
      go_wp2_with fail
      go_ret2
      exact ⟨none, 0, 0, rfl, Sl.nil _ _, by omega, Below.refl _ _⟩
  · rw [szV_zero he] at hsz
    clear hno
    generalize szE l = E at hsz he
    have K := Lib.hid hsz
    clear hsz
    go_enter Try.func15, Try.ntmps15
    go_wp2_with fail
    refine K.out.mono ?_
    rintro x w1 ⟨rfl, rfl⟩
    go_wp2_with fail
    go_ret2
    exact ⟨none, 0, 0, rfl, Sl.nil _ _, by omega, Below.refl _ _⟩
theorem rPlace_is (a : Option Addr) (n c : Nat) (l : List Int) (k : Int) (W : World) (h : Sl W a n l) (hk63 : k ≤ 9223372036854775807) : PlIs 15 a n c k (plB l k) (plO l k) W := by
  by_cases hno : szE l ≠ 0 ∨ k < 0 ∨ pr l ≤ k
  · rw [(plB_no hno).1, (plB_no hno).2]; exact rPlace_no a n c l k W h hno
  · have he : szE l = 0 := Classical.byContradiction fun h => hno (.inl h)
    have h0 : 0 ≤ k := by rcases Int.lt_or_le k 0 with h | h; exact absurd (.inr (.inl h)) hno; exact h
    have h1 : k < pr l := by rcases Int.lt_or_le k (pr l) with h | h; exact h; exact absurd (.inr (.inr h)) hno
    rw [(plB_yes he h0 h1).1, (plB_yes he h0 h1).2]; exact rPlace_yes a n c l k W h hk63 he h0 h1
end Go.Proofs.Ytfgjfncmldnlcaa

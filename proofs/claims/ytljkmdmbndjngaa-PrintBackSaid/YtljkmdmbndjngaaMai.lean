import Derived.Test.YtljkmdmbndjngaaMah
import Derived.Test.YtljkmdmbndjngaaMab
/-
  Whether a node may be: plainly, and of the program, at every node.
-/
namespace Go.Proofs.Ytljkmdmbndjngaa
set_option linter.unusedVariables false
set_option linter.unusedSimpArgs false
open Go.RowKit

def emp (s : ByteArray) : Bool := s.toList.isEmpty
/-- May a node be? -/
noncomputable def okN (d : Nd) : Bool :=
  if d.k = 1 then numsB d.ns && (emp d.v && (emp d.a && emp d.x))
  else if 0 < d.ns.length then false
  else if d.k = 3 then emp d.x && (verbB d.v && advB d.a [39, 47, 92, 96])
  else if d.k = 4 then emp d.x && (verbB d.v && advB d.a [39, 46])
  else if !(emp d.v && emp d.a) then false
  else if d.k = 2 ∨ d.k = 5 ∨ d.k = 6 then prt d.x 2
  else if d.k = 7 then prt d.x 3
  else if d.k = 8 then emp d.x
  else false
theorem dec_emp (s : ByteArray) : decide (s.toList = (⟨#[]⟩ : ByteArray).toList) = emp s := by
  unfold emp
  rw [show (⟨#[]⟩ : ByteArray).toList = [] from by rw [str_tl]]
  cases s.toList <;> simp
theorem dec_nil (l : List ByteArray) : decide (l = []) = !decide (0 < l.length) := by
  cases l <;> simp
theorem dec_self {α : Type} [DecidableEq α] (a : α) : decide (a = a) = true := decide_eq_true rfl
theorem mayBe_is (d : Nd) (W : World) (hd : d.on W) : Calls Try.prog 18 #[d.val] W (ValEnd (.bool (okN d)) W) := by
  obtain ⟨k, v, a, x, g, m, c, ns⟩ := d
  show Calls _ _ #[.agg #[.int .i64 k, .string v, .string a, .string x, .slice g m c]] W _
  by_cases h : k < 1 ∨ 8 < k
  · rw [show okN ⟨k, v, a, x, g, m, c, ns⟩ = false by
      unfold okN
      simp only
      rw [if_neg (by omega), if_neg (show ¬ k = 3 by omega), if_neg (show ¬ k = 4 by omega), if_neg (show ¬ (k = 2 ∨ k = 5 ∨ k = 6) by omega), if_neg (show ¬ k = 7 by omega), if_neg (show ¬ k = 8 by omega)]
      repeat' split
      all_goals rfl]
    exact mayBe_none k v a x g m c W h
  have hk : k = 1 ∨ k = 2 ∨ k = 3 ∨ k = 4 ∨ k = 5 ∨ k = 6 ∨ k = 7 ∨ k = 8 := by omega
  clear h
  rcases hk with rfl | rfl | rfl | rfl | rfl | rfl | rfl | rfl
  · have e : (numsB ns && smN ⟨1, v, a, x, g, m, c, ns⟩ ⟨1, ⟨#[]⟩, ⟨#[]⟩, ⟨#[]⟩, g, m, c, ns⟩) = okN ⟨1, v, a, x, g, m, c, ns⟩ := by
      unfold okN smN
      simp only [dec_emp, dec_self, dec_nil]
      generalize emp v = p1
      generalize emp a = p2
      generalize emp x = p3
      generalize numsB ns = p4
      by_cases hl : 0 < ns.length <;> cases p1 <;> cases p2 <;> cases p3 <;> simp [hl]
    rw [← e]
    exact mayBe_lit v a x g m c ns W hd
  · have e : (prt x 2 && smN ⟨2, v, a, x, g, m, c, ns⟩ ⟨2, ⟨#[]⟩, ⟨#[]⟩, x, none, 0, 0, []⟩) = okN ⟨2, v, a, x, g, m, c, ns⟩ := by
      unfold okN smN
      simp only [dec_emp, dec_self, dec_nil]
      generalize emp v = p1
      generalize emp a = p2
      generalize emp x = p3
      generalize prt x _ = p6
      by_cases hl : 0 < ns.length <;> cases p1 <;> cases p2 <;> cases p3 <;> simp [hl]
    rw [← e]
    exact mayBe_name v a x g m c ns W hd
  · have e : ((verbB v && advB a [39, 47, 92, 96]) && smN ⟨3, v, a, x, g, m, c, ns⟩ ⟨3, v, a, ⟨#[]⟩, none, 0, 0, []⟩) = okN ⟨3, v, a, x, g, m, c, ns⟩ := by
      unfold okN smN
      simp only [dec_emp, dec_self, dec_nil]
      generalize emp v = p1
      generalize emp a = p2
      generalize emp x = p3
      generalize verbB v = p4
      generalize advB a _ = p5
      by_cases hl : 0 < ns.length <;> cases p1 <;> cases p2 <;> cases p3 <;> simp [hl]
    rw [← e]
    exact mayBe_monad v a x g m c ns W hd
  · have e : ((verbB v && advB a [39, 46]) && smN ⟨4, v, a, x, g, m, c, ns⟩ ⟨4, v, a, ⟨#[]⟩, none, 0, 0, []⟩) = okN ⟨4, v, a, x, g, m, c, ns⟩ := by
      unfold okN smN
      simp only [dec_emp, dec_self, dec_nil]
      generalize emp v = p1
      generalize emp a = p2
      generalize emp x = p3
      generalize verbB v = p4
      generalize advB a _ = p5
      by_cases hl : 0 < ns.length <;> cases p1 <;> cases p2 <;> cases p3 <;> simp [hl]
    rw [← e]
    exact mayBe_dyad v a x g m c ns W hd
  · have e : (prt x 2 && smN ⟨5, v, a, x, g, m, c, ns⟩ ⟨5, ⟨#[]⟩, ⟨#[]⟩, x, none, 0, 0, []⟩) = okN ⟨5, v, a, x, g, m, c, ns⟩ := by
      unfold okN smN
      simp only [dec_emp, dec_self, dec_nil]
      generalize emp v = p1
      generalize emp a = p2
      generalize emp x = p3
      generalize prt x _ = p6
      by_cases hl : 0 < ns.length <;> cases p1 <;> cases p2 <;> cases p3 <;> simp [hl]
    rw [← e]
    exact mayBe_assign v a x g m c ns W hd
  · have e : (prt x 2 && smN ⟨6, v, a, x, g, m, c, ns⟩ ⟨6, ⟨#[]⟩, ⟨#[]⟩, x, none, 0, 0, []⟩) = okN ⟨6, v, a, x, g, m, c, ns⟩ := by
      unfold okN smN
      simp only [dec_emp, dec_self, dec_nil]
      generalize emp v = p1
      generalize emp a = p2
      generalize emp x = p3
      generalize prt x _ = p6
      by_cases hl : 0 < ns.length <;> cases p1 <;> cases p2 <;> cases p3 <;> simp [hl]
    rw [← e]
    exact mayBe_amend v a x g m c ns W hd
  · have e : (prt x 3 && smN ⟨7, v, a, x, g, m, c, ns⟩ ⟨7, ⟨#[]⟩, ⟨#[]⟩, x, none, 0, 0, []⟩) = okN ⟨7, v, a, x, g, m, c, ns⟩ := by
      unfold okN smN
      simp only [dec_emp, dec_self, dec_nil]
      generalize emp v = p1
      generalize emp a = p2
      generalize emp x = p3
      generalize prt x _ = p6
      by_cases hl : 0 < ns.length <;> cases p1 <;> cases p2 <;> cases p3 <;> simp [hl]
    rw [← e]
    exact mayBe_define v a x g m c ns W hd
  · have e : (true && smN ⟨8, v, a, x, g, m, c, ns⟩ ⟨8, ⟨#[]⟩, ⟨#[]⟩, ⟨#[]⟩, none, 0, 0, []⟩) = okN ⟨8, v, a, x, g, m, c, ns⟩ := by
      unfold okN smN
      simp only [dec_emp, dec_self, dec_nil]
      generalize emp v = p1
      generalize emp a = p2
      generalize emp x = p3
      by_cases hl : 0 < ns.length <;> cases p1 <;> cases p2 <;> cases p3 <;> simp [hl]
    rw [← e]
    exact mayBe_index v a x g m c ns W hd
end Go.Proofs.Ytljkmdmbndjngaa
/-
  Whether a node may be: of the reference.
-/
namespace Go.Proofs.Ytljkmdmbndjngaa
set_option linter.unusedVariables false
set_option linter.unusedSimpArgs false
open Go.RowKit

theorem okN_lit (v a x : ByteArray) (g : Option Addr) (m c : Nat) (ns : List ByteArray) : okN ⟨1, v, a, x, g, m, c, ns⟩ = (numsB ns && (emp v && (emp a && emp x))) := by
  unfold okN
  simp only [if_true]
end Go.Proofs.Ytljkmdmbndjngaa
/-
  Whether a list is a tree that may be: plainly, of the program, and of the reference.
-/
namespace Go.Proofs.Ytljkmdmbndjngaa
set_option linter.unusedVariables false
set_option linter.unusedSimpArgs false
open Go.RowKit

def hdN (k : Int) : Bool := decide (5 ≤ k) && decide (k ≤ 7)
def mayP (f : Nat → Nd) (n : Nat) : Prop := ∃ d, Fd (ksF f n) 0 1 n d ∧ d ≤ 40 ∧ ∀ i, i < n → okN (f i) = true ∧ (0 < i → hdN (f i).k = false)
open Classical in
noncomputable def mayB (f : Nat → Nd) (n : Nat) : Bool := decide (mayP f n)
open Classical in
theorem mayB_yes {f : Nat → Nd} {n : Nat} : mayB f n = true ↔ mayP f n := by
  unfold mayB
  exact decide_eq_true_iff
open Classical in
theorem mayB_no {f : Nat → Nd} {n : Nat} (h : ¬ mayP f n) : mayB f n = false := by
  unfold mayB
  exact decide_eq_false h
theorem head_is (k : Int) (v a x : ByteArray) (g : Option Addr) (m c : Nat) (W : World) : Calls Try.prog 19 #[.agg #[.int .i64 k, .string v, .string a, .string x, .slice g m c]] W (ValEnd (.bool (hdN k)) W) := by
  have hb0 := box_below W (.cells #[.int .i64 k, .string v, .string a, .string x, .slice g m c] 36)
  have hA := Bd.new W k v a x g m c
  have a0 := hA.c0
  have HB := Lib.hid hb0
  clear hb0 hA
  unfold hdN
  by_cases h : 5 ≤ k ∧ k ≤ 7
  · rw [decide_eq_true h.1, decide_eq_true h.2]
    have hk : k = 5 ∨ k = 6 ∨ k = 7 := by omega
    clear h
    rcases hk with rfl | rfl | rfl
    all_goals
      go_enter Try.func19, Try.ntmps19
      go_wp2_with fail
      go_ret
      exact ⟨rfl, HB.out⟩
  · rw [show (decide (5 ≤ k) && decide (k ≤ 7)) = false by
      by_cases h5 : 5 ≤ k
      · rw [decide_eq_false (show ¬ k ≤ 7 by omega), Bool.and_false]
      · rw [decide_eq_false h5, Bool.false_and]]
    have e5 : (k == 5) = false := beq_eq_false_iff_ne.2 (by omega)
    have e6 : (k == 6) = false := beq_eq_false_iff_ne.2 (by omega)
    have e7 : (k == 7) = false := beq_eq_false_iff_ne.2 (by omega)
    clear h
    go_enter Try.func19, Try.ntmps19
    go_wp2_with fail
    go_ret
    exact ⟨rfl, HB.out⟩
theorem may_none {f : Nat → Nd} {n : Nat} (h : eN (ksF f n) 1 0 = none) : mayB f n = false := mayB_no fun ⟨d, hd, _⟩ => by rw [hd.ends] at h; cases h
theorem may_short {f : Nat → Nd} {n e : Nat} (h : eN (ksF f n) 1 0 = some e) (he : e ≠ n) : mayB f n = false := mayB_no fun ⟨d, hd, _⟩ => by
  rw [hd.ends] at h
  injection h with h
  exact he h.symm
theorem may_deep {f : Nat → Nd} {n d : Nat} (h : Fd (ksF f n) 0 1 n d) (hd : 40 < d) : mayB f n = false := mayB_no fun ⟨d', hd', h2, _⟩ => by
  have := (h.det hd').2
  omega
set_option maxHeartbeats 3200000 in
theorem TMay_is (a : Option Addr) (n c : Nat) (f : Nat → Nd) (W : World) (h : Nq W a n f) (hnc : n ≤ c) (hc : c ≤ maxLen) (hn : n ≤ 1000000) :
    Calls Try.prog 10 #[.slice a n c] W (ValEnd (.bool (mayB f n)) W) := by
  have KE := End_in a n c f 0 W h hn (by omega)
  cases he : eN (ksF f n) 1 0 with
  | none =>
    rw [he] at KE
    replace KE := Lib.hid KE
    rw [may_none he]
    clear he
    go_enter Try.func10, Try.ntmps10
    go_wp2_with fail
    refine KE.out.mono ?_
    rintro e w1 ⟨rfl, hb⟩
    unfold endV
    go_wp2_with fail
    go_ret
    exact ⟨rfl, hb⟩
  | some e =>
    rw [he] at KE
    replace KE := Lib.hid KE
    obtain ⟨d, hF⟩ := Fd.ex he
    have hle := hF.le.2 (by omega)
    rw [ks_len] at hle
    have hD := hF.deep
    by_cases hen : e = n
    · subst hen
      have KD := Lib.hid (fun w hw => Depth_some a e c f e d w hw hnc hc hn hF)
      have H := Lib.hid h
      by_cases hd : 40 < d
      · rw [may_deep hF hd]
        have e2 : (40 : Int) < (d : Int) := by omega
        clear he hF h
        go_enter Try.func10, Try.ntmps10
        go_wp2_with fail
        refine KE.out.mono ?_
        rintro e' w1 ⟨rfl, hb⟩
        unfold endV
        go_wp2_with fail
        refine (KD.out _ (H.out.below hb)).mono ?_
        rintro e' w2 ⟨rfl, hb1⟩
        replace hb := hb.trans (hb1.mono hb.size)
        go_wp2_with fail
        go_ret
        exact ⟨rfl, hb⟩
      · have e2 : ¬ (40 : Int) < (d : Int) := by omega
        have HF := Lib.hid hF
        have hpos : 0 < e := by have := hF.le.1; omega
        obtain ⟨gb, off, rfl, hcs⟩ := h.ld hpos
        have HC := Lib.hid hcs
        have hd40 : d ≤ 40 := by omega
        obtain ⟨r, hr⟩ : ∃ r, r = mayB f e := ⟨_, rfl⟩
        rw [← hr]
        have HR := Lib.hid hr
        clear he hF h hcs hr
        go_enter Try.func10, Try.ntmps10
        go_wp2_with fail
        refine KE.out.mono ?_
        rintro e' w1 ⟨rfl, hb⟩
        unfold endV
        go_wp2_with fail
        refine (KD.out _ (H.out.below hb)).mono ?_
        rintro e' w2 ⟨rfl, hb1⟩
        replace hb := hb.trans (hb1.mono hb.size)
        clear KE KD hb1
        go_wp2_with fail
        go_loopw [27] (fun kv wr => ∃ j : Nat, kv = .int .i64 j ∧ j ≤ e ∧ (∀ i, i < j → okN (f i) = true ∧ (0 < i → hdN (f i).k = false)) ∧ Below W.heap.size W wr) (fun kv _ => e - (intOf kv).toNat)
        case atStart => exact ⟨0, rfl, by omega, fun i hi => by omega, hb⟩
        case round =>
          clear hb
          obtain ⟨j, rfl, hj, hall, hb⟩ := hrel
          have HA := Lib.hid hall
          clear hall
          by_cases hlt : j < e
          · have e3 : (j : Int) < (e : Int) := by omega
            obtain ⟨c0, c1, c2, c3, c4⟩ := (HC.out j hlt).below hb (HC.out j hlt).lt
            have hsz := hb.size
            have hB := Bd.new wr (f j).k (f j).v (f j).a (f j).x (f j).g (f j).m (f j).c
            have b0 := hB.c0
            have b1 := hB.c1
            have b2 := hB.c2
            have b3 := hB.c3
            have b4 := hB.c4
            have hb2 := hb.alloc hsz (.cells #[.int .i64 (f j).k, .string (f j).v, .string (f j).a, .string (f j).x, .slice (f j).g (f j).m (f j).c] 36)
            have KM : ∀ w, Below W.heap.size W w → Calls Try.prog 18 #[.agg #[.int .i64 (f j).k, .string (f j).v, .string (f j).a, .string (f j).x, .slice (f j).g (f j).m (f j).c]] w (ValEnd (.bool (okN (f j))) w) := fun w hw => mayBe_is (f j) w ((H.out.on j hlt).below hw)
            have KH := fun w => head_is (f j).k (f j).v (f j).a (f j).x (f j).g (f j).m (f j).c w
            have HB2 := Lib.hid hb2
            have HB := Lib.hid hB
            cases hok : okN (f j) with
            | false =>
              rw [hok] at KM
              replace KM := Lib.hid (KM _ HB2.out)
              obtain rfl : r = false := by rw [HR.out]; exact mayB_no fun ⟨_, _, _, h4⟩ => by rw [(h4 j hlt).1] at hok; cases hok
              clear hok hb hb2 hB KH hsz
              go_wp2_with fail
              refine KM.out.mono ?_
              rintro e' w5 ⟨rfl, hb5⟩
              clear c0 c1 c2 c3 c4 b0 b1 b2 b3 b4
              go_wp2_with fail
              go_ret
              exact ⟨rfl, HB2.out.trans (hb5.mono HB2.out.size)⟩
            | true =>
              rw [hok] at KM
              replace KM := Lib.hid (KM _ HB2.out)
              have HOK := Lib.hid hok
              by_cases hj0 : j = 0
              · subst hj0
                have e4 : ¬ (0 : Int) < ((0 : Nat) : Int) := by omega
                simp only [Nat.zero_mul, Nat.add_zero] at c0 c1 c2 c3 c4
                clear hok hb hb2 hB KH hsz
                go_wp2_with fail
                refine KM.out.mono ?_
                rintro e' w5 ⟨rfl, hb5⟩
                have hb6 := HB2.out.trans (hb5.mono HB2.out.size)
                clear c0 c1 c2 c3 c4 b0 b1 b2 b3 b4 hb5
                go_wp2_with fail
                refine ⟨⟨1, by go_num, by omega, fun i hi => ?_, hb6⟩, by simp [intOf]; omega⟩
                obtain rfl : i = 0 := by omega
                exact ⟨HOK.out, fun h => absurd h (by omega)⟩
              · have e4 : (0 : Int) < (j : Int) := by omega
                cases hh : hdN (f j).k with
                | true =>
                  rw [hh] at KH
                  replace KH := Lib.hid KH
                  obtain rfl : r = false := by rw [HR.out]; exact mayB_no fun ⟨_, _, _, h4⟩ => by rw [(h4 j hlt).2 (by omega)] at hh; cases hh
                  clear hok hb hb2 hB hsz hh hj0
                  go_wp2_with fail
                  refine KM.out.mono ?_
                  rintro e' w5 ⟨rfl, hb5⟩
                  have hB5 := HB.out.on hb5
                  have hb6 := HB2.out.trans (hb5.mono HB2.out.size)
                  clear c0 c1 c2 c3 c4 b0 b1 b2 b3 b4 hb5
                  have b0 := hB5.c0
                  have b1 := hB5.c1
                  have b2 := hB5.c2
                  have b3 := hB5.c3
                  have b4 := hB5.c4
                  go_wp2_with fail
                  refine (KH.out _).mono ?_
                  rintro e' w7 ⟨rfl, hb7⟩
                  replace hb6 := hb6.trans (hb7.mono hb6.size)
                  clear b0 b1 b2 b3 b4 hb7
                  go_wp2_with fail
                  go_ret
                  exact ⟨rfl, hb6⟩
                | false =>
                  rw [hh] at KH
                  replace KH := Lib.hid KH
                  have HH := Lib.hid hh
                  clear hok hb hb2 hB hsz hh hj0
                  go_wp2_with fail
                  refine KM.out.mono ?_
                  rintro e' w5 ⟨rfl, hb5⟩
                  have hB5 := HB.out.on hb5
                  have hb6 := HB2.out.trans (hb5.mono HB2.out.size)
                  clear c0 c1 c2 c3 c4 b0 b1 b2 b3 b4 hb5
                  have b0 := hB5.c0
                  have b1 := hB5.c1
                  have b2 := hB5.c2
                  have b3 := hB5.c3
                  have b4 := hB5.c4
                  go_wp2_with fail
                  refine (KH.out _).mono ?_
                  rintro e' w7 ⟨rfl, hb7⟩
                  replace hb6 := hb6.trans (hb7.mono hb6.size)
                  clear b0 b1 b2 b3 b4 hb7
                  go_wp2_with fail
                  refine ⟨⟨j + 1, by go_num, by omega, fun i hi => ?_, hb6⟩, by simp [intOf]; omega⟩
                  by_cases hij : i < j
                  · exact HA.out i hij
                  · obtain rfl : i = j := by omega
                    exact ⟨HOK.out, fun _ => HH.out⟩
          · have e3 : ¬ (j : Int) < (e : Int) := by omega
            obtain rfl : r = true := by rw [HR.out]; exact mayB_yes.2 ⟨d, HF.out, hd40, fun i hi => HA.out i (by omega)⟩
            go_wp2_with fail
            go_ret
            exact ⟨rfl, hb⟩
    · have e2 : (e : Int) < (n : Int) := by omega
      rw [may_short he hen]
      clear he hF
      go_enter Try.func10, Try.ntmps10
      go_wp2_with fail
      refine KE.out.mono ?_
      rintro e' w1 ⟨rfl, hb⟩
      unfold endV
      go_wp2_with fail
      go_ret
      exact ⟨rfl, hb⟩
end Go.Proofs.Ytljkmdmbndjngaa
/-
  Trees put together: append whatever the source, and Node.
-/
namespace Go.Proofs.Ytljkmdmbndjngaa
set_option linter.unusedVariables false
set_option linter.unusedSimpArgs false
open Go.RowKit

theorem run_append_void {w : World} (base : Nat) (t ty e : TypeId) (i : TypeInfo) (s : Nat) (ht : Try.prog.underlying t = some (.slice e)) (hi : Try.prog.info? e = some i) (hsize : i.size = s)
    (v : Value) (n : Nat) (xs : List Value) (hown : w.ownsRow base e s v n xs) (c : Nat) : (Builtin.append_ #[t, t] ty #[v, .slice none 0 c]).run Try.prog w = .ok v w := by
  rcases hown.2 with ⟨rfl, rfl⟩ | ⟨g, cap, cur, rfl, _, _, hnc, _⟩
  · simp [Builtin.append_, run_underlying ht, sizeOf, typeInfo, hi, Builtin.lenOf, Builtin.firstCells]
  · simp [Builtin.append_, run_underlying ht, sizeOf, typeInfo, hi, Builtin.lenOf, Builtin.firstCells, hnc, storeCells]
/-- append onto a row of the call's own, whatever the source. -/
theorem wpList_append_all {w : World} {ops : Array Oper} {rest : List Oper} {o : Oper} {a : Act} {Q : Exit → Act → World → Prop} (hgd : o.guard = none) (s x : Operand) (t : TypeId)
    (ho : o.op = .call { callee := .builtin .append, args := #[s, x], argTypes := #[t, t] })
    (base : Nat) (e : TypeId) (i : TypeInfo) (z : Value) (size bytes : Nat) (ht : Try.prog.underlying t = some (.slice e)) (hi : Try.prog.info? e = some i) (hz : i.zero = some z)
    (hsize : i.size = size) (hby : i.bytes = bytes) (hzs : z.cells.size = size) (hsz : 0 < size)
    (v : Value) (n : Nat) (xs : List Value) (hs : a.eval s = v) (hown : w.ownsRow base e size v n xs)
    (A : Option Addr) (m c : Nat) (news : List Value) (hx : a.eval x = .slice A m c) (hl : news.length = m * size) (hA : A = none → m = 0)
    (hnews : ∀ ad, A = some ad → ∀ j u, news[j]? = some u → w.cell? (ad.add j) = some u) (h1 : ∀ u ∈ news, u.oneCell' = true)
    (h63 : n + m ≤ maxLen) (hbytes : (n + m) * bytes ≤ 140737488355328) (hbase : base ≤ w.heap.size)
    (h : ∀ v' w', w'.ownsRow base e size v' (n + m) (xs ++ news) → w.grownBy w' v.ownBlock → wpList Try.prog ops Q rest (a.put o.dst v') w') : wpList Try.prog ops Q (o :: rest) a w := by
  cases A with
  | some ad => exact wpList_append_own w hgd s x t ho base e i z size bytes ht hi hz hsize hby hzs hsz v n xs hs hown ad m c news hx hl (hnews ad rfl) h1 h63 hbytes hbase fun v' w' h2 h3 _ => h v' w' h2 h3
  | none =>
    have hm := hA rfl
    subst hm
    have hn : news = [] := List.eq_nil_of_length_eq_zero (by rw [hl, Nat.zero_mul])
    subst hn
    rw [List.append_nil] at h
    refine wpList_plain hgd fun K hK => ?_
    have hrun := run_append_void (w := w) base t o.type e i size ht hi hsize v n xs hown c
    unfold Oper.wp
    simp [execOp, ho, resolve, invoke, builtin, hs, hx, hrun, Result.andThen]
    exact hK _ _ (h v w hown (World.grownBy.refl w _))
theorem nvs_one (f : Nat → Nd) : ∀ k, ∀ u ∈ nvs f k, u.oneCell' = true
  | 0, u, h => by cases h
  | k + 1, u, h => by
    rcases List.mem_append.1 (show u ∈ nvs f k ++ (f k).cells from h) with h | h
    · exact nvs_one f k u h
    · simp only [Nd.cells, List.mem_cons, List.not_mem_nil, or_false] at h
      rcases h with rfl | rfl | rfl | rfl | rfl <;> rfl
/-- The cells of a slice of nodes, as a row. -/
theorem Nq.cells {w : World} {a : Option Addr} {n : Nat} {f : Nat → Nd} (h : Nq w a n f) : ∀ ad, a = some ad → ∀ j u, (nvs f n)[j]? = some u → w.cell? (ad.add j) = some u := by
  intro ad ha j u hj
  have hl := (List.getElem?_eq_some_iff.1 hj).1
  rw [nvs_len] at hl
  obtain ⟨b, off, e, hc⟩ := h.ld (by omega)
  rw [ha] at e
  injection e with e
  subst e
  have hq : j / 5 < n := by omega
  have hr : j % 5 < 5 := Nat.mod_lt _ (by omega)
  have hjq : j / 5 * 5 + j % 5 = j := by omega
  have hg := nvs_get f n (j / 5) (j % 5) hq hr
  rw [hjq, hj] at hg
  have hL := hc _ hq
  rw [Go.WideShapes.add_plain, show off + j = off + j / 5 * 5 + j % 5 by omega]
  generalize off + j / 5 * 5 = o at *
  generalize j % 5 = i at *
  match i, hr with
  | 0, _ => rw [hg, Nat.add_zero]; exact hL.c0
  | 1, _ => rw [hg]; exact hL.c1
  | 2, _ => rw [hg]; exact hL.c2
  | 3, _ => rw [hg]; exact hL.c3
  | 4, _ => rw [hg]; exact hL.c4
def valsS (es : List ByteArray) : List Value := es.map Value.string
theorem valsS_one (l : List ByteArray) : ∀ u ∈ valsS l, u.oneCell' = true := by
  intro u hu
  obtain ⟨x, _, rfl⟩ := List.mem_map.1 hu
  rfl
theorem St.cells {w : World} {a : Option Addr} {n : Nat} {l : List ByteArray} (h : St w a n l) : ∀ ad, a = some ad → ∀ j u, (valsS l)[j]? = some u → w.cell? (ad.add j) = some u := by
  intro ad ha j u hj
  unfold valsS at hj
  rw [List.getElem?_map, Option.map_eq_some_iff] at hj
  obtain ⟨x, hx, rfl⟩ := hj
  obtain ⟨hlt, rfl⟩ := List.getElem?_eq_some_iff.1 hx
  obtain ⟨b, off, e, hc⟩ := h.2 (by rw [← h.1]; omega)
  rw [ha] at e
  injection e with e
  subst e
  rw [Go.WideShapes.add_plain, hc j (by rw [← h.1]; exact hlt)]
  simp [List.getD_eq_getElem?_getD, List.getElem?_eq_getElem hlt]
theorem own_st {w : World} {base n : Nat} {v : Value} {l : List ByteArray} (h : w.ownsRow base 9 1 v n (valsS l)) : ∃ a c, v = .slice a n c ∧ n ≤ c ∧ c ≤ maxLen ∧ St w a n l := by
  have hl : l.length = n := by have := h.1; unfold valsS at this; rwa [List.length_map, Nat.mul_one] at this
  rcases h.2 with ⟨rfl, rfl⟩ | ⟨g, cap, cur, rfl, h0, hg, h1, h2, h3, h4⟩
  · exact ⟨none, 0, rfl, Nat.le_refl _, by unfold maxLen; omega, hl, fun h => by omega⟩
  · refine ⟨_, cap, rfl, by omega, h2, hl, fun hn => ⟨g, 0, rfl, fun j hj => ?_⟩⟩
    rw [Nat.zero_add, h.cellAt j (by omega)]
    unfold valsS
    simp [List.getD_eq_getElem?_getD, List.getElem?_eq_getElem (show j < l.length by omega)]
theorem infoS : (Try.prog.info? 9).map (fun i => (i.zero, i.size, i.bytes)) = some (some (.string ⟨#[]⟩), 1, 16) := by kernel_rfl
/-- What strings lie elsewhere stays, where a slice is stored over a slice. -/
theorem St.set {W : World} {a : Option Addr} {n : Nat} {l : List ByteArray} (h : St W a n l) {p : Addr} {g : Option Addr} {m c : Nat} (hp : W.cell? p = some (.slice g m c)) (u : Value) : St (W.setCell p u) a n l := by
  refine ⟨h.1, fun hn => ?_⟩
  obtain ⟨b, off, e, hc⟩ := h.2 hn
  refine ⟨b, off, e, fun j hj => ?_⟩
  rw [World.cell?_setCell_other _ _ _ _ (by intro e; rw [e, hc j hj] at hp; cases hp)]
  exact hc j hj
theorem Nd.on.set {d : Nd} {W : World} (h : d.on W) {p : Addr} {g : Option Addr} {m c : Nat} (hp : W.cell? p = some (.slice g m c)) (u : Value) : d.on (W.setCell p u) := { h with st := h.st.set hp u }
/-- A node with other numbers' memory. -/
def Nd.mv (d : Nd) (g : Option Addr) (c : Nat) : Nd := { d with g := g, c := c }
def upd (G : Nat → Nd) (i : Nat) (d : Nd) : Nat → Nd := fun j => if j = i then d else G j
theorem upd_same (G : Nat → Nd) (i : Nat) (d : Nd) : upd G i d i = d := by unfold upd; rw [if_pos rfl]
theorem upd_other (G : Nat → Nd) {i j : Nat} (d : Nd) (h : j ≠ i) : upd G i d j = G j := by unfold upd; rw [if_neg h]
theorem nvs_set (G : Nat → Nd) (g : Option Addr) (c : Nat) : ∀ n i, i < n → (nvs G n).set (i * 5 + 4) (.slice g (G i).m c) = nvs (upd G i ((G i).mv g c)) n
  | 0, i, h => by omega
  | n + 1, i, h => by
    have hl := nvs_len G n
    show (nvs G n ++ (G n).cells).set _ _ = nvs _ n ++ (upd G i _ n).cells
    by_cases hi : i < n
    · rw [List.set_append_left _ _ (by omega), nvs_set G g c n i hi, upd_other _ _ (by omega)]
    · obtain rfl : i = n := by omega
      rw [List.set_append_right _ _ (by omega), hl, Nat.add_sub_cancel_left, upd_same, nvs_same _ (fun j hj => upd_other G _ (by omega))]
      rfl
/-- Trees to be put below: where they lie. -/
structure Kd where
  a : Option Addr
  n : Nat
  c : Nat
  f : Nat → Nd
def ap (F : Nat → Nd) (m : Nat) (f : Nat → Nd) : Nat → Nd := fun j => if j < m then F j else f (j - m)
theorem nvs_ap (F : Nat → Nd) (m : Nat) (f : Nat → Nd) : ∀ k, nvs (ap F m f) (m + k) = nvs F m ++ nvs f k
  | 0 => by
    rw [Nat.add_zero, nvs_same m (g := F) (fun j hj => by unfold ap; rw [if_pos hj])]
    show _ = nvs F m ++ []
    rw [List.append_nil]
  | k + 1 => by
    show nvs (ap F m f) (m + k) ++ (ap F m f (m + k)).cells = nvs F m ++ (nvs f k ++ (f k).cells)
    rw [nvs_ap F m f k, List.append_assoc]
    unfold ap
    rw [if_neg (by omega), Nat.add_sub_cancel_left]
/-- A node, and behind it the first i trees: how many nodes, and which. -/
def nM (k : Nat → Kd) : Nat → Nat
  | 0 => 1
  | i + 1 => nM k i + (k i).n
def nF (d : Nd) (k : Nat → Kd) : Nat → Nat → Nd
  | 0 => fun _ => d
  | i + 1 => ap (nF d k i) (nM k i) (k i).f
theorem nM_le {k : Nat → Kd} : ∀ {i j : Nat}, i ≤ j → nM k i ≤ nM k j
  | i, 0, h => by rw [Nat.le_zero.1 h]; exact Nat.le_refl _
  | i, j + 1, h => by
    rcases Nat.lt_or_ge i (j + 1) with h1 | h1
    · have := nM_le (k := k) (show i ≤ j by omega)
      show nM k i ≤ nM k j + _
      omega
    · rw [show i = j + 1 by omega]; exact Nat.le_refl _
theorem nF_on {d : Nd} {k : Nat → Kd} {w : World} (hd : d.on w) : ∀ i, (∀ q, q < i → Nq w (k q).a (k q).n (k q).f) → ∀ j, j < nM k i → (nF d k i j).on w
  | 0, _, j, _ => hd
  | i + 1, h, j, hj => by
    show (ap (nF d k i) (nM k i) (k i).f j).on w
    unfold ap
    by_cases h1 : j < nM k i
    · rw [if_pos h1]
      exact nF_on hd i (fun q hq => h q (by omega)) j h1
    · rw [if_neg h1]
      have hj : j < nM k i + (k i).n := hj
      exact (h i (by omega)).on _ (by omega)
/-- A node's numbers lie in a row of texts. -/
def Sb (W : World) (d : Nd) : Prop := d.m = 0 ∨ ∃ b off cur fr, d.g = some ⟨b, off, none⟩ ∧ W.heap[b]? = some (Obj.cells cur 9 fr)
theorem Sb.below {W W' : World} {d : Nd} (h : Sb W d) (hb : Below W.heap.size W W') : Sb W' d := by
  rcases h with h | ⟨b, off, cur, fr, h1, h2⟩
  · exact .inl h
  · exact .inr ⟨b, off, cur, fr, h1, (hb.block b (Array.getElem?_eq_some_iff.1 h2).1).trans h2⟩
/-- Where a row of nodes grows, a row of texts stays. -/
theorem Sb.grown {W W' : World} {d : Nd} (h : Sb W d) (hd : d.on W) {base n : Nat} {v : Value} {xs : List Value} (ho : W.ownsRow base 36 5 v n xs) (hg : W.grownBy W' v.ownBlock) : Sb W' d ∧ d.on W' := by
  have key : ∀ (b : Nat) (cur : Array Value) (fr : Nat × Nat), W.heap[b]? = some (Obj.cells cur 9 fr) → W'.heap[b]? = W.heap[b]? := by
    intro b cur fr hb
    refine hg.block b (Array.getElem?_eq_some_iff.1 hb).1 ?_
    intro e
    rcases ho.2 with ⟨rfl, _⟩ | ⟨g, cap, c, rfl, _, h2, _⟩
    · cases e
    · injection e with e
      have e : b = g := e
      subst e
      rw [hb] at h2
      cases h2
  rcases h with h | ⟨b, off, cur, fr, h1, h2⟩
  · refine ⟨.inl h, { hd with st := ⟨hd.st.1, fun hn => by omega⟩ }⟩
  · have hk := key b cur fr h2
    refine ⟨.inr ⟨b, off, cur, fr, h1, hk.trans h2⟩, { hd with st := ⟨hd.st.1, fun hn => ?_⟩ }⟩
    obtain ⟨b', off', e, hc⟩ := hd.st.2 hn
    rw [h1] at e
    injection e with e
    injection e with e1 e2
    subst e1 e2
    exact ⟨b, off, h1, fun j hj => (World.cell?_of_block (a := ⟨b, off + j, none⟩) hk).trans (hc j hj)⟩
/-- What Node tells: a row of the call's own, its nodes the same. -/
def NodeEnd (F : Nat → Nd) (M : Nat) (W : World) (e : Ending) (W' : World) : Prop :=
  ∃ v G, e = .returned v ∧ W'.ownsRow W.heap.size 36 5 v M (nvs G M) ∧ (∀ j, j < M → (G j).on W') ∧ (∀ j, j < M → smN (G j) (F j) = true) ∧ Below W.heap.size W W' ∧ ∀ j, j < M → Sb W' (G j)
theorem smN_self (d : Nd) : smN d d = true := by
  unfold smN
  simp
end Go.Proofs.Ytljkmdmbndjngaa
/-
  Node, of the program; a tree of one number.
-/
namespace Go.Proofs.Ytljkmdmbndjngaa
set_option linter.unusedVariables false
set_option linter.unusedSimpArgs false
open Go.RowKit

set_option maxHeartbeats 6400000 in
theorem Node_is (d : Nd) (ka : Option Addr) (K kc : Nat) (k : Nat → Kd) (W : World) (hd : d.on W) (hk : ∀ i, i < K → Nq W (k i).a (k i).n (k i).f)
    (hkc : 0 < K → ∃ b off, ka = some ⟨b, off, none⟩ ∧ ∀ i, i < K → W.cell? ⟨b, off + i, none⟩ = some (.slice (k i).a (k i).n (k i).c))
    (hK : K ≤ 1000) (hM : nM k K ≤ 1000000) (hz : ∀ j, j < nM k K → (nF d k K j).m * 16 ≤ 140737488355328) :
    Calls Try.prog 82 #[d.val, .slice ka K kc] W (NodeEnd (nF d k K) (nM k K) W) := by
  have HON := Lib.hid (fun w (hb : Below W.heap.size W w) => nF_on (hd.below hb) K (fun q hq => (hk q hq).below hb))
  have HD := Lib.hid hd
  have HK := Lib.hid hk
  have HKC := Lib.hid hkc
  have HZ := Lib.hid hz
  have hbox := box_below W (.cells #[.int .i64 d.k, .string d.v, .string d.a, .string d.x, .slice d.g d.m d.c] 36)
  have hA := Bd.new W d.k d.v d.a d.x d.g d.m d.c
  have a0 := hA.c0
  have a1 := hA.c1
  have a2 := hA.c2
  have a3 := hA.c3
  have a4 := hA.c4
  have hrow := World.ownsRow_lit (base := W.heap.size) (e := 36) (size := 5) (W.alloc (.cells #[.int .i64 d.k, .string d.v, .string d.a, .string d.x, .slice d.g d.m d.c] 36)) #[.int .i64 d.k, .string d.v, .string d.a, .string d.x, .slice d.g d.m d.c] 1 hbox.size (by unfold maxLen; omega) rfl
  rw [show (W.alloc (.cells #[.int .i64 d.k, .string d.v, .string d.a, .string d.x, .slice d.g d.m d.c] 36)).heap.size = W.heap.size + 1 by simp] at hrow
  have hb0 := hbox.alloc hbox.size (.cells #[.int .i64 d.k, .string d.v, .string d.a, .string d.x, .slice d.g d.m d.c] 36)
  have HR := Lib.hid hrow
  have HB := Lib.hid hb0
  clear hd hk hkc hz hbox hA hrow hb0
  show Calls _ _ #[.agg #[.int .i64 d.k, .string d.v, .string d.a, .string d.x, .slice d.g d.m d.c], .slice ka K kc] W _
  go_enter Try.func82, Try.ntmps82
  go_wp2_with fail
  go_loopw [5, 13] (fun lv iv wr => ∃ i : Nat, iv = .int .i64 i ∧ i ≤ K ∧ wr.ownsRow W.heap.size 36 5 lv (nM k i) (nvs (nF d k i) (nM k i)) ∧ Below W.heap.size W wr) (fun _ iv _ => K - (intOf iv).toNat)
  case atStart => exact ⟨0, rfl, by omega, HR.out, HB.out⟩
  case round =>
    obtain ⟨i, rfl, hi, ho, hb⟩ := hrel
    clear a0 a1 a2 a3 a4
    by_cases hlt : i < K
    · have e2 : (i : Int) < (K : Int) := by omega
      have hm1 := nM_le (k := k) (show i + 1 ≤ K by omega)
      have hM1 : nM k (i + 1) = nM k i + (k i).n := rfl
      obtain ⟨b, off, rfl, hc⟩ := HKC.out (by omega)
      have ci := (hb.cell (World.block_lt_of_cell? W _ (hc i hlt))).trans (hc i hlt)
      have hq := (HK.out i hlt).below hb
      have HNV := Lib.hid (nvs_ap (nF d k i) (nM k i) (k i).f (k i).n)
      have HF := Lib.hid (show nF d k (i + 1) = ap (nF d k i) (nM k i) (k i).f from rfl)
      clear hc
      have hsz := hb.size
      obtain ⟨i0, hi0, hz0, hz1, hz2⟩ := info_parts infoN
      go_wp2_with (at_builtin; refine wpList_append_all rfl (.tmp 17) (.tmp 18) 22 rfl W.heap.size 36 i0 (.agg #[.int .i64 0, .string ⟨#[]⟩, .string ⟨#[]⟩, .string ⟨#[]⟩, .slice none 0 0]) 5 80 Try.underlying22 hi0 hz0 hz1 hz2 rfl (by decide) _ _ _ rfl ho (k i).a (k i).n (k i).c (nvs (k i).f (k i).n) rfl (nvs_len _ _) ?c1 hq.cells (nvs_one _ _) ?c2 ?c3 hsz ?_)
      case c1 =>
        intro ha
        rcases Nat.eq_zero_or_pos (k i).n with h0 | h0
        · exact h0
        · obtain ⟨_, _, e, _⟩ := hq.ld h0
          rw [ha] at e; cases e
      case c2 => unfold maxLen; omega
      case c3 => omega
      intro v' w3 hown' hgrow
      have hb' : Below W.heap.size W w3 := hb.grown hgrow hsz (fun k hk => (ho.lt k hk).1)
      rw [← HNV.out, ← HF.out] at hown'
      have HO := Lib.hid hown'
      clear hgrow ho hb hown' hq ci hsz
      go_wp2_with fail
      refine ⟨⟨i + 1, by go_num, by omega, HO.out, hb'⟩, by simp [intOf]; omega⟩
    · have e2 : ¬ (i : Int) < (K : Int) := by omega
      obtain rfl : i = K := by omega
      have hon := HON.out _ hb
      obtain ⟨F, hF⟩ : ∃ F, F = nF d k i := ⟨_, rfl⟩
      have hM0 : 1 ≤ nM k i := nM_le (k := k) (Nat.zero_le i)
      rw [← hF] at ho hon
      have HFF := Lib.hid hF
      have HZ2 := Lib.hid (show ∀ j, j < nM k i → (F j).m * 16 ≤ 140737488355328 by rw [hF]; exact HZ.out)
      obtain ⟨M, hMM⟩ : ∃ M, M = nM k i := ⟨_, rfl⟩
      rw [← hMM] at ho hon HZ2 hM hM0
      have HMM := Lib.hid hMM
      obtain ⟨a, c, hv, _, hcm, hld⟩ := own_lds ho
      subst hv
      obtain ⟨g, off, rfl, hg, _⟩ := hld hM0
      obtain ⟨off0, hoff⟩ : off = 0 ∧ True := by
        rcases ho.2 with ⟨h0, _⟩ | ⟨g', cap', cur, h0, _⟩
        · cases h0
        · cases h0; exact ⟨rfl, trivial⟩
      subst off0
      have HON2 := Lib.hid hon
      have HO := Lib.hid ho
      clear hF hMM hld hon ho HON HZ HK HKC HR HB HD hoff
      go_wp2_with fail
      go_loopw [23] (fun iv wr => ∃ (q : Nat) (G : Nat → Nd), iv = .int .i64 q ∧ q ≤ M ∧ wr.ownsRow W.heap.size 36 5 (.slice (some ⟨g, 0, none⟩) M c) M (nvs G M) ∧ (∀ j, j < M → (G j).on wr) ∧ (∀ j, j < M → smN (G j) (F j) = true ∧ (G j).m = (F j).m) ∧ Below W.heap.size W wr ∧ ∀ j, j < q → Sb wr (G j)) (fun iv _ => M - (intOf iv).toNat)
      case atStart => exact ⟨0, F, rfl, by omega, HO.out, HON2.out, fun j hj => ⟨smN_self _, rfl⟩, hb, fun j hj => by omega⟩
      case round =>
        clear hb
        obtain ⟨q, G, rfl, hq, ho, hon, hsm, hb, hsb⟩ := hrel
        have HSB := Lib.hid hsb
        clear hsb
        by_cases hlt2 : q < M
        · have e3 : (q : Int) < (M : Int) := by omega
          have cq := (ho.cellAt (q * 5 + 4) (by omega)).trans (nvs_get G M q 4 hlt2 (by omega))
          replace cq : wr.cell? ⟨g, q * 5 + 4, none⟩ = some (.slice (G q).g (G q).m (G q).c) := cq
          have onq := hon q hlt2
          have hmq := HZ2.out q hlt2
          rw [← (hsm q hlt2).2] at hmq
          have hcA := onq.st.cells
          have hlen : (valsS (G q).ns).length = (G q).m * 1 := by unfold valsS; rw [List.length_map, Nat.mul_one]; exact onq.nl
          have hAn : (G q).g = none → (G q).m = 0 := by
            intro ha
            rcases Nat.eq_zero_or_pos (G q).m with h0 | h0
            · exact h0
            · obtain ⟨_, _, e, _⟩ := onq.st.2 h0
              rw [ha] at e; cases e
          have hmx : (G q).m ≤ maxLen := Nat.le_trans onq.mc onq.cm
          have hsz := hb.size
          have HNS := Lib.hid (nvs_set G)
          have HON3 := Lib.hid hon
          have HSM := Lib.hid hsm
          clear hon hsm
          obtain ⟨dq, hdq⟩ : ∃ dq, dq = G q := ⟨_, rfl⟩
          rw [← hdq] at cq onq hmq hcA hlen hAn hmx
          have HDQ := Lib.hid hdq
          clear hdq
          obtain ⟨i0, hi0, hz0, hz1, hz2⟩ := info_parts infoS
          go_wp2_with (at_builtin; refine wpList_append_all rfl (.const (.slice none 0 0)) (.tmp 32) 34 rfl W.heap.size 9 i0 (.string ⟨#[]⟩) 1 16 Try.underlying34 hi0 hz0 hz1 hz2 rfl (by decide) _ 0 [] rfl (World.ownsRow_nil _ _ _ _) dq.g dq.m dq.c (valsS dq.ns) rfl hlen hAn hcA (valsS_one _) ?c1 ?c2 hsz ?_)
          case c1 => omega
          case c2 => omega
          intro v' w3 hown' hgrow
          obtain ⟨a', c', rfl, hc1, hc2, hst⟩ := own_st hown'
          have hnew : dq.m = 0 ∨ ∃ b off cur fr, a' = some ⟨b, off, none⟩ ∧ w3.heap[b]? = some (Obj.cells cur 9 fr) := by
            rcases hown'.2 with ⟨_, h0⟩ | ⟨g', cap', cur', h1, _, h2, _⟩
            · exact .inl h0
            · injection h1 with h1 _ _
              exact .inr ⟨g', 0, cur', _, h1, h2⟩
          have hgn : ∃ cur fr, w3.heap[g]? = some (Obj.cells cur 36 fr) := by
            have ho9 := own_below5 ho ((Below.refl _ wr).grown hgrow (Nat.le_refl _) (fun k hk => by cases hk))
            rcases ho9.2 with ⟨h0, _⟩ | ⟨g', cap', cur', h1, _, h2, _⟩
            · cases h0
            · cases h1
              exact ⟨cur', _, h2⟩
          have keep : ∀ d : Nd, Sb w3 d → ∀ u, Sb (w3.setCell ⟨g, q * 5 + 4, none⟩ u) d := by
            intro d hd u
            rcases hd with h | ⟨b, off, cur, fr, h1, h2⟩
            · exact .inl h
            · refine .inr ⟨b, off, cur, fr, h1, (Below.heap_setCell w3 ⟨g, q * 5 + 4, none⟩ u b ?_).trans h2⟩
              intro e
              have e : b = g := e
              subst e
              obtain ⟨cur2, fr2, h3⟩ := hgn
              rw [h2] at h3
              cases h3
          have hbq : Below wr.heap.size wr w3 := (Below.refl _ wr).grown hgrow (Nat.le_refl _) (fun k hk => by cases hk)
          have hb' := hb.trans (hbq.mono hb.size)
          have ho3 := own_below5 ho hbq
          have cq3 := (hbq.cell (p := ⟨g, q * 5 + 4, none⟩) (World.block_lt_of_cell? wr _ cq)).trans cq
          have fq3 := ho3.frozenAt (q * 5 + 4)
          have hst4 := (ho3.stored (q * 5 + 4) (.slice a' dq.m c')).1
          have hb4 : Below W.heap.size W (w3.setCell ⟨g, q * 5 + 4, none⟩ (.slice a' dq.m c')) := hb'.setCell hg _
          have HFIN := Lib.hid (show (w3.setCell ⟨g, q * 5 + 4, none⟩ (.slice a' dq.m c')).ownsRow W.heap.size 36 5 (.slice (some ⟨g, 0, none⟩) M c) M (nvs (upd G q ((G q).mv a' c')) M) ∧ (∀ j, j < M → (upd G q ((G q).mv a' c') j).on (w3.setCell ⟨g, q * 5 + 4, none⟩ (.slice a' dq.m c'))) ∧ (∀ j, j < M → smN (upd G q ((G q).mv a' c') j) (F j) = true ∧ (upd G q ((G q).mv a' c') j).m = (F j).m) ∧ ∀ j, j < q + 1 → Sb (w3.setCell ⟨g, q * 5 + 4, none⟩ (.slice a' dq.m c')) (upd G q ((G q).mv a' c') j) by
            rw [HDQ.out] at hst4 hst hc1 onq cq3 hnew ⊢
            refine ⟨?_, fun j hj => ?_, fun j hj => ?_, fun j hj => ?_⟩
            · rw [← HNS.out a' c' M q hlt2]; exact hst4
            · by_cases hjq : j = q
              · subst hjq
                rw [upd_same]
                exact { st := hst.set cq3 _, mc := hc1, cm := hc2, k0 := onq.k0, k1 := onq.k1, vz := onq.vz, az := onq.az, xz := onq.xz, nz := onq.nz }
              · rw [upd_other _ _ hjq]
                exact ((HON3.out j hj).below hbq).set cq3 _
            · by_cases hjq : j = q
              · subst hjq
                rw [upd_same]
                exact HSM.out j hj
              · rw [upd_other _ _ hjq]
                exact HSM.out j hj
            · refine keep _ ?_ _
              by_cases hjq : j = q
              · subst hjq
                rw [upd_same]
                exact hnew
              · rw [upd_other _ _ hjq]
                exact (HSB.out j (by omega)).below hbq)
          have HB4 := Lib.hid hb4
          clear hnew hgn keep hgrow ho hb hown' hbq hb' ho3 hst4 hst hcA hlen hAn onq hsz hb4 cq
          go_wp2_with fail
          refine ⟨⟨q + 1, _, by go_num, by omega, HFIN.out.1, HFIN.out.2.1, HFIN.out.2.2.1, HB4.out, HFIN.out.2.2.2⟩, by simp [intOf]; omega⟩
        · have e3 : ¬ (q : Int) < (M : Int) := by omega
          have HO4 := Lib.hid ho
          have HON4 := Lib.hid hon
          have HSM := Lib.hid hsm
          clear ho hon hsm
          go_wp2_with fail
          go_ret
          exact ⟨_, G, rfl, by rw [← HMM.out]; exact HO4.out, by rw [← HMM.out]; exact HON4.out, by rw [← HMM.out, ← HFF.out]; exact fun j hj => (HSM.out j hj).1, hb, by rw [← HMM.out]; exact fun j hj => HSB.out j (by omega)⟩
end Go.Proofs.Ytljkmdmbndjngaa
/-
  Whether two lists have the same nodes: of the program, and of the reference; few nodes.
-/
namespace Go.Proofs.Ytljkmdmbndjngaa
set_option linter.unusedVariables false
set_option linter.unusedSimpArgs false
open Go.RowKit

/-- The first n nodes of both are the same. -/
def sameL (f g : Nat → Nd) (n : Nat) : Bool := (List.range n).all fun j => smN (f j) (g j)
theorem sameL_yes {f g : Nat → Nd} {n : Nat} : sameL f g n = true ↔ ∀ j, j < n → smN (f j) (g j) = true := by
  unfold sameL
  rw [List.all_eq_true]
  exact ⟨fun h j hj => h j (List.mem_range.2 hj), fun h j hj => h j (List.mem_range.1 hj)⟩
theorem sameL_no {f g : Nat → Nd} {n j : Nat} (hj : j < n) (h : smN (f j) (g j) = false) : sameL f g n = false := by
  cases hs : sameL f g n with
  | false => rfl
  | true => rw [sameL_yes.1 hs j hj] at h; cases h
set_option maxHeartbeats 3200000 in
theorem EqualF_is (a b : Option Addr) (n c d : Nat) (f g : Nat → Nd) (W : World) (h1 : Nq W a n f) (h2 : Nq W b n g) (hn : n ≤ 1000000) :
    Calls Try.prog 22 #[.slice a n c, .slice b n d, .func (.func 23) #[] #[]] W (ValEnd (.bool (sameL f g n)) W) := by
  have H1 := Lib.hid h1
  have H2 := Lib.hid h2
  obtain ⟨r, hr⟩ : ∃ r, r = sameL f g n := ⟨_, rfl⟩
  rw [← hr]
  have HR := Lib.hid hr
  clear h1 h2 hr
  go_enter Try.func22, Try.ntmps22
  go_wp2_with fail
  go_loopw [17] (fun kv wr => ∃ j : Nat, kv = .int .i64 j ∧ j ≤ n ∧ (∀ i, i < j → smN (f i) (g i) = true) ∧ Below W.heap.size W wr) (fun kv _ => n - (intOf kv).toNat)
  case atStart => exact ⟨0, rfl, by omega, fun i hi => by omega, Below.refl _ _⟩
  case round =>
    obtain ⟨j, rfl, hj, hall, hb⟩ := hrel
    have HA := Lib.hid hall
    clear hall
    by_cases hlt : j < n
    · have e3 : (j : Int) < (n : Int) := by omega
      obtain ⟨ga, oa, rfl, hca⟩ := H1.out.ld (by omega)
      obtain ⟨gb, ob, rfl, hcb⟩ := H2.out.ld (by omega)
      have KS : ∀ w, Below W.heap.size W w → Calls Try.prog 23 #[.agg #[.int .i64 (f j).k, .string (f j).v, .string (f j).a, .string (f j).x, .slice (f j).g (f j).m (f j).c], .agg #[.int .i64 (g j).k, .string (g j).v, .string (g j).a, .string (g j).x, .slice (g j).g (g j).m (g j).c]] w (ValEnd (.bool (smN (f j) (g j))) w) := fun w hw => same_is (f j) (g j) w ((H1.out.on j hlt).below hw) ((H2.out.on j hlt).below hw)
      have la := (hca j hlt).below hb (hca j hlt).lt
      have lb := (hcb j hlt).below hb (hcb j hlt).lt
      have HNA := Lib.hid (fun (h : smN (f j) (g j) = true) i (hi : i < j + 1) => show smN (f i) (g i) = true by
        by_cases hij : i < j
        · exact HA.out i hij
        · obtain rfl : i = j := by omega
          exact h)
      have HNF := Lib.hid (fun (h : smN (f j) (g j) = false) => show r = false by rw [HR.out]; exact sameL_no hlt h)
      generalize smN (f j) (g j) = q at *
      generalize f j = df at *
      generalize g j = dg at *
      obtain ⟨c0, c1, c2, c3, c4⟩ := la
      have hsz := hb.size
      have hA := Bd.new wr df.k df.v df.a df.x df.g df.m df.c
      have hb2 := hb.alloc hsz (.cells #[.int .i64 df.k, .string df.v, .string df.a, .string df.x, .slice df.g df.m df.c] 36)
      have lb2 := lb.below (box_below wr (.cells #[.int .i64 df.k, .string df.v, .string df.a, .string df.x, .slice df.g df.m df.c] 36)) lb.lt
      obtain ⟨w1, hw1⟩ : ∃ w1, w1 = wr.alloc (.cells #[.int .i64 df.k, .string df.v, .string df.a, .string df.x, .slice df.g df.m df.c] 36) := ⟨_, rfl⟩
      rw [← hw1] at hA hb2 lb2
      have HW1 := Lib.hid hw1
      obtain ⟨b0, b1, b2, b3, b4⟩ := lb2
      have hA2 := hA.alloc (.cells #[.int .i64 dg.k, .string dg.v, .string dg.a, .string dg.x, .slice dg.g dg.m dg.c] 36)
      have hB2 := Bd.new w1 dg.k dg.v dg.a dg.x dg.g dg.m dg.c
      have hb3 := hb2.alloc hb2.size (.cells #[.int .i64 dg.k, .string dg.v, .string dg.a, .string dg.x, .slice dg.g dg.m dg.c] 36)
      have HB3 := Lib.hid hb3
      have u0 := hA2.c0
      have u1 := hA2.c1
      have u2 := hA2.c2
      have u3 := hA2.c3
      have u4 := hA2.c4
      have y0 := hB2.c0
      have y1 := hB2.c1
      have y2 := hB2.c2
      have y3 := hB2.c3
      have y4 := hB2.c4
      replace KS := Lib.hid (KS _ hb3)
      clear hca hcb lb hA hb2 hsz hb hw1 hA2 hB2 hb3
      go_upto_region 6 with fail
      rw [← HW1.out]
      cases q with
      | false =>
        go_wp2_with fail
        refine KS.out.mono ?_
        rintro e w5 ⟨rfl, hb5⟩
        have hb6 := HB3.out.trans (hb5.mono HB3.out.size)
        obtain rfl : r = false := HNF.out (by first | rfl | trivial)
        clear c0 c1 c2 c3 c4 b0 b1 b2 b3 b4 u0 u1 u2 u3 u4 y0 y1 y2 y3 y4 hb5
        go_wp2_with fail
        go_ret
        exact ⟨rfl, hb6⟩
      | true =>
        go_wp2_with fail
        refine KS.out.mono ?_
        rintro e w5 ⟨rfl, hb5⟩
        have hb6 := HB3.out.trans (hb5.mono HB3.out.size)
        clear c0 c1 c2 c3 c4 b0 b1 b2 b3 b4 u0 u1 u2 u3 u4 y0 y1 y2 y3 y4 hb5
        go_wp2_with fail
        refine ⟨⟨j + 1, by go_num, by omega, HNA.out (by first | rfl | trivial), hb6⟩, by simp [intOf]; omega⟩
    · have e3 : ¬ (j : Int) < (n : Int) := by omega
      obtain rfl : r = true := by rw [HR.out]; exact sameL_yes.2 fun i hi => HA.out i (by omega)
      go_wp2_with fail
      go_ret
      exact ⟨rfl, hb⟩
theorem Same_is (a b : Option Addr) (n m c d : Nat) (f g : Nat → Nd) (W : World) (h1 : Nq W a n f) (h2 : Nq W b m g) (hn : n ≤ 1000000) (hm : m ≤ 1000000) :
    Calls Try.prog 12 #[.slice a n c, .slice b m d] W (ValEnd (.bool (decide (n = m) && sameL f g n)) W) := by
  by_cases hnm : n = m
  · subst hnm
    have K := Lib.hid (EqualF_is a b n c d f g W h1 h2 hn)
    rw [decide_eq_true rfl, Bool.true_and]
    go_enter Try.func12, Try.ntmps12
    go_wp2_with fail
    refine K.out.mono ?_
    rintro e w1 ⟨rfl, hb⟩
    go_wp2_with fail
    go_ret
    exact ⟨rfl, hb⟩
  · rw [decide_eq_false hnm, Bool.false_and]
    have K : Calls Try.prog 22 #[.slice a n c, .slice b m d, .func (.func 23) #[] #[]] W (ValEnd (.bool false) W) := by
      have e1 : ¬ (n : Int) = (m : Int) := by omega
      clear h1 h2
      go_enter Try.func22, Try.ntmps22
      go_wp2_with fail
      go_ret
      exact ⟨rfl, Below.refl _ _⟩
    replace K := Lib.hid K
    go_enter Try.func12, Try.ntmps12
    go_wp2_with fail
    refine K.out.mono ?_
    rintro e w1 ⟨rfl, hb⟩
    go_wp2_with fail
    go_ret
    exact ⟨rfl, hb⟩
theorem tl_eq {s t : ByteArray} (h : s.toList = t.toList) : s = t := bytes_ext (by rw [str_tl, str_tl] at h; exact h)
theorem smN_yes {d e : Nd} : smN d e = true ↔ d.k = e.k ∧ d.v = e.v ∧ d.a = e.a ∧ d.x = e.x ∧ d.ns = e.ns := by
  unfold smN
  simp only [Bool.and_eq_true, decide_eq_true_iff]
  constructor
  · rintro ⟨h1, h2, h3, h4, h5⟩
    exact ⟨h1, tl_eq h2, tl_eq h3, tl_eq h4, h5⟩
  · rintro ⟨h1, h2, h3, h4, h5⟩
    exact ⟨h1, by rw [h2], by rw [h3], by rw [h4], h5⟩
theorem smN_no {d e : Nd} (h : ¬ (d.k = e.k ∧ d.v = e.v ∧ d.a = e.a ∧ d.x = e.x ∧ d.ns = e.ns)) : smN d e = false := by
  cases hs : smN d e with
  | false => rfl
  | true => exact absurd (smN_yes.1 hs) h
end Go.Proofs.Ytljkmdmbndjngaa
/-
  Few nodes; a tree of one number; the document's example.
-/
namespace Go.Proofs.Ytljkmdmbndjngaa
set_option linter.unusedVariables false
set_option linter.unusedSimpArgs false
open Go.RowKit

def FewEnd (f : Nat → Nd) (n : Nat) (W : World) (e : Ending) (W' : World) : Prop := ∃ r : Bool, e = .returned (.bool r) ∧ (r = true → n ≤ 80 ∧ ∀ j, j < n → (f j).m ≤ 120) ∧ Below W.heap.size W W'
set_option maxHeartbeats 3200000 in
theorem Few_is (a : Option Addr) (n c : Nat) (f : Nat → Nd) (W : World) (h : Nq W a n f) (hn : n ≤ 9223372036854775807) :
    Calls Try.prog 8 #[.slice a n c] W (FewEnd f n W) := by
  have H := Lib.hid h
  clear h
  go_enter Try.func8, Try.ntmps8
  go_wp2_with fail
  go_loopw [3] (fun iv wr => ∃ i : Nat, iv = .int .i64 i ∧ i ≤ n ∧ i ≤ 81 ∧ (∀ j, j < i → (f j).m ≤ 120) ∧ Below W.heap.size W wr) (fun iv _ => n - (intOf iv).toNat)
  case atStart => exact ⟨0, rfl, by omega, by omega, fun j hj => by omega, Below.refl _ _⟩
  case round =>
    obtain ⟨i, rfl, hi, hi2, hall, hb⟩ := hrel
    have HA := Lib.hid hall
    clear hall
    by_cases hlt : i < n
    · have e2 : (i : Int) < (n : Int) := by omega
      by_cases h81 : i < 81
      · have e3 : (i : Int) < 81 := by omega
        obtain ⟨ga, oa, rfl, hca⟩ := H.out.ld (by omega)
        have la := (hca i hlt).below hb (hca i hlt).lt
        have oA := (H.out.on i hlt).below hb
        have HNA := Lib.hid (fun (h : (f i).m ≤ 120) j (hj : j < i + 1) => show (f j).m ≤ 120 by
          by_cases hij : j < i
          · exact HA.out j hij
          · obtain rfl : j = i := by omega
            exact h)
        clear hca
        generalize f i = df at *
        obtain ⟨dk, dv, da, dx, dp, dm, dc, dn⟩ := df
        obtain ⟨c0, c1, c2, c3, c4⟩ := la
        simp only at c0 c1 c2 c3 c4 HNA
        have q1 : dm ≤ 9223372036854775807 := maxLen_le (Nat.le_trans oA.mc oA.cm)
        have z1 := maxLen_le oA.vz
        have z2 := maxLen_le oA.az
        have z3 := maxLen_le oA.xz
        simp only at z1 z2 z3
        have HOA := Lib.hid oA
        clear oA
        by_cases hv : 120 < dv.size
        · have e4 : (120 : Int) < (dv.size : Int) := by omega
          go_wp2_with fail
          go_ret
          exact ⟨false, rfl, (fun h => by cases h), hb⟩
        have e4 : ¬ (120 : Int) < (dv.size : Int) := by omega
        by_cases ha : 120 < da.size
        · have e5 : (120 : Int) < (da.size : Int) := by omega
          go_wp2_with fail
          go_ret
          exact ⟨false, rfl, (fun h => by cases h), hb⟩
        have e5 : ¬ (120 : Int) < (da.size : Int) := by omega
        by_cases hx : 120 < dx.size
        · have e6 : (120 : Int) < (dx.size : Int) := by omega
          go_wp2_with fail
          go_ret
          exact ⟨false, rfl, (fun h => by cases h), hb⟩
        have e6 : ¬ (120 : Int) < (dx.size : Int) := by omega
        by_cases hm : 120 < dm
        · have e7 : (120 : Int) < (dm : Int) := by omega
          go_wp2_with fail
          go_ret
          exact ⟨false, rfl, (fun h => by cases h), hb⟩
        have e7 : ¬ (120 : Int) < (dm : Int) := by omega
        clear hv ha hx
        go_wp2_with fail
        go_loopw [4] (fun kv w2 => ∃ q : Nat, kv = .int .i64 q ∧ q ≤ dm ∧ w2 = wr) (fun kv _ => dm - (intOf kv).toNat)
        case atStart => exact ⟨0, rfl, by omega, rfl⟩
        case round =>
          obtain ⟨q, rfl, hq, rfl⟩ := hrel
          clear c0 c1 c2 c3
          by_cases hqm : q < dm
          · have f2 : (q : Int) < (dm : Int) := by omega
            obtain ⟨gb, ob, hgb, hcb⟩ := HOA.out.st.2 (by simp only; omega)
            have hgb : dp = some ⟨gb, ob, none⟩ := hgb
            subst hgb
            have cs := hcb q hqm
            have zs : (dn.getD q ByteArray.empty).size ≤ 9223372036854775807 := maxLen_le (HOA.out.nz _ (getD_mem (by have := HOA.out.nl; simp only at this; simp only; omega)))
            simp only at cs
            generalize dn.getD q ByteArray.empty = s at cs zs
            clear hcb
            by_cases hs : 120 < s.size
            · have f3 : (120 : Int) < (s.size : Int) := by omega
              go_wp2_with fail
              go_ret
              exact ⟨false, rfl, (fun h => by cases h), hb⟩
            · have f3 : ¬ (120 : Int) < (s.size : Int) := by omega
              go_wp2_with fail
              refine ⟨⟨q + 1, by go_num, by omega, by first | rfl | trivial⟩, by simp [intOf]; omega⟩
          · have f2 : ¬ (q : Int) < (dm : Int) := by omega
            go_wp2_with fail
            refine ⟨⟨i + 1, by go_num, by omega, by omega, HNA.out (by omega), hb⟩, by simp [intOf]; omega⟩
      · have e3 : ¬ (i : Int) < 81 := by omega
        have e8 : ¬ (n : Int) ≤ 80 := by omega
        go_wp2_with fail
        go_ret
        exact ⟨false, rfl, (fun h => by cases h), hb⟩
    · have e2 : ¬ (i : Int) < (n : Int) := by omega
      obtain rfl : i = n := by omega
      by_cases h80 : i ≤ 80
      · have e8 : (i : Int) ≤ 80 := by omega
        go_wp2_with fail
        go_ret
        exact ⟨true, rfl, fun _ => ⟨h80, HA.out⟩, hb⟩
      · have e8 : ¬ (i : Int) ≤ 80 := by omega
        go_wp2_with fail
        go_ret
        exact ⟨false, rfl, (fun h => by cases h), hb⟩
/-- A tree of one number. -/
def litN (s : ByteArray) (g : Option Addr) : Nd := ⟨1, ⟨#[]⟩, ⟨#[]⟩, ⟨#[]⟩, g, 1, 1, [s]⟩
def LitEnd (s : ByteArray) (W : World) (e : Ending) (W' : World) : Prop := ∃ a g, e = .returned (.slice a 1 1) ∧ Nq W' a 1 (fun _ => litN s g) ∧ Below W.heap.size W W'
theorem okN_same {d e : Nd} (h : smN d e = true) : okN d = okN e := by
  obtain ⟨h1, h2, h3, h4, h5⟩ := smN_yes.1 h
  unfold okN
  rw [h1, h2, h3, h4, h5]
theorem ks_same {f g : Nat → Nd} {n : Nat} (h : ∀ j, j < n → smN (f j) (g j) = true) : ksF f n = ksF g n := by
  unfold ksF
  refine List.map_congr_left fun j hj => ?_
  obtain ⟨h1, h2, _⟩ := smN_yes.1 (h j (List.mem_range.1 hj))
  rw [h1, h2]
theorem lx_plus : lxT ⟨#[43]⟩ = [⟨4, [43], 0⟩] ∧ lxE ⟨#[43]⟩ = none := by
  have h := lx_run ⟨#[43]⟩
  generalize lxT ⟨#[43]⟩ = ts at *
  generalize lxE ⟨#[43]⟩ = e at *
  have h : Run numB (43 :: []) 0 ts e := h
  have hc : cls 43 = 4 := by decide
  rcases h.inv with ⟨h7, _⟩ | ⟨t, r, us, _, _, hl, _, _, _, hts, hr⟩ | ⟨h0, _⟩ | ⟨h1, _⟩
  · rw [hc] at h7; cases h7
  · obtain ⟨rfl, rfl⟩ := List.append_eq_nil_iff.1 hl.symm
    obtain ⟨rfl, rfl⟩ := hr.inv_nil
    rw [hts, hc]
    exact ⟨rfl, rfl⟩
  · rw [hc] at h0; cases h0
  · rw [hc] at h1; cases h1
theorem prt_plus : prt ⟨#[43]⟩ 4 = true := by
  unfold prt
  rw [if_pos (by decide), lx_plus.2, lx_plus.1]
  show (decide (((4 : Nat) : Int) = 4) && ((tx [43]).toList == (⟨#[43]⟩ : ByteArray).toList)) = true
  rw [show tx [43] = (⟨#[43]⟩ : ByteArray) from rfl]
  simp
end Go.Proofs.Ytljkmdmbndjngaa
/-
  Nodes in memory as plain nodes; parts that Lex tells; that what is read may be.
-/
namespace Go.Proofs.Ytljkmdmbndjngaa
set_option linter.unusedVariables false
set_option linter.unusedSimpArgs false
open Go.RowKit

theorem split_eq {k : Nat} : ∀ {t t' r r' : List UInt8}, t ++ r = t' ++ r' → (∀ x ∈ t, (moreL k).contains x = true) → Stop k r → (∀ x ∈ t', (moreL k).contains x = true) → Stop k r' → t = t' ∧ r = r'
  | [], [], _, _, h, _, _, _, _ => ⟨rfl, h⟩
  | [], c :: t', r, r', h, _, hs, h2, _ => by
    have h : r = c :: (t' ++ r') := h
    have := hs c (by rw [h]; rfl)
    rw [h2 c List.mem_cons_self] at this
    cases this
  | c :: t, [], r, r', h, h1, _, _, hs => by
    have h : c :: (t ++ r) = r' := h
    have := hs c (by rw [← h]; rfl)
    rw [h1 c List.mem_cons_self] at this
    cases this
  | c :: t, d :: t', r, r', h, h1, hs, h2, hs2 => by
    have h : c :: (t ++ r) = d :: (t' ++ r') := h
    injection h with e h
    obtain ⟨rfl, rfl⟩ := split_eq h (fun x hx => h1 x (List.mem_cons_of_mem _ hx)) hs (fun x hx => h2 x (List.mem_cons_of_mem _ hx)) hs2
    exact ⟨by rw [e], rfl⟩
/-- A line runs in one way. -/
theorem Run.det {N : List UInt8 → Bool} {a : List UInt8} {p : Nat} {ts : List Tk} {e : Option Nat} (h : Run N a p ts e) : ∀ {us : List Tk} {f : Option Nat}, Run N a p us f → ts = us ∧ e = f := by
  induction h with
  | nil p =>
    intro us f g
    obtain ⟨rfl, rfl⟩ := g.inv_nil
    exact ⟨rfl, rfl⟩
  | blank h hr ih =>
    intro us f g
    rcases g.inv with ⟨_, g⟩ | ⟨t, r, us, _, h6, _⟩ | ⟨h0, _⟩ | ⟨h1, _⟩
    · exact ih g
    · omega
    · omega
    · omega
  | @part k c t r p ts e h h1 h6 ht hs hn hr ih =>
    intro us f g
    subst h
    rcases Run.inv (c := c) (l := t ++ r) g with ⟨h7, _⟩ | ⟨t', r', vs, _, _, hl, ht', hs', _, rfl, g⟩ | ⟨h0, _⟩ | ⟨g1, t', r', hl, ht', hs', hn', _⟩
    · omega
    · obtain ⟨rfl, rfl⟩ := split_eq hl ht hs ht' hs'
      obtain ⟨rfl, rfl⟩ := ih g
      exact ⟨rfl, rfl⟩
    · omega
    · rw [g1] at ht hs
      obtain ⟨rfl, rfl⟩ := split_eq hl ht hs ht' hs'
      rw [hn g1] at hn'
      cases hn'
  | @bad c r p h =>
    intro us f g
    rcases g.inv with ⟨_, g⟩ | ⟨t, r, us, _, h6, _⟩ | ⟨h0, rfl, rfl⟩ | ⟨h1, _⟩
    · omega
    · omega
    · exact ⟨rfl, rfl⟩
    · omega
  | @figs c t r p h ht hs hn =>
    intro us f g
    rcases Run.inv (c := c) (l := t ++ r) g with ⟨h7, _⟩ | ⟨t', r', vs, _, _, hl, ht', hs', hn', _⟩ | ⟨h0, _⟩ | ⟨g1, t', r', hl, ht', hs', hn', rfl, rfl⟩
    · omega
    · rw [h] at ht' hs'
      obtain ⟨rfl, rfl⟩ := split_eq hl ht hs ht' hs'
      rw [hn' h] at hn
      cases hn
    · omega
    · exact ⟨rfl, rfl⟩
/-- Each part alone is a line of itself. -/
theorem Run.each {N : List UInt8 → Bool} {a : List UInt8} {p : Nat} {ts : List Tk} {e : Option Nat} (h : Run N a p ts e) : ∀ t ∈ ts, Run N t.text 0 [⟨t.kind, t.text, 0⟩] none ∧ t.text.length ≤ a.length := by
  induction h with
  | nil p => exact fun t ht => by cases ht
  | blank h hr ih => exact fun t ht => ⟨(ih t ht).1, by have := (ih t ht).2; simp only [List.length_cons]; omega⟩
  | @part k c t r p ts e h h1 h6 ht hs hn hr ih =>
    intro u hu
    rcases List.mem_cons.1 hu with rfl | hu
    · have g := Run.part (r := []) (p := 0) h h1 h6 ht (Stop.nil k) hn (.nil _)
      rw [List.append_nil] at g
      exact ⟨g, by simp⟩
    · exact ⟨(ih u hu).1, by have := (ih u hu).2; simp only [List.length_append]; omega⟩
  | bad h => exact fun t ht => by cases ht
  | figs h ht hs hn => exact fun t ht => by cases ht
/-- A part as Lex tells it of its text, but for its place. -/
def Ps (q : Pk) : Prop := ∃ k : Nat, q.k = (k : Int) ∧ Run numB q.t 0 [⟨k, q.t, 0⟩] none
theorem Run.ps {a : List UInt8} {p : Nat} {ts : List Tk} {e : Option Nat} (h : Run numB a p ts e) : ∀ q ∈ ts.map Tk.pk, Ps q ∧ q.t.length ≤ a.length := by
  intro q hq
  obtain ⟨t, ht, rfl⟩ := List.mem_map.1 hq
  exact ⟨⟨t.kind, rfl, (h.each t ht).1⟩, (h.each t ht).2⟩
theorem Ps.of {q : Pk} (h : Ps q) : ∃ c t, q.t = c :: t ∧ q.k = (cls c : Int) ∧ 1 ≤ cls c ∧ cls c ≤ 6 ∧ (cls c = 1 → numB q.t = true) ∧ ∀ x ∈ t, (moreL (cls c)).contains x = true := by
  obtain ⟨k, hk, hr⟩ := h
  cases hq : q.t with
  | nil =>
    rw [hq] at hr
    cases hr.inv_nil.1
  | cons c l =>
    rw [hq] at hr
    rcases hr.inv with ⟨_, g⟩ | ⟨t, r, us, h1, h6, hl, ht, hs, hn, hts, g⟩ | ⟨h0, h, _⟩ | ⟨h1, t, r, _, _, _, _, h, _⟩
    · exact absurd (g.placed (s := 0 :: l) rfl) (fun h => by
        have := h.1
        revert this
        simp)
    · injection hts with e1 e2
      injection e1 with e3 e4 e5
      injection e4 with _ e4
      subst e3 e4
      exact ⟨c, l, rfl, hk, h1, h6, hn, ht⟩
    · cases h
    · cases h
end Go.Proofs.Ytljkmdmbndjngaa

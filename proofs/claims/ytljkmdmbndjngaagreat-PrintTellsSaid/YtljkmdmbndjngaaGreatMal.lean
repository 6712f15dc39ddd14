import Derived.Test.YtljkmdmbndjngaaGreatMak
/-
  Whether a node may be: plainly, and of the program, at every node.
-/
namespace Go.Proofs.YtljkmdmbndjngaaGreat
set_option linter.unusedVariables false
set_option linter.unusedSimpArgs false
open Go.RowKit

def emp (s : ByteArray) : Bool := s.toList.isEmpty
/-- May a node be? -/
noncomputable def okN (d : Nd) : Bool :=
  if d.k = 1 then numsB d.ns && (emp d.v && (emp d.a && emp d.x))
  else if 0 < d.ns.length then false
  else if d.k = 3 then emp d.x && (verbB d.v && advB d.a [39, 47, 92, 96])
  else if d.k = 4 then emp d.x && (verbB d.v && advB d.a [39, 46])
  else if !(emp d.v && emp d.a) then false
  else if d.k = 2 ∨ d.k = 5 ∨ d.k = 6 then prt d.x 2
  else if d.k = 7 then prt d.x 3
  else if d.k = 8 then emp d.x
  else false
theorem dec_emp (s : ByteArray) : decide (s.toList = (⟨#[]⟩ : ByteArray).toList) = emp s := by
  unfold emp
  rw [show (⟨#[]⟩ : ByteArray).toList = [] from by rw [str_tl]]
  cases s.toList <;> simp
theorem dec_nil (l : List ByteArray) : decide (l = []) = !decide (0 < l.length) := by
  cases l <;> simp
theorem dec_self {α : Type} [DecidableEq α] (a : α) : decide (a = a) = true := decide_eq_true rfl
theorem mayBe_is (d : Nd) (W : World) (hd : d.on W) : Calls Tryz.prog 19 #[d.val] W (ValEnd (.bool (okN d)) W) := by
  obtain ⟨k, v, a, x, g, m, c, ns⟩ := d
  show Calls _ _ #[.agg #[.int .i64 k, .string v, .string a, .string x, .slice g m c]] W _
  by_cases h : k < 1 ∨ 8 < k
  · rw [show okN ⟨k, v, a, x, g, m, c, ns⟩ = false by
      unfold okN
      simp only
      rw [if_neg (by omega), if_neg (show ¬ k = 3 by omega), if_neg (show ¬ k = 4 by omega), if_neg (show ¬ (k = 2 ∨ k = 5 ∨ k = 6) by omega), if_neg (show ¬ k = 7 by omega), if_neg (show ¬ k = 8 by omega)]
      repeat' split
      all_goals rfl]
    exact mayBe_none k v a x g m c W h
  have hk : k = 1 ∨ k = 2 ∨ k = 3 ∨ k = 4 ∨ k = 5 ∨ k = 6 ∨ k = 7 ∨ k = 8 := by omega
  clear h
  rcases hk with rfl | rfl | rfl | rfl | rfl | rfl | rfl | rfl
  · have e : (numsB ns && smN ⟨1, v, a, x, g, m, c, ns⟩ ⟨1, ⟨#[]⟩, ⟨#[]⟩, ⟨#[]⟩, g, m, c, ns⟩) = okN ⟨1, v, a, x, g, m, c, ns⟩ := by
      unfold okN smN
      simp only [dec_emp, dec_self, dec_nil]
      generalize emp v = p1
      generalize emp a = p2
      generalize emp x = p3
      generalize numsB ns = p4
      by_cases hl : 0 < ns.length <;> cases p1 <;> cases p2 <;> cases p3 <;> simp [hl]
    rw [← e]
    exact mayBe_lit v a x g m c ns W hd
  · have e : (prt x 2 && smN ⟨2, v, a, x, g, m, c, ns⟩ ⟨2, ⟨#[]⟩, ⟨#[]⟩, x, none, 0, 0, []⟩) = okN ⟨2, v, a, x, g, m, c, ns⟩ := by
      unfold okN smN
      simp only [dec_emp, dec_self, dec_nil]
      generalize emp v = p1
      generalize emp a = p2
      generalize emp x = p3
      generalize prt x _ = p6
      by_cases hl : 0 < ns.length <;> cases p1 <;> cases p2 <;> cases p3 <;> simp [hl]
    rw [← e]
    exact mayBe_name v a x g m c ns W hd
  · have e : ((verbB v && advB a [39, 47, 92, 96]) && smN ⟨3, v, a, x, g, m, c, ns⟩ ⟨3, v, a, ⟨#[]⟩, none, 0, 0, []⟩) = okN ⟨3, v, a, x, g, m, c, ns⟩ := by
      unfold okN smN
      simp only [dec_emp, dec_self, dec_nil]
      generalize emp v = p1
      generalize emp a = p2
      generalize emp x = p3
      generalize verbB v = p4
      generalize advB a _ = p5
      by_cases hl : 0 < ns.length <;> cases p1 <;> cases p2 <;> cases p3 <;> simp [hl]
    rw [← e]
    exact mayBe_monad v a x g m c ns W hd
  · have e : ((verbB v && advB a [39, 46]) && smN ⟨4, v, a, x, g, m, c, ns⟩ ⟨4, v, a, ⟨#[]⟩, none, 0, 0, []⟩) = okN ⟨4, v, a, x, g, m, c, ns⟩ := by
      unfold okN smN
      simp only [dec_emp, dec_self, dec_nil]
      generalize emp v = p1
      generalize emp a = p2
      generalize emp x = p3
      generalize verbB v = p4
      generalize advB a _ = p5
      by_cases hl : 0 < ns.length <;> cases p1 <;> cases p2 <;> cases p3 <;> simp [hl]
    rw [← e]
    exact mayBe_dyad v a x g m c ns W hd
  · have e : (prt x 2 && smN ⟨5, v, a, x, g, m, c, ns⟩ ⟨5, ⟨#[]⟩, ⟨#[]⟩, x, none, 0, 0, []⟩) = okN ⟨5, v, a, x, g, m, c, ns⟩ := by
      unfold okN smN
      simp only [dec_emp, dec_self, dec_nil]
      generalize emp v = p1
      generalize emp a = p2
      generalize emp x = p3
      generalize prt x _ = p6
      by_cases hl : 0 < ns.length <;> cases p1 <;> cases p2 <;> cases p3 <;> simp [hl]
    rw [← e]
    exact mayBe_assign v a x g m c ns W hd
  · have e : (prt x 2 && smN ⟨6, v, a, x, g, m, c, ns⟩ ⟨6, ⟨#[]⟩, ⟨#[]⟩, x, none, 0, 0, []⟩) = okN ⟨6, v, a, x, g, m, c, ns⟩ := by
      unfold okN smN
      simp only [dec_emp, dec_self, dec_nil]
      generalize emp v = p1
      generalize emp a = p2
      generalize emp x = p3
      generalize prt x _ = p6
      by_cases hl : 0 < ns.length <;> cases p1 <;> cases p2 <;> cases p3 <;> simp [hl]
    rw [← e]
    exact mayBe_amend v a x g m c ns W hd
  · have e : (prt x 3 && smN ⟨7, v, a, x, g, m, c, ns⟩ ⟨7, ⟨#[]⟩, ⟨#[]⟩, x, none, 0, 0, []⟩) = okN ⟨7, v, a, x, g, m, c, ns⟩ := by
      unfold okN smN
      simp only [dec_emp, dec_self, dec_nil]
      generalize emp v = p1
      generalize emp a = p2
      generalize emp x = p3
      generalize prt x _ = p6
      by_cases hl : 0 < ns.length <;> cases p1 <;> cases p2 <;> cases p3 <;> simp [hl]
    rw [← e]
    exact mayBe_define v a x g m c ns W hd
  · have e : (true && smN ⟨8, v, a, x, g, m, c, ns⟩ ⟨8, ⟨#[]⟩, ⟨#[]⟩, ⟨#[]⟩, none, 0, 0, []⟩) = okN ⟨8, v, a, x, g, m, c, ns⟩ := by
      unfold okN smN
      simp only [dec_emp, dec_self, dec_nil]
      generalize emp v = p1
      generalize emp a = p2
      generalize emp x = p3
      by_cases hl : 0 < ns.length <;> cases p1 <;> cases p2 <;> cases p3 <;> simp [hl]
    rw [← e]
    exact mayBe_index v a x g m c ns W hd
end Go.Proofs.YtljkmdmbndjngaaGreat
/-
  Whether a node may be: of the reference.
-/
namespace Go.Proofs.YtljkmdmbndjngaaGreat
set_option linter.unusedVariables false
set_option linter.unusedSimpArgs false
open Go.RowKit

theorem okN_lit (v a x : ByteArray) (g : Option Addr) (m c : Nat) (ns : List ByteArray) : okN ⟨1, v, a, x, g, m, c, ns⟩ = (numsB ns && (emp v && (emp a && emp x))) := by
  unfold okN
  simp only [if_true]
set_option maxHeartbeats 3200000 in
theorem rOne_lit (v a x : ByteArray) (g : Option Addr) (m c : Nat) (ns : List ByteArray) (W : World) (hd : (Nd.mk 1 v a x g m c ns).on W) :
    Calls Tryz.prog 32 #[.agg #[.int .i64 1, .string v, .string a, .string x, .slice g m c]] W (ValEnd (.bool (okN ⟨1, v, a, x, g, m, c, ns⟩)) W) := by
  rw [okN_lit]
  have hm : m ≤ 9223372036854775807 := maxLen_le (Nat.le_trans hd.mc hd.cm)
  have hl : ns.length = m := hd.nl
  have hb0 := box_below W (.cells #[.int .i64 1, .string v, .string a, .string x, .slice g m c] 37)
  have hA := Bd.new W 1 v a x g m c
  have a0 := hA.c0
  have a1 := hA.c1
  have a2 := hA.c2
  have a3 := hA.c3
  have a4 := hA.c4
  have HD := Lib.hid hd
  have HS := Lib.hid (hd.st.below hb0)
  have HB := Lib.hid hb0
  obtain ⟨w1, hw1⟩ : ∃ w1, w1 = W.alloc (.cells #[.int .i64 1, .string v, .string a, .string x, .slice g m c] 37) := ⟨_, rfl⟩
  rw [← hw1] at hb0 hA a0 a1 a2 a3 a4 HS HB
  have HW1 := Lib.hid hw1
  clear hd hb0 hA hw1
  go_enter Tryz.func32, Tryz.ntmps32
  go_wp2_with fail
  rw [← HW1.out]
  clear HW1
  go_loop [3] (fun i => ∃ j : Nat, i = .int .i64 j ∧ j ≤ m ∧ alN ns = alN (ns.drop j)) (fun i => m - (intOf i).toNat)
  case atStart => exact ⟨0, rfl, Nat.zero_le _, rfl⟩
  case round =>
    obtain ⟨j, rfl, hj, hI⟩ := hrel
    have HI := Lib.hid hI
    clear hI
    by_cases h1 : j < m
    · have e2 : (j : Int) < (m : Int) := by omega
      obtain ⟨b, off, rfl, hc⟩ := HS.out.2 (by omega)
      have cj := hc j h1
      have hdr := drop_getD (l := ns) (j := j) (by omega)
      have K := rMay_any (ns.getD j ByteArray.empty) (HD.out.nz _ (getD_mem (show j < ns.length by omega))) w1
      obtain ⟨s, hs⟩ : ∃ s, s = ns.getD j ByteArray.empty := ⟨_, rfl⟩
      rw [← hs] at cj hdr K
      cases hmy : mayL s.data.toList with
      | true =>
        rw [hmy] at K
        replace K := Lib.hid K
        have HN := Lib.hid (show alN ns = alN (ns.drop (j + 1)) by rw [HI.out, hdr]; unfold alN; rw [List.all_cons, hmy, Bool.true_and])
        clear hdr hmy hc hs
        go_wp2_with fail
        refine K.out.mono ?_
        rintro e w2 ⟨rfl, rfl⟩
        go_wp2_with fail
        go_round
        case rel => exact ⟨j + 1, by go_num, by omega, HN.out⟩
        case measure => simp [intOf]; omega
      | false =>
        rw [hmy] at K
        replace K := Lib.hid K
        have HN := Lib.hid (show numsB ns = false by unfold numsB; rw [HI.out, hdr]; unfold alN; rw [List.all_cons, hmy]; simp)
        clear hdr hmy hc hs
        go_wp2_with fail
        refine K.out.mono ?_
        rintro e w2 ⟨rfl, rfl⟩
        go_wp2_with fail
        go_ret
        exact ⟨by rw [HN.out]; rfl, HB.out⟩
    · have e2 : ¬ (j : Int) < (m : Int) := by omega
      have hal : alN ns = true := by rw [HI.out, List.drop_eq_nil_of_le (by omega)]; rfl
      have HQ := Lib.hid (show (numsB ns && (emp v && (emp a && emp x))) = (decide ((1 : Int) ≤ (m : Int)) && (decide ((m : Int) ≤ 100) && (v.toList.isEmpty && (a.toList.isEmpty && x.toList.isEmpty)))) by
        unfold numsB emp
        rw [hal, hl, Bool.and_true, Bool.and_assoc]
        congr 1
        · exact decide_eq_decide.2 (by omega)
        · congr 1
          exact decide_eq_decide.2 (by omega))
      clear hal HI HD HS
      go_wp2_with fail
      all_goals
        go_ret
        exact ⟨by rw [HQ.out]; first | (simp_all; done) | (simp_all; intros; omega), HB.out⟩
set_option maxHeartbeats 3200000 in
theorem rOne_many (k : Int) (v a x : ByteArray) (g : Option Addr) (m c : Nat) (W : World) (hk : k ≠ 1) (hm : 0 < m) :
    Calls Tryz.prog 32 #[.agg #[.int .i64 k, .string v, .string a, .string x, .slice g m c]] W (ValEnd (.bool false) W) := by
  have hb0 := box_below W (.cells #[.int .i64 k, .string v, .string a, .string x, .slice g m c] 37)
  have hA := Bd.new W k v a x g m c
  have a0 := hA.c0
  have a1 := hA.c1
  have a2 := hA.c2
  have a3 := hA.c3
  have a4 := hA.c4
  have HB := Lib.hid hb0
  have HA := Lib.hid hA
  clear hb0 hA
  have e1 : (k == 1) = false := beq_eq_false_iff_ne.2 hk
  have e2 : (0 : Int) < (m : Int) := by omega
  go_enter Tryz.func32, Tryz.ntmps32
  go_wp2_with fail
  go_ret
  exact ⟨rfl, HB.out⟩
set_option maxHeartbeats 3200000 in
theorem rOne_extra (k : Int) (v a x : ByteArray) (g : Option Addr) (m c : Nat) (W : World) (hk : k ≠ 1) (h3 : k ≠ 3) (h4 : k ≠ 4) (hm : m = 0) (h : v.toList.isEmpty = false ∨ a.toList.isEmpty = false) :
    Calls Tryz.prog 32 #[.agg #[.int .i64 k, .string v, .string a, .string x, .slice g m c]] W (ValEnd (.bool false) W) := by
  subst hm
  have hb0 := box_below W (.cells #[.int .i64 k, .string v, .string a, .string x, .slice g 0 c] 37)
  have hA := Bd.new W k v a x g 0 c
  have a0 := hA.c0
  have a1 := hA.c1
  have a2 := hA.c2
  have a3 := hA.c3
  have a4 := hA.c4
  have HB := Lib.hid hb0
  have HA := Lib.hid hA
  clear hb0 hA
  have e1 : (k == 1) = false := beq_eq_false_iff_ne.2 (by omega)
  have e3 : (k == 3) = false := beq_eq_false_iff_ne.2 (by omega)
  have e4 : (k == 4) = false := beq_eq_false_iff_ne.2 (by omega)
  clear hk h3 h4
  by_cases hv : v.toList.isEmpty = false
  · go_enter Tryz.func32, Tryz.ntmps32
    go_wp2_with fail
    go_ret
    exact ⟨rfl, HB.out⟩
  · have hv2 : v.toList.isEmpty = true := by simpa using hv
    have ha : a.toList.isEmpty = false := h.resolve_left hv
    clear h hv
    go_enter Tryz.func32, Tryz.ntmps32
    go_wp2_with fail
    go_ret
    exact ⟨rfl, HB.out⟩
set_option maxHeartbeats 3200000 in
theorem rOne_none (k : Int) (v a x : ByteArray) (g : Option Addr) (m c : Nat) (W : World) (hk : k < 1 ∨ 8 < k) (hm : m = 0) (hv : v.toList.isEmpty = true) (ha : a.toList.isEmpty = true) :
    Calls Tryz.prog 32 #[.agg #[.int .i64 k, .string v, .string a, .string x, .slice g m c]] W (ValEnd (.bool false) W) := by
  subst hm
  have hb0 := box_below W (.cells #[.int .i64 k, .string v, .string a, .string x, .slice g 0 c] 37)
  have hA := Bd.new W k v a x g 0 c
  have a0 := hA.c0
  have a1 := hA.c1
  have a2 := hA.c2
  have a3 := hA.c3
  have a4 := hA.c4
  have HB := Lib.hid hb0
  have HA := Lib.hid hA
  clear hb0 hA
  have e1 : (k == 1) = false := beq_eq_false_iff_ne.2 (by omega)
  have e2 : (k == 2) = false := beq_eq_false_iff_ne.2 (by omega)
  have e3 : (k == 3) = false := beq_eq_false_iff_ne.2 (by omega)
  have e4 : (k == 4) = false := beq_eq_false_iff_ne.2 (by omega)
  have e5 : (k == 5) = false := beq_eq_false_iff_ne.2 (by omega)
  have e6 : (k == 6) = false := beq_eq_false_iff_ne.2 (by omega)
  have e7 : (k == 7) = false := beq_eq_false_iff_ne.2 (by omega)
  have e8 : (k == 8) = false := beq_eq_false_iff_ne.2 (by omega)
  clear hk
  go_enter Tryz.func32, Tryz.ntmps32
  go_wp2_with fail
  go_ret
  exact ⟨rfl, HB.out⟩
set_option maxHeartbeats 3200000 in
theorem rOne_name (v a x : ByteArray) (g : Option Addr) (m c : Nat) (W : World) (hm : m = 0) (hv : v.toList.isEmpty = true) (ha : a.toList.isEmpty = true) (hx : x.size ≤ 9223372036854775807) :
    Calls Tryz.prog 32 #[.agg #[.int .i64 2, .string v, .string a, .string x, .slice g m c]] W (ValEnd (.bool (prt x 2)) W) := by
  subst hm
  have hb0 := box_below W (.cells #[.int .i64 2, .string v, .string a, .string x, .slice g 0 c] 37)
  have hA := Bd.new W 2 v a x g 0 c
  have a0 := hA.c0
  have a1 := hA.c1
  have a2 := hA.c2
  have a3 := hA.c3
  have a4 := hA.c4
  have HB := Lib.hid hb0
  have HA := Lib.hid hA
  clear hb0 hA
  have K := Lib.hid (fun w => rpart_is x 2 hx w)
  go_enter Tryz.func32, Tryz.ntmps32
  go_wp2_with fail
  refine (K.out _).mono ?_
  rintro e w1 ⟨rfl, hb⟩
  clear a0 a1 a2 a3 a4
  go_wp2_with fail
  go_ret
  exact ⟨rfl, HB.out.trans (hb.mono HB.out.size)⟩
set_option maxHeartbeats 3200000 in
theorem rOne_assign (v a x : ByteArray) (g : Option Addr) (m c : Nat) (W : World) (hm : m = 0) (hv : v.toList.isEmpty = true) (ha : a.toList.isEmpty = true) (hx : x.size ≤ 9223372036854775807) :
    Calls Tryz.prog 32 #[.agg #[.int .i64 5, .string v, .string a, .string x, .slice g m c]] W (ValEnd (.bool (prt x 2)) W) := by
  subst hm
  have hb0 := box_below W (.cells #[.int .i64 5, .string v, .string a, .string x, .slice g 0 c] 37)
  have hA := Bd.new W 5 v a x g 0 c
  have a0 := hA.c0
  have a1 := hA.c1
  have a2 := hA.c2
  have a3 := hA.c3
  have a4 := hA.c4
  have HB := Lib.hid hb0
  have HA := Lib.hid hA
  clear hb0 hA
  have K := Lib.hid (fun w => rpart_is x 2 hx w)
  go_enter Tryz.func32, Tryz.ntmps32
  go_wp2_with fail
  refine (K.out _).mono ?_
  rintro e w1 ⟨rfl, hb⟩
  clear a0 a1 a2 a3 a4
  go_wp2_with fail
  go_ret
  exact ⟨rfl, HB.out.trans (hb.mono HB.out.size)⟩
set_option maxHeartbeats 3200000 in
theorem rOne_amend (v a x : ByteArray) (g : Option Addr) (m c : Nat) (W : World) (hm : m = 0) (hv : v.toList.isEmpty = true) (ha : a.toList.isEmpty = true) (hx : x.size ≤ 9223372036854775807) :
    Calls Tryz.prog 32 #[.agg #[.int .i64 6, .string v, .string a, .string x, .slice g m c]] W (ValEnd (.bool (prt x 2)) W) := by
  subst hm
  have hb0 := box_below W (.cells #[.int .i64 6, .string v, .string a, .string x, .slice g 0 c] 37)
  have hA := Bd.new W 6 v a x g 0 c
  have a0 := hA.c0
  have a1 := hA.c1
  have a2 := hA.c2
  have a3 := hA.c3
  have a4 := hA.c4
  have HB := Lib.hid hb0
  have HA := Lib.hid hA
  clear hb0 hA
  have K := Lib.hid (fun w => rpart_is x 2 hx w)
  go_enter Tryz.func32, Tryz.ntmps32
  go_wp2_with fail
  refine (K.out _).mono ?_
  rintro e w1 ⟨rfl, hb⟩
  clear a0 a1 a2 a3 a4
  go_wp2_with fail
  go_ret
  exact ⟨rfl, HB.out.trans (hb.mono HB.out.size)⟩
set_option maxHeartbeats 3200000 in
theorem rOne_define (v a x : ByteArray) (g : Option Addr) (m c : Nat) (W : World) (hm : m = 0) (hv : v.toList.isEmpty = true) (ha : a.toList.isEmpty = true) (hx : x.size ≤ 9223372036854775807) :
    Calls Tryz.prog 32 #[.agg #[.int .i64 7, .string v, .string a, .string x, .slice g m c]] W (ValEnd (.bool (prt x 3)) W) := by
  subst hm
  have hb0 := box_below W (.cells #[.int .i64 7, .string v, .string a, .string x, .slice g 0 c] 37)
  have hA := Bd.new W 7 v a x g 0 c
  have a0 := hA.c0
  have a1 := hA.c1
  have a2 := hA.c2
  have a3 := hA.c3
  have a4 := hA.c4
  have HB := Lib.hid hb0
  have HA := Lib.hid hA
  clear hb0 hA
  have K := Lib.hid (fun w => rpart_is x 3 hx w)
  go_enter Tryz.func32, Tryz.ntmps32
  go_wp2_with fail
  refine (K.out _).mono ?_
  rintro e w1 ⟨rfl, hb⟩
  clear a0 a1 a2 a3 a4
  go_wp2_with fail
  go_ret
  exact ⟨rfl, HB.out.trans (hb.mono HB.out.size)⟩
set_option maxHeartbeats 3200000 in
theorem rOne_index (v a x : ByteArray) (g : Option Addr) (m c : Nat) (W : World) (hm : m = 0) (hv : v.toList.isEmpty = true) (ha : a.toList.isEmpty = true) :
    Calls Tryz.prog 32 #[.agg #[.int .i64 8, .string v, .string a, .string x, .slice g m c]] W (ValEnd (.bool (emp x)) W) := by
  subst hm
  have hb0 := box_below W (.cells #[.int .i64 8, .string v, .string a, .string x, .slice g 0 c] 37)
  have hA := Bd.new W 8 v a x g 0 c
  have a0 := hA.c0
  have a1 := hA.c1
  have a2 := hA.c2
  have a3 := hA.c3
  have a4 := hA.c4
  have HB := Lib.hid hb0
  have HA := Lib.hid hA
  clear hb0 hA
  unfold emp
  cases h : x.toList.isEmpty
  all_goals
    go_enter Tryz.func32, Tryz.ntmps32
    go_wp2_with fail
    go_ret
    exact ⟨rfl, HB.out⟩
set_option maxHeartbeats 3200000 in
theorem rOne_monad (v a x : ByteArray) (g : Option Addr) (m c : Nat) (W : World) (hm : m = 0) (hv : v.size ≤ 9223372036854775807) :
    Calls Tryz.prog 32 #[.agg #[.int .i64 3, .string v, .string a, .string x, .slice g m c]] W (ValEnd (.bool (emp x && (verbB v && advB a [39, 47, 92, 96]))) W) := by
  subst hm
  have hb0 := box_below W (.cells #[.int .i64 3, .string v, .string a, .string x, .slice g 0 c] 37)
  have hA := Bd.new W 3 v a x g 0 c
  have a0 := hA.c0
  have a1 := hA.c1
  have a2 := hA.c2
  have a3 := hA.c3
  have a4 := hA.c4
  have HB := Lib.hid hb0
  have HA := Lib.hid hA
  clear hb0 hA
  have K4 := fun w => rpart_is v 4 hv w
  have K3 := fun w => rpart_is v 3 hv w
  have KA : ∀ w, Calls Tryz.prog 54 #[.string a, .string ⟨#[39, 47, 92, 96]⟩] w (ValEnd (.bool (advB a [39, 47, 92, 96])) w) := fun w => rhas_is a ⟨#[39, 47, 92, 96]⟩ (by decide) w
  unfold verbB emp
  generalize prt v 4 = p4 at *
  generalize prt v 3 = p3 at *
  generalize advB a [39, 47, 92, 96] = p5 at *
  replace K4 := Lib.hid K4
  replace K3 := Lib.hid K3
  replace KA := Lib.hid KA
  cases hx : x.toList.isEmpty with
  | false =>
    go_enter Tryz.func32, Tryz.ntmps32
    go_wp2_with fail
    go_ret
    exact ⟨rfl, HB.out⟩
  | true =>
    cases h1 : v.toList == [123] with
    | true =>
      cases p5
      all_goals
        go_enter Tryz.func32, Tryz.ntmps32
        go_wp2_with fail
        refine (KA.out _).mono ?_
        rintro e w7 ⟨rfl, hb7⟩
        clear a0 a1 a2 a3 a4
        go_wp2_with fail
        go_ret
        exact ⟨rfl, HB.out.trans (hb7.mono HB.out.size)⟩
    | false =>
      cases p4 with
      | true =>
        cases p5
        all_goals
          go_enter Tryz.func32, Tryz.ntmps32
          go_wp2_with fail
          refine (K4.out _).mono ?_
          rintro e w1 ⟨rfl, hb1⟩
          have hb := HB.out.trans (hb1.mono HB.out.size)
          have hA1 := HA.out.on hb1
          clear a0 a1 a2 a3 a4
          have a2 := hA1.c2
          clear hb1
          go_wp2_with fail
          refine (KA.out _).mono ?_
          rintro e w7 ⟨rfl, hb7⟩
          replace hb := hb.trans (hb7.mono hb.size)
          clear a2 hb7
          go_wp2_with fail
          go_ret
          exact ⟨rfl, hb⟩
      | false =>
        cases p3 with
        | true =>
          cases p5
          all_goals
            go_enter Tryz.func32, Tryz.ntmps32
            go_wp2_with fail
            refine (K4.out _).mono ?_
            rintro e w1 ⟨rfl, hb1⟩
            have hb := HB.out.trans (hb1.mono HB.out.size)
            have hA1 := HA.out.on hb1
            clear a0 a1 a2 a3 a4
            have a1 := hA1.c1
            clear hb1
            go_wp2_with fail
            refine (K3.out _).mono ?_
            rintro e w2 ⟨rfl, hb1⟩
            replace hb := hb.trans (hb1.mono hb.size)
            have hA2 := hA1.on hb1
            clear a1 hb1
            have a2 := hA2.c2
            go_wp2_with fail
            refine (KA.out _).mono ?_
            rintro e w7 ⟨rfl, hb7⟩
            replace hb := hb.trans (hb7.mono hb.size)
            clear a2 hb7
            go_wp2_with fail
            go_ret
            exact ⟨rfl, hb⟩
        | false =>
          go_enter Tryz.func32, Tryz.ntmps32
          go_wp2_with fail
          refine (K4.out _).mono ?_
          rintro e w1 ⟨rfl, hb1⟩
          have hb := HB.out.trans (hb1.mono HB.out.size)
          have hA1 := HA.out.on hb1
          clear a0 a1 a2 a3 a4
          have a1 := hA1.c1
          clear hb1
          go_wp2_with fail
          refine (K3.out _).mono ?_
          rintro e w2 ⟨rfl, hb1⟩
          replace hb := hb.trans (hb1.mono hb.size)
          clear a1 hb1
          go_wp2_with fail
          go_ret
          exact ⟨rfl, hb⟩
set_option maxHeartbeats 3200000 in
theorem rOne_dyad (v a x : ByteArray) (g : Option Addr) (m c : Nat) (W : World) (hm : m = 0) (hv : v.size ≤ 9223372036854775807) :
    Calls Tryz.prog 32 #[.agg #[.int .i64 4, .string v, .string a, .string x, .slice g m c]] W (ValEnd (.bool (emp x && (verbB v && advB a [39, 46]))) W) := by
  subst hm
  have hb0 := box_below W (.cells #[.int .i64 4, .string v, .string a, .string x, .slice g 0 c] 37)
  have hA := Bd.new W 4 v a x g 0 c
  have a0 := hA.c0
  have a1 := hA.c1
  have a2 := hA.c2
  have a3 := hA.c3
  have a4 := hA.c4
  have HB := Lib.hid hb0
  have HA := Lib.hid hA
  clear hb0 hA
  have K4 := fun w => rpart_is v 4 hv w
  have K3 := fun w => rpart_is v 3 hv w
  have KA : ∀ w, Calls Tryz.prog 54 #[.string a, .string ⟨#[39, 46]⟩] w (ValEnd (.bool (advB a [39, 46])) w) := fun w => rhas_is a ⟨#[39, 46]⟩ (by decide) w
  unfold verbB emp
  generalize prt v 4 = p4 at *
  generalize prt v 3 = p3 at *
  generalize advB a [39, 46] = p5 at *
  replace K4 := Lib.hid K4
  replace K3 := Lib.hid K3
  replace KA := Lib.hid KA
  cases hx : x.toList.isEmpty with
  | false =>
    go_enter Tryz.func32, Tryz.ntmps32
    go_wp2_with fail
    go_ret
    exact ⟨rfl, HB.out⟩
  | true =>
    cases h1 : v.toList == [123] with
    | true =>
      cases p5
      all_goals
        go_enter Tryz.func32, Tryz.ntmps32
        go_wp2_with fail
        refine (KA.out _).mono ?_
        rintro e w7 ⟨rfl, hb7⟩
        clear a0 a1 a2 a3 a4
        go_wp2_with fail
        go_ret
        exact ⟨rfl, HB.out.trans (hb7.mono HB.out.size)⟩
    | false =>
      cases p4 with
      | true =>
        cases p5
        all_goals
          go_enter Tryz.func32, Tryz.ntmps32
          go_wp2_with fail
          refine (K4.out _).mono ?_
          rintro e w1 ⟨rfl, hb1⟩
          have hb := HB.out.trans (hb1.mono HB.out.size)
          have hA1 := HA.out.on hb1
          clear a0 a1 a2 a3 a4
          have a2 := hA1.c2
          clear hb1
          go_wp2_with fail
          refine (KA.out _).mono ?_
          rintro e w7 ⟨rfl, hb7⟩
          replace hb := hb.trans (hb7.mono hb.size)
          clear a2 hb7
          go_wp2_with fail
          go_ret
          exact ⟨rfl, hb⟩
      | false =>
        cases p3 with
        | true =>
          cases p5
          all_goals
            go_enter Tryz.func32, Tryz.ntmps32
            go_wp2_with fail
            refine (K4.out _).mono ?_
            rintro e w1 ⟨rfl, hb1⟩
            have hb := HB.out.trans (hb1.mono HB.out.size)
            have hA1 := HA.out.on hb1
            clear a0 a1 a2 a3 a4
            have a1 := hA1.c1
            clear hb1
            go_wp2_with fail
            refine (K3.out _).mono ?_
            rintro e w2 ⟨rfl, hb1⟩
            replace hb := hb.trans (hb1.mono hb.size)
            have hA2 := hA1.on hb1
            clear a1 hb1
            have a2 := hA2.c2
            go_wp2_with fail
            refine (KA.out _).mono ?_
            rintro e w7 ⟨rfl, hb7⟩
            replace hb := hb.trans (hb7.mono hb.size)
            clear a2 hb7
            go_wp2_with fail
            go_ret
            exact ⟨rfl, hb⟩
        | false =>
          go_enter Tryz.func32, Tryz.ntmps32
          go_wp2_with fail
          refine (K4.out _).mono ?_
          rintro e w1 ⟨rfl, hb1⟩
          have hb := HB.out.trans (hb1.mono HB.out.size)
          have hA1 := HA.out.on hb1
          clear a0 a1 a2 a3 a4
          have a1 := hA1.c1
          clear hb1
          go_wp2_with fail
          refine (K3.out _).mono ?_
          rintro e w2 ⟨rfl, hb1⟩
          replace hb := hb.trans (hb1.mono hb.size)
          clear a1 hb1
          go_wp2_with fail
          go_ret
          exact ⟨rfl, hb⟩
theorem rOne_is (d : Nd) (W : World) (hd : d.on W) : Calls Tryz.prog 32 #[d.val] W (ValEnd (.bool (okN d)) W) := by
  have hnl := hd.nl
  obtain ⟨k, v, a, x, g, m, c, ns⟩ := d
  have hnl : ns.length = m := hnl
  show Calls _ _ #[.agg #[.int .i64 k, .string v, .string a, .string x, .slice g m c]] W _
  by_cases h1 : k = 1
  · subst h1
    exact rOne_lit v a x g m c ns W hd
  by_cases hm : 0 < m
  · rw [show okN ⟨k, v, a, x, g, m, c, ns⟩ = false by
      unfold okN
      simp only [hnl]
      rw [if_neg h1, if_pos hm]]
    exact rOne_many k v a x g m c W h1 hm
  have hm0 : m = 0 := by omega
  by_cases h3 : k = 3
  · subst h3
    rw [show okN ⟨3, v, a, x, g, m, c, ns⟩ = (emp x && (verbB v && advB a [39, 47, 92, 96])) by
      unfold okN
      simp [hnl, hm0]]
    exact rOne_monad v a x g m c W hm0 (maxLen_le hd.vz)
  by_cases h4 : k = 4
  · subst h4
    rw [show okN ⟨4, v, a, x, g, m, c, ns⟩ = (emp x && (verbB v && advB a [39, 46])) by
      unfold okN
      simp [hnl, hm0]]
    exact rOne_dyad v a x g m c W hm0 (maxLen_le hd.vz)
  by_cases he : v.toList.isEmpty = false ∨ a.toList.isEmpty = false
  · rw [show okN ⟨k, v, a, x, g, m, c, ns⟩ = false by
      unfold okN
      simp only [hnl]
      rw [if_neg h1, if_neg hm, if_neg h3, if_neg h4, if_pos (by unfold emp; rcases he with he | he <;> rw [he] <;> simp)]]
    exact rOne_extra k v a x g m c W h1 h3 h4 hm0 he
  have hv : v.toList.isEmpty = true := by
    cases h : v.toList.isEmpty with
    | true => rfl
    | false => exact absurd (.inl h) he
  have ha : a.toList.isEmpty = true := by
    cases h : a.toList.isEmpty with
    | true => rfl
    | false => exact absurd (.inr h) he
  have e0 : okN ⟨k, v, a, x, g, m, c, ns⟩ = if k = 2 ∨ k = 5 ∨ k = 6 then prt x 2 else if k = 7 then prt x 3 else if k = 8 then emp x else false := by
    unfold okN
    simp only [hnl]
    rw [if_neg h1, if_neg hm, if_neg h3, if_neg h4, if_neg (by unfold emp; rw [hv, ha]; simp)]
  rw [e0]
  by_cases h : k < 1 ∨ 8 < k
  · rw [if_neg (by omega), if_neg (by omega), if_neg (by omega)]
    exact rOne_none k v a x g m c W h hm0 hv ha
  have hk : k = 2 ∨ k = 5 ∨ k = 6 ∨ k = 7 ∨ k = 8 := by omega
  rcases hk with rfl | rfl | rfl | rfl | rfl
  · exact rOne_name v a x g m c W hm0 hv ha (maxLen_le hd.xz)
  · exact rOne_assign v a x g m c W hm0 hv ha (maxLen_le hd.xz)
  · exact rOne_amend v a x g m c W hm0 hv ha (maxLen_le hd.xz)
  · exact rOne_define v a x g m c W hm0 hv ha (maxLen_le hd.xz)
  · exact rOne_index v a x g m c W hm0 hv ha
end Go.Proofs.YtljkmdmbndjngaaGreat
/-
  Whether a list is a tree that may be: plainly, of the program, and of the reference.
-/
namespace Go.Proofs.YtljkmdmbndjngaaGreat
set_option linter.unusedVariables false
set_option linter.unusedSimpArgs false
open Go.RowKit

def hdN (k : Int) : Bool := decide (5 ≤ k) && decide (k ≤ 7)
def mayP (f : Nat → Nd) (n : Nat) : Prop := ∃ d, Fd (ksF f n) 0 1 n d ∧ d ≤ 40 ∧ ∀ i, i < n → okN (f i) = true ∧ (0 < i → hdN (f i).k = false)
open Classical in
noncomputable def mayB (f : Nat → Nd) (n : Nat) : Bool := decide (mayP f n)
open Classical in
theorem mayB_yes {f : Nat → Nd} {n : Nat} : mayB f n = true ↔ mayP f n := by
  unfold mayB
  exact decide_eq_true_iff
open Classical in
theorem mayB_no {f : Nat → Nd} {n : Nat} (h : ¬ mayP f n) : mayB f n = false := by
  unfold mayB
  exact decide_eq_false h
theorem head_is (k : Int) (v a x : ByteArray) (g : Option Addr) (m c : Nat) (W : World) : Calls Tryz.prog 20 #[.agg #[.int .i64 k, .string v, .string a, .string x, .slice g m c]] W (ValEnd (.bool (hdN k)) W) := by
  have hb0 := box_below W (.cells #[.int .i64 k, .string v, .string a, .string x, .slice g m c] 37)
  have hA := Bd.new W k v a x g m c
  have a0 := hA.c0
  have HB := Lib.hid hb0
  clear hb0 hA
  unfold hdN
  by_cases h : 5 ≤ k ∧ k ≤ 7
  · rw [decide_eq_true h.1, decide_eq_true h.2]
    have hk : k = 5 ∨ k = 6 ∨ k = 7 := by omega
    clear h
    rcases hk with rfl | rfl | rfl
    all_goals
      go_enter Tryz.func20, Tryz.ntmps20
      go_wp2_with fail
      go_ret
      exact ⟨rfl, HB.out⟩
  · rw [show (decide (5 ≤ k) && decide (k ≤ 7)) = false by
      by_cases h5 : 5 ≤ k
      · rw [decide_eq_false (show ¬ k ≤ 7 by omega), Bool.and_false]
      · rw [decide_eq_false h5, Bool.false_and]]
    have e5 : (k == 5) = false := beq_eq_false_iff_ne.2 (by omega)
    have e6 : (k == 6) = false := beq_eq_false_iff_ne.2 (by omega)
    have e7 : (k == 7) = false := beq_eq_false_iff_ne.2 (by omega)
    clear h
    go_enter Tryz.func20, Tryz.ntmps20
    go_wp2_with fail
    go_ret
    exact ⟨rfl, HB.out⟩
theorem may_none {f : Nat → Nd} {n : Nat} (h : eN (ksF f n) 1 0 = none) : mayB f n = false := mayB_no fun ⟨d, hd, _⟩ => by rw [hd.ends] at h; cases h
theorem may_short {f : Nat → Nd} {n e : Nat} (h : eN (ksF f n) 1 0 = some e) (he : e ≠ n) : mayB f n = false := mayB_no fun ⟨d, hd, _⟩ => by
  rw [hd.ends] at h
  injection h with h
  exact he h.symm
theorem may_deep {f : Nat → Nd} {n d : Nat} (h : Fd (ksF f n) 0 1 n d) (hd : 40 < d) : mayB f n = false := mayB_no fun ⟨d', hd', h2, _⟩ => by
  have := (h.det hd').2
  omega
set_option maxHeartbeats 3200000 in
theorem TMay_is (a : Option Addr) (n c : Nat) (f : Nat → Nd) (W : World) (h : Nq W a n f) (hnc : n ≤ c) (hc : c ≤ maxLen) (hn : n ≤ 1000000) :
    Calls Tryz.prog 10 #[.slice a n c] W (ValEnd (.bool (mayB f n)) W) := by
  have KE := End_in a n c f 0 W h hn (by omega)
  cases he : eN (ksF f n) 1 0 with
  | none =>
    rw [he] at KE
    replace KE := Lib.hid KE
    rw [may_none he]
    clear he
    go_enter Tryz.func10, Tryz.ntmps10
    go_wp2_with fail
    refine KE.out.mono ?_
    rintro e w1 ⟨rfl, hb⟩
    unfold endV
    go_wp2_with fail
    go_ret
    exact ⟨rfl, hb⟩
  | some e =>
    rw [he] at KE
    replace KE := Lib.hid KE
    obtain ⟨d, hF⟩ := Fd.ex he
    have hle := hF.le.2 (by omega)
    rw [ks_len] at hle
    have hD := hF.deep
    by_cases hen : e = n
    · subst hen
      have KD := Lib.hid (fun w hw => Depth_some a e c f e d w hw hnc hc hn hF)
      have H := Lib.hid h
      by_cases hd : 40 < d
      · rw [may_deep hF hd]
        have e2 : (40 : Int) < (d : Int) := by omega
        clear he hF h
        go_enter Tryz.func10, Tryz.ntmps10
        go_wp2_with fail
        refine KE.out.mono ?_
        rintro e' w1 ⟨rfl, hb⟩
        unfold endV
        go_wp2_with fail
        refine (KD.out _ (H.out.below hb)).mono ?_
        rintro e' w2 ⟨rfl, hb1⟩
        replace hb := hb.trans (hb1.mono hb.size)
        go_wp2_with fail
        go_ret
        exact ⟨rfl, hb⟩
      · have e2 : ¬ (40 : Int) < (d : Int) := by omega
        have HF := Lib.hid hF
        have hpos : 0 < e := by have := hF.le.1; omega
        obtain ⟨gb, off, rfl, hcs⟩ := h.ld hpos
        have HC := Lib.hid hcs
        have hd40 : d ≤ 40 := by omega
        obtain ⟨r, hr⟩ : ∃ r, r = mayB f e := ⟨_, rfl⟩
        rw [← hr]
        have HR := Lib.hid hr
        clear he hF h hcs hr
        go_enter Tryz.func10, Tryz.ntmps10
        go_wp2_with fail
        refine KE.out.mono ?_
        rintro e' w1 ⟨rfl, hb⟩
        unfold endV
        go_wp2_with fail
        refine (KD.out _ (H.out.below hb)).mono ?_
        rintro e' w2 ⟨rfl, hb1⟩
        replace hb := hb.trans (hb1.mono hb.size)
        clear KE KD hb1
        go_wp2_with fail
        go_loopw [27] (fun kv wr => ∃ j : Nat, kv = .int .i64 j ∧ j ≤ e ∧ (∀ i, i < j → okN (f i) = true ∧ (0 < i → hdN (f i).k = false)) ∧ Below W.heap.size W wr) (fun kv _ => e - (intOf kv).toNat)
        case atStart => exact ⟨0, rfl, by omega, fun i hi => by omega, hb⟩
        case round =>
          clear hb
          obtain ⟨j, rfl, hj, hall, hb⟩ := hrel
          have HA := Lib.hid hall
          clear hall
          by_cases hlt : j < e
          · have e3 : (j : Int) < (e : Int) := by omega
            obtain ⟨c0, c1, c2, c3, c4⟩ := (HC.out j hlt).below hb (HC.out j hlt).lt
            have hsz := hb.size
            have hB := Bd.new wr (f j).k (f j).v (f j).a (f j).x (f j).g (f j).m (f j).c
            have b0 := hB.c0
            have b1 := hB.c1
            have b2 := hB.c2
            have b3 := hB.c3
            have b4 := hB.c4
            have hb2 := hb.alloc hsz (.cells #[.int .i64 (f j).k, .string (f j).v, .string (f j).a, .string (f j).x, .slice (f j).g (f j).m (f j).c] 37)
            have KM : ∀ w, Below W.heap.size W w → Calls Tryz.prog 19 #[.agg #[.int .i64 (f j).k, .string (f j).v, .string (f j).a, .string (f j).x, .slice (f j).g (f j).m (f j).c]] w (ValEnd (.bool (okN (f j))) w) := fun w hw => mayBe_is (f j) w ((H.out.on j hlt).below hw)
            have KH := fun w => head_is (f j).k (f j).v (f j).a (f j).x (f j).g (f j).m (f j).c w
            have HB2 := Lib.hid hb2
            have HB := Lib.hid hB
            cases hok : okN (f j) with
            | false =>
              rw [hok] at KM
              replace KM := Lib.hid (KM _ HB2.out)
              obtain rfl : r = false := by rw [HR.out]; exact mayB_no fun ⟨_, _, _, h4⟩ => by rw [(h4 j hlt).1] at hok; cases hok
              clear hok hb hb2 hB KH hsz
              go_wp2_with fail
              refine KM.out.mono ?_
              rintro e' w5 ⟨rfl, hb5⟩
              clear c0 c1 c2 c3 c4 b0 b1 b2 b3 b4
              go_wp2_with fail
              go_ret
              exact ⟨rfl, HB2.out.trans (hb5.mono HB2.out.size)⟩
            | true =>
              rw [hok] at KM
              replace KM := Lib.hid (KM _ HB2.out)
              have HOK := Lib.hid hok
              by_cases hj0 : j = 0
              · subst hj0
                have e4 : ¬ (0 : Int) < ((0 : Nat) : Int) := by omega
                simp only [Nat.zero_mul, Nat.add_zero] at c0 c1 c2 c3 c4
                clear hok hb hb2 hB KH hsz
                go_wp2_with fail
                refine KM.out.mono ?_
                rintro e' w5 ⟨rfl, hb5⟩
                have hb6 := HB2.out.trans (hb5.mono HB2.out.size)
                clear c0 c1 c2 c3 c4 b0 b1 b2 b3 b4 hb5
                go_wp2_with fail
                refine ⟨⟨1, by go_num, by omega, fun i hi => ?_, hb6⟩, by simp [intOf]; omega⟩
                obtain rfl : i = 0 := by omega
                exact ⟨HOK.out, fun h => absurd h (by omega)⟩
              · have e4 : (0 : Int) < (j : Int) := by omega
                cases hh : hdN (f j).k with
                | true =>
                  rw [hh] at KH
                  replace KH := Lib.hid KH
                  obtain rfl : r = false := by rw [HR.out]; exact mayB_no fun ⟨_, _, _, h4⟩ => by rw [(h4 j hlt).2 (by omega)] at hh; cases hh
                  clear hok hb hb2 hB hsz hh hj0
                  go_wp2_with fail
                  refine KM.out.mono ?_
                  rintro e' w5 ⟨rfl, hb5⟩
                  have hB5 := HB.out.on hb5
                  have hb6 := HB2.out.trans (hb5.mono HB2.out.size)
                  clear c0 c1 c2 c3 c4 b0 b1 b2 b3 b4 hb5
                  have b0 := hB5.c0
                  have b1 := hB5.c1
                  have b2 := hB5.c2
                  have b3 := hB5.c3
                  have b4 := hB5.c4
                  go_wp2_with fail
                  refine (KH.out _).mono ?_
                  rintro e' w7 ⟨rfl, hb7⟩
                  replace hb6 := hb6.trans (hb7.mono hb6.size)
                  clear b0 b1 b2 b3 b4 hb7
                  go_wp2_with fail
                  go_ret
                  exact ⟨rfl, hb6⟩
                | false =>
                  rw [hh] at KH
                  replace KH := Lib.hid KH
                  have HH := Lib.hid hh
                  clear hok hb hb2 hB hsz hh hj0
                  go_wp2_with fail
                  refine KM.out.mono ?_
                  rintro e' w5 ⟨rfl, hb5⟩
                  have hB5 := HB.out.on hb5
                  have hb6 := HB2.out.trans (hb5.mono HB2.out.size)
                  clear c0 c1 c2 c3 c4 b0 b1 b2 b3 b4 hb5
                  have b0 := hB5.c0
                  have b1 := hB5.c1
                  have b2 := hB5.c2
                  have b3 := hB5.c3
                  have b4 := hB5.c4
                  go_wp2_with fail
                  refine (KH.out _).mono ?_
                  rintro e' w7 ⟨rfl, hb7⟩
                  replace hb6 := hb6.trans (hb7.mono hb6.size)
                  clear b0 b1 b2 b3 b4 hb7
                  go_wp2_with fail
                  refine ⟨⟨j + 1, by go_num, by omega, fun i hi => ?_, hb6⟩, by simp [intOf]; omega⟩
                  by_cases hij : i < j
                  · exact HA.out i hij
                  · obtain rfl : i = j := by omega
                    exact ⟨HOK.out, fun _ => HH.out⟩
          · have e3 : ¬ (j : Int) < (e : Int) := by omega
            obtain rfl : r = true := by rw [HR.out]; exact mayB_yes.2 ⟨d, HF.out, hd40, fun i hi => HA.out i (by omega)⟩
            go_wp2_with fail
            go_ret
            exact ⟨rfl, hb⟩
    · have e2 : (e : Int) < (n : Int) := by omega
      rw [may_short he hen]
      clear he hF
      go_enter Tryz.func10, Tryz.ntmps10
      go_wp2_with fail
      refine KE.out.mono ?_
      rintro e' w1 ⟨rfl, hb⟩
      unfold endV
      go_wp2_with fail
      go_ret
      exact ⟨rfl, hb⟩
set_option maxHeartbeats 3200000 in
theorem rTMay_is (a : Option Addr) (n c : Nat) (f : Nat → Nd) (W : World) (h : Nq W a n f) (hn : n ≤ 1000000) :
    Calls Tryz.prog 13 #[.slice a n c] W (ValEnd (.bool (mayB f n)) W) := by
  have KE := rEnd_all a n c f hn _ 0 (Nat.le_refl _) W h
  cases he : eN (ksF f n) 1 0 with
  | none =>
    rw [he] at KE
    replace KE := Lib.hid KE
    rw [may_none he]
    clear he
    go_enter Tryz.func13, Tryz.ntmps13
    go_wp2_with fail
    refine KE.out.mono ?_
    rintro e w1 ⟨rfl, hb⟩
    unfold endV
    go_wp2_with fail
    go_ret
    exact ⟨rfl, hb⟩
  | some e =>
    rw [he] at KE
    replace KE := Lib.hid KE
    obtain ⟨d, hF⟩ := Fd.ex he
    have hle := hF.le.2 (by omega)
    rw [ks_len] at hle
    have hD := hF.deep
    by_cases hen : e = n
    · subst hen
      have KD := Lib.hid (fun w hw => rdeep_all a e c f hn _ 0 (Nat.le_refl _) e d w hw hF)
      have H := Lib.hid h
      by_cases hd : 40 < d
      · rw [may_deep hF hd]
        have e2 : (40 : Int) < (d : Int) := by omega
        clear he hF h
        go_enter Tryz.func13, Tryz.ntmps13
        go_wp2_with fail
        refine KE.out.mono ?_
        rintro e' w1 ⟨rfl, hb⟩
        unfold endV
        go_wp2_with fail
        refine (KD.out _ (H.out.below hb)).mono ?_
        rintro e' w2 ⟨rfl, hb1⟩
        replace hb := hb.trans (hb1.mono hb.size)
        go_wp2_with fail
        go_ret
        exact ⟨rfl, hb⟩
      · have e2 : ¬ (40 : Int) < (d : Int) := by omega
        have HF := Lib.hid hF
        have hpos : 0 < e := by have := hF.le.1; omega
        obtain ⟨gb, off, rfl, hcs⟩ := h.ld hpos
        have HC := Lib.hid hcs
        have hd40 : d ≤ 40 := by omega
        obtain ⟨r, hr⟩ : ∃ r, r = mayB f e := ⟨_, rfl⟩
        rw [← hr]
        have HR := Lib.hid hr
        clear he hF h hcs hr
        go_enter Tryz.func13, Tryz.ntmps13
        go_wp2_with fail
        refine KE.out.mono ?_
        rintro e' w1 ⟨rfl, hb⟩
        unfold endV
        go_wp2_with fail
        refine (KD.out _ (H.out.below hb)).mono ?_
        rintro e' w2 ⟨rfl, hb1⟩
        replace hb := hb.trans (hb1.mono hb.size)
        clear KE KD hb1
        go_wp2_with fail
        go_loopw [5] (fun kv wr => ∃ j : Nat, kv = .int .i64 j ∧ j ≤ e ∧ (∀ i, i < j → okN (f i) = true ∧ (0 < i → hdN (f i).k = false)) ∧ Below W.heap.size W wr) (fun kv _ => e - (intOf kv).toNat)
        case atStart => exact ⟨0, rfl, by omega, fun i hi => by omega, hb⟩
        case round =>
          clear hb
          obtain ⟨j, rfl, hj, hall, hb⟩ := hrel
          have HA := Lib.hid hall
          clear hall
          by_cases hlt : j < e
          · have e3 : (j : Int) < (e : Int) := by omega
            obtain ⟨c0, c1, c2, c3, c4⟩ := (HC.out j hlt).below hb (HC.out j hlt).lt
            have HB2 := Lib.hid hb
            have KM : ∀ w, Below W.heap.size W w → Calls Tryz.prog 32 #[.agg #[.int .i64 (f j).k, .string (f j).v, .string (f j).a, .string (f j).x, .slice (f j).g (f j).m (f j).c]] w (ValEnd (.bool (okN (f j))) w) := fun w hw => rOne_is (f j) w ((H.out.on j hlt).below hw)
            have HB := Lib.hid (HC.out j hlt)
            cases hok : okN (f j) with
            | false =>
              rw [hok] at KM
              replace KM := Lib.hid (KM _ HB2.out)
              obtain rfl : r = false := by rw [HR.out]; exact mayB_no fun ⟨_, _, _, h4⟩ => by rw [(h4 j hlt).1] at hok; cases hok
              clear hok hb
              go_wp2_with fail
              refine KM.out.mono ?_
              rintro e' w5 ⟨rfl, hb5⟩
              clear c0 c1 c2 c3 c4
              go_wp2_with fail
              go_ret
              exact ⟨rfl, HB2.out.trans (hb5.mono HB2.out.size)⟩
            | true =>
              rw [hok] at KM
              replace KM := Lib.hid (KM _ HB2.out)
              have HOK := Lib.hid hok
              by_cases hj0 : j = 0
              · subst hj0
                have e4 : ¬ (0 : Int) < ((0 : Nat) : Int) := by omega
                simp only [Nat.zero_mul, Nat.add_zero] at c0 c1 c2 c3 c4
                clear hok hb
                go_wp2_with fail
                refine KM.out.mono ?_
                rintro e' w5 ⟨rfl, hb5⟩
                have hb6 := HB2.out.trans (hb5.mono HB2.out.size)
                clear c0 c1 c2 c3 c4 hb5
                go_wp2_with fail
                refine ⟨⟨1, by go_num, by omega, fun i hi => ?_, hb6⟩, by simp [intOf]; omega⟩
                obtain rfl : i = 0 := by omega
                exact ⟨HOK.out, fun h => absurd h (by omega)⟩
              · have e4 : (0 : Int) < (j : Int) := by omega
                cases hh : hdN (f j).k with
                | true =>
                  have HH := Lib.hid hh
                  have hk := Lib.hid (show 5 ≤ (f j).k ∧ (f j).k ≤ 7 by unfold hdN at hh; simpa using hh)
                  obtain rfl : r = false := by rw [HR.out]; exact mayB_no fun ⟨_, _, _, h4⟩ => by rw [(h4 j hlt).2 (by omega)] at hh; cases hh
                  clear hok hb hh hj0
                  go_wp2_with fail
                  refine KM.out.mono ?_
                  rintro e' w5 ⟨rfl, hb5⟩
                  have hb6 := HB2.out.trans (hb5.mono HB2.out.size)
                  clear c0 c1 c2 c3 c4 hb5
                  have c0 := (HB.out.below hb6 HB.out.lt).c0
                  obtain ⟨z, hz⟩ : ∃ z, z = (f j).k := ⟨_, rfl⟩
                  have hk2 := hk.out
                  rw [← hz] at c0 hk2
                  clear hz hk
                  obtain ⟨hk5, hk7⟩ := hk2
                  go_wp2_with fail
                  go_ret
                  exact ⟨rfl, hb6⟩
                | false =>
                  have HH := Lib.hid hh
                  have hk := Lib.hid (show (f j).k < 5 ∨ 7 < (f j).k by unfold hdN at hh; simp at hh; omega)
                  clear hok hb hh hj0
                  go_wp2_with fail
                  refine KM.out.mono ?_
                  rintro e' w5 ⟨rfl, hb5⟩
                  have hb6 := HB2.out.trans (hb5.mono HB2.out.size)
                  clear c0 c1 c2 c3 c4 hb5
                  have c0 := (HB.out.below hb6 HB.out.lt).c0
                  obtain ⟨z, hz⟩ : ∃ z, z = (f j).k := ⟨_, rfl⟩
                  have hk2 := hk.out
                  rw [← hz] at c0 hk2
                  clear hz hk
                  by_cases hk5 : 5 ≤ z
                  · have hk7 : ¬ z ≤ 7 := by omega
                    clear hk2
                    go_wp2_with fail
                    refine ⟨⟨j + 1, by go_num, by omega, fun i hi => ?_, hb6⟩, by simp [intOf]; omega⟩
                    by_cases hij : i < j
                    · exact HA.out i hij
                    · obtain rfl : i = j := by omega
                      exact ⟨HOK.out, fun _ => HH.out⟩
                  · clear hk2
                    go_wp2_with fail
                    refine ⟨⟨j + 1, by go_num, by omega, fun i hi => ?_, hb6⟩, by simp [intOf]; omega⟩
                    by_cases hij : i < j
                    · exact HA.out i hij
                    · obtain rfl : i = j := by omega
                      exact ⟨HOK.out, fun _ => HH.out⟩
          · have e3 : ¬ (j : Int) < (e : Int) := by omega
            obtain rfl : r = true := by rw [HR.out]; exact mayB_yes.2 ⟨d, HF.out, hd40, fun i hi => HA.out i (by omega)⟩
            go_wp2_with fail
            go_ret
            exact ⟨rfl, hb⟩
    · have e2 : ¬ (e : Int) = (n : Int) := by omega
      rw [may_short he hen]
      clear he hF
      go_enter Tryz.func13, Tryz.ntmps13
      go_wp2_with fail
      refine KE.out.mono ?_
      rintro e' w1 ⟨rfl, hb⟩
      unfold endV
      go_wp2_with fail
      go_ret
      exact ⟨rfl, hb⟩
end Go.Proofs.YtljkmdmbndjngaaGreat
/-
  Trees put together: append whatever the source, and Node.
-/
namespace Go.Proofs.YtljkmdmbndjngaaGreat
set_option linter.unusedVariables false
set_option linter.unusedSimpArgs false
open Go.RowKit

theorem run_append_void {w : World} (base : Nat) (t ty e : TypeId) (i : TypeInfo) (s : Nat) (ht : Tryz.prog.underlying t = some (.slice e)) (hi : Tryz.prog.info? e = some i) (hsize : i.size = s)
    (v : Value) (n : Nat) (xs : List Value) (hown : w.ownsRow base e s v n xs) (c : Nat) : (Builtin.append_ #[t, t] ty #[v, .slice none 0 c]).run Tryz.prog w = .ok v w := by
  rcases hown.2 with ⟨rfl, rfl⟩ | ⟨g, cap, cur, rfl, _, _, hnc, _⟩
  · simp [Builtin.append_, run_underlying ht, sizeOf, typeInfo, hi, Builtin.lenOf, Builtin.firstCells]
  · simp [Builtin.append_, run_underlying ht, sizeOf, typeInfo, hi, Builtin.lenOf, Builtin.firstCells, hnc, storeCells]
/-- append onto a row of the call's own, whatever the source. -/
theorem wpList_append_all {w : World} {ops : Array Oper} {rest : List Oper} {o : Oper} {a : Act} {Q : Exit → Act → World → Prop} (hgd : o.guard = none) (s x : Operand) (t : TypeId)
    (ho : o.op = .call { callee := .builtin .append, args := #[s, x], argTypes := #[t, t] })
    (base : Nat) (e : TypeId) (i : TypeInfo) (z : Value) (size bytes : Nat) (ht : Tryz.prog.underlying t = some (.slice e)) (hi : Tryz.prog.info? e = some i) (hz : i.zero = some z)
    (hsize : i.size = size) (hby : i.bytes = bytes) (hzs : z.cells.size = size) (hsz : 0 < size)
    (v : Value) (n : Nat) (xs : List Value) (hs : a.eval s = v) (hown : w.ownsRow base e size v n xs)
    (A : Option Addr) (m c : Nat) (news : List Value) (hx : a.eval x = .slice A m c) (hl : news.length = m * size) (hA : A = none → m = 0)
    (hnews : ∀ ad, A = some ad → ∀ j u, news[j]? = some u → w.cell? (ad.add j) = some u) (h1 : ∀ u ∈ news, u.oneCell' = true)
    (h63 : n + m ≤ maxLen) (hbytes : (n + m) * bytes ≤ 140737488355328) (hbase : base ≤ w.heap.size)
    (h : ∀ v' w', w'.ownsRow base e size v' (n + m) (xs ++ news) → w.grownBy w' v.ownBlock → wpList Tryz.prog ops Q rest (a.put o.dst v') w') : wpList Tryz.prog ops Q (o :: rest) a w := by
  cases A with
  | some ad => exact wpList_append_own w hgd s x t ho base e i z size bytes ht hi hz hsize hby hzs hsz v n xs hs hown ad m c news hx hl (hnews ad rfl) h1 h63 hbytes hbase fun v' w' h2 h3 _ => h v' w' h2 h3
  | none =>
    have hm := hA rfl
    subst hm
    have hn : news = [] := List.eq_nil_of_length_eq_zero (by rw [hl, Nat.zero_mul])
    subst hn
    rw [List.append_nil] at h
    refine wpList_plain hgd fun K hK => ?_
    have hrun := run_append_void (w := w) base t o.type e i size ht hi hsize v n xs hown c
    unfold Oper.wp
    simp [execOp, ho, resolve, invoke, builtin, hs, hx, hrun, Result.andThen]
    exact hK _ _ (h v w hown (World.grownBy.refl w _))
theorem nvs_one (f : Nat → Nd) : ∀ k, ∀ u ∈ nvs f k, u.oneCell' = true
  | 0, u, h => by cases h
  | k + 1, u, h => by
    rcases List.mem_append.1 (show u ∈ nvs f k ++ (f k).cells from h) with h | h
    · exact nvs_one f k u h
    · simp only [Nd.cells, List.mem_cons, List.not_mem_nil, or_false] at h
      rcases h with rfl | rfl | rfl | rfl | rfl <;> rfl
/-- The cells of a slice of nodes, as a row. -/
theorem Nq.cells {w : World} {a : Option Addr} {n : Nat} {f : Nat → Nd} (h : Nq w a n f) : ∀ ad, a = some ad → ∀ j u, (nvs f n)[j]? = some u → w.cell? (ad.add j) = some u := by
  intro ad ha j u hj
  have hl := (List.getElem?_eq_some_iff.1 hj).1
  rw [nvs_len] at hl
  obtain ⟨b, off, e, hc⟩ := h.ld (by omega)
  rw [ha] at e
  injection e with e
  subst e
  have hq : j / 5 < n := by omega
  have hr : j % 5 < 5 := Nat.mod_lt _ (by omega)
  have hjq : j / 5 * 5 + j % 5 = j := by omega
  have hg := nvs_get f n (j / 5) (j % 5) hq hr
  rw [hjq, hj] at hg
  have hL := hc _ hq
  rw [Go.WideShapes.add_plain, show off + j = off + j / 5 * 5 + j % 5 by omega]
  generalize off + j / 5 * 5 = o at *
  generalize j % 5 = i at *
  match i, hr with
  | 0, _ => rw [hg, Nat.add_zero]; exact hL.c0
  | 1, _ => rw [hg]; exact hL.c1
  | 2, _ => rw [hg]; exact hL.c2
  | 3, _ => rw [hg]; exact hL.c3
  | 4, _ => rw [hg]; exact hL.c4
def valsS (es : List ByteArray) : List Value := es.map Value.string
theorem valsS_one (l : List ByteArray) : ∀ u ∈ valsS l, u.oneCell' = true := by
  intro u hu
  obtain ⟨x, _, rfl⟩ := List.mem_map.1 hu
  rfl
theorem St.cells {w : World} {a : Option Addr} {n : Nat} {l : List ByteArray} (h : St w a n l) : ∀ ad, a = some ad → ∀ j u, (valsS l)[j]? = some u → w.cell? (ad.add j) = some u := by
  intro ad ha j u hj
  unfold valsS at hj
  rw [List.getElem?_map, Option.map_eq_some_iff] at hj
  obtain ⟨x, hx, rfl⟩ := hj
  obtain ⟨hlt, rfl⟩ := List.getElem?_eq_some_iff.1 hx
  obtain ⟨b, off, e, hc⟩ := h.2 (by rw [← h.1]; omega)
  rw [ha] at e
  injection e with e
  subst e
  rw [Go.WideShapes.add_plain, hc j (by rw [← h.1]; exact hlt)]
  simp [List.getD_eq_getElem?_getD, List.getElem?_eq_getElem hlt]
theorem own_st {w : World} {base n : Nat} {v : Value} {l : List ByteArray} (h : w.ownsRow base 9 1 v n (valsS l)) : ∃ a c, v = .slice a n c ∧ n ≤ c ∧ c ≤ maxLen ∧ St w a n l := by
  have hl : l.length = n := by have := h.1; unfold valsS at this; rwa [List.length_map, Nat.mul_one] at this
  rcases h.2 with ⟨rfl, rfl⟩ | ⟨g, cap, cur, rfl, h0, hg, h1, h2, h3, h4⟩
  · exact ⟨none, 0, rfl, Nat.le_refl _, by unfold maxLen; omega, hl, fun h => by omega⟩
  · refine ⟨_, cap, rfl, by omega, h2, hl, fun hn => ⟨g, 0, rfl, fun j hj => ?_⟩⟩
    rw [Nat.zero_add, h.cellAt j (by omega)]
    unfold valsS
    simp [List.getD_eq_getElem?_getD, List.getElem?_eq_getElem (show j < l.length by omega)]
theorem infoS : (Tryz.prog.info? 9).map (fun i => (i.zero, i.size, i.bytes)) = some (some (.string ⟨#[]⟩), 1, 16) := by kernel_rfl
/-- What strings lie elsewhere stays, where a slice is stored over a slice. -/
theorem St.set {W : World} {a : Option Addr} {n : Nat} {l : List ByteArray} (h : St W a n l) {p : Addr} {g : Option Addr} {m c : Nat} (hp : W.cell? p = some (.slice g m c)) (u : Value) : St (W.setCell p u) a n l := by
  refine ⟨h.1, fun hn => ?_⟩
  obtain ⟨b, off, e, hc⟩ := h.2 hn
  refine ⟨b, off, e, fun j hj => ?_⟩
  rw [World.cell?_setCell_other _ _ _ _ (by intro e; rw [e, hc j hj] at hp; cases hp)]
  exact hc j hj
theorem Nd.on.set {d : Nd} {W : World} (h : d.on W) {p : Addr} {g : Option Addr} {m c : Nat} (hp : W.cell? p = some (.slice g m c)) (u : Value) : d.on (W.setCell p u) := { h with st := h.st.set hp u }
/-- A node with other numbers' memory. -/
def Nd.mv (d : Nd) (g : Option Addr) (c : Nat) : Nd := { d with g := g, c := c }
def upd (G : Nat → Nd) (i : Nat) (d : Nd) : Nat → Nd := fun j => if j = i then d else G j
theorem upd_same (G : Nat → Nd) (i : Nat) (d : Nd) : upd G i d i = d := by unfold upd; rw [if_pos rfl]
theorem upd_other (G : Nat → Nd) {i j : Nat} (d : Nd) (h : j ≠ i) : upd G i d j = G j := by unfold upd; rw [if_neg h]
theorem nvs_set (G : Nat → Nd) (g : Option Addr) (c : Nat) : ∀ n i, i < n → (nvs G n).set (i * 5 + 4) (.slice g (G i).m c) = nvs (upd G i ((G i).mv g c)) n
  | 0, i, h => by omega
  | n + 1, i, h => by
    have hl := nvs_len G n
    show (nvs G n ++ (G n).cells).set _ _ = nvs _ n ++ (upd G i _ n).cells
    by_cases hi : i < n
    · rw [List.set_append_left _ _ (by omega), nvs_set G g c n i hi, upd_other _ _ (by omega)]
    · obtain rfl : i = n := by omega
      rw [List.set_append_right _ _ (by omega), hl, Nat.add_sub_cancel_left, upd_same, nvs_same _ (fun j hj => upd_other G _ (by omega))]
      rfl
/-- Trees to be put below: where they lie. -/
structure Kd where
  a : Option Addr
  n : Nat
  c : Nat
  f : Nat → Nd
def ap (F : Nat → Nd) (m : Nat) (f : Nat → Nd) : Nat → Nd := fun j => if j < m then F j else f (j - m)
theorem nvs_ap (F : Nat → Nd) (m : Nat) (f : Nat → Nd) : ∀ k, nvs (ap F m f) (m + k) = nvs F m ++ nvs f k
  | 0 => by
    rw [Nat.add_zero, nvs_same m (g := F) (fun j hj => by unfold ap; rw [if_pos hj])]
    show _ = nvs F m ++ []
    rw [List.append_nil]
  | k + 1 => by
    show nvs (ap F m f) (m + k) ++ (ap F m f (m + k)).cells = nvs F m ++ (nvs f k ++ (f k).cells)
    rw [nvs_ap F m f k, List.append_assoc]
    unfold ap
    rw [if_neg (by omega), Nat.add_sub_cancel_left]
/-- A node, and behind it the first i trees: how many nodes, and which. -/
def nM (k : Nat → Kd) : Nat → Nat
  | 0 => 1
  | i + 1 => nM k i + (k i).n
def nF (d : Nd) (k : Nat → Kd) : Nat → Nat → Nd
  | 0 => fun _ => d
  | i + 1 => ap (nF d k i) (nM k i) (k i).f
theorem nM_le {k : Nat → Kd} : ∀ {i j : Nat}, i ≤ j → nM k i ≤ nM k j
  | i, 0, h => by rw [Nat.le_zero.1 h]; exact Nat.le_refl _
  | i, j + 1, h => by
    rcases Nat.lt_or_ge i (j + 1) with h1 | h1
    · have := nM_le (k := k) (show i ≤ j by omega)
      show nM k i ≤ nM k j + _
      omega
    · rw [show i = j + 1 by omega]; exact Nat.le_refl _
theorem nF_on {d : Nd} {k : Nat → Kd} {w : World} (hd : d.on w) : ∀ i, (∀ q, q < i → Nq w (k q).a (k q).n (k q).f) → ∀ j, j < nM k i → (nF d k i j).on w
  | 0, _, j, _ => hd
  | i + 1, h, j, hj => by
    show (ap (nF d k i) (nM k i) (k i).f j).on w
    unfold ap
    by_cases h1 : j < nM k i
    · rw [if_pos h1]
      exact nF_on hd i (fun q hq => h q (by omega)) j h1
    · rw [if_neg h1]
      have hj : j < nM k i + (k i).n := hj
      exact (h i (by omega)).on _ (by omega)
/-- A node's numbers lie in a row of texts. -/
def Sb (W : World) (d : Nd) : Prop := d.m = 0 ∨ ∃ b off cur fr, d.g = some ⟨b, off, none⟩ ∧ W.heap[b]? = some (Obj.cells cur 9 fr)
theorem Sb.below {W W' : World} {d : Nd} (h : Sb W d) (hb : Below W.heap.size W W') : Sb W' d := by
  rcases h with h | ⟨b, off, cur, fr, h1, h2⟩
  · exact .inl h
  · exact .inr ⟨b, off, cur, fr, h1, (hb.block b (Array.getElem?_eq_some_iff.1 h2).1).trans h2⟩
/-- Where a row of nodes grows, a row of texts stays. -/
theorem Sb.grown {W W' : World} {d : Nd} (h : Sb W d) (hd : d.on W) {base n : Nat} {v : Value} {xs : List Value} (ho : W.ownsRow base 37 5 v n xs) (hg : W.grownBy W' v.ownBlock) : Sb W' d ∧ d.on W' := by
  have key : ∀ (b : Nat) (cur : Array Value) (fr : Nat × Nat), W.heap[b]? = some (Obj.cells cur 9 fr) → W'.heap[b]? = W.heap[b]? := by
    intro b cur fr hb
    refine hg.block b (Array.getElem?_eq_some_iff.1 hb).1 ?_
    intro e
    rcases ho.2 with ⟨rfl, _⟩ | ⟨g, cap, c, rfl, _, h2, _⟩
    · cases e
    · injection e with e
      have e : b = g := e
      subst e
      rw [hb] at h2
      cases h2
  rcases h with h | ⟨b, off, cur, fr, h1, h2⟩
  · refine ⟨.inl h, { hd with st := ⟨hd.st.1, fun hn => by omega⟩ }⟩
  · have hk := key b cur fr h2
    refine ⟨.inr ⟨b, off, cur, fr, h1, hk.trans h2⟩, { hd with st := ⟨hd.st.1, fun hn => ?_⟩ }⟩
    obtain ⟨b', off', e, hc⟩ := hd.st.2 hn
    rw [h1] at e
    injection e with e
    injection e with e1 e2
    subst e1 e2
    exact ⟨b, off, h1, fun j hj => (World.cell?_of_block (a := ⟨b, off + j, none⟩) hk).trans (hc j hj)⟩
/-- What Node tells: a row of the call's own, its nodes the same. -/
def NodeEnd (F : Nat → Nd) (M : Nat) (W : World) (e : Ending) (W' : World) : Prop :=
  ∃ v G, e = .returned v ∧ W'.ownsRow W.heap.size 37 5 v M (nvs G M) ∧ (∀ j, j < M → (G j).on W') ∧ (∀ j, j < M → smN (G j) (F j) = true) ∧ Below W.heap.size W W' ∧ ∀ j, j < M → Sb W' (G j)
theorem smN_self (d : Nd) : smN d d = true := by
  unfold smN
  simp
end Go.Proofs.YtljkmdmbndjngaaGreat

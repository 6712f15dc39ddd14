/-
  Whether a node may be: of the reference.
-/
import Derived.Test.YtiopemimancliaaYl
namespace Go.Proofs.Ytiopemimancliaa
open Go.RowKit

theorem okN_lit (v a x : ByteArray) (g : Option Addr) (m c : Nat) (ns : List ByteArray) : okN ⟨1, v, a, x, g, m, c, ns⟩ = (numsB ns && (emp v && (emp a && emp x))) := by
  unfold okN
  simp only [if_true]
set_option maxHeartbeats 3200000 in
theorem rOne_lit (v a x : ByteArray) (g : Option Addr) (m c : Nat) (ns : List ByteArray) (W : World) (hd : (Nd.mk 1 v a x g m c ns).on W) :
    Calls Try.prog 27 #[.agg #[.int .i64 1, .string v, .string a, .string x, .slice g m c]] W (ValEnd (.bool (okN ⟨1, v, a, x, g, m, c, ns⟩)) W) := by
  rw [okN_lit]
  have hm : m ≤ 9223372036854775807 := maxLen_le (Nat.le_trans hd.mc hd.cm)
  have hl : ns.length = m := hd.nl
  have hb0 := box_below W (.cells #[.int .i64 1, .string v, .string a, .string x, .slice g m c] 25)
  have hA := Bd.new W 1 v a x g m c
  have a0 := hA.c0
  have a1 := hA.c1
  have a2 := hA.c2
  have a3 := hA.c3
  have a4 := hA.c4
  have HD := Lib.hid hd
  have HS := Lib.hid (hd.st.below hb0)
  have HB := Lib.hid hb0
  obtain ⟨w1, hw1⟩ : ∃ w1, w1 = W.alloc (.cells #[.int .i64 1, .string v, .string a, .string x, .slice g m c] 25) := ⟨_, rfl⟩
  rw [← hw1] at hb0 hA a0 a1 a2 a3 a4 HS HB
  have HW1 := Lib.hid hw1
  clear hd hb0 hA hw1
  go_enter Try.func27, Try.ntmps27
  go_wp2_with fail
  rw [← HW1.out]
  clear HW1
  go_loop [3] (fun i => ∃ j : Nat, i = .int .i64 j ∧ j ≤ m ∧ alN ns = alN (ns.drop j)) (fun i => m - (intOf i).toNat)
  case atStart => exact ⟨0, rfl, Nat.zero_le _, rfl⟩
  case round =>
    obtain ⟨j, rfl, hj, hI⟩ := hrel
    have HI := Lib.hid hI
    clear hI
    by_cases h1 : j < m
    · have e2 : (j : Int) < (m : Int) := by omega
      obtain ⟨b, off, rfl, hc⟩ := HS.out.2 (by omega)
      have cj := hc j h1
      have hdr := drop_getD (l := ns) (j := j) (by omega)
      have K := rMay_any (ns.getD j ByteArray.empty) (HD.out.nz _ (getD_mem (show j < ns.length by omega))) w1
      obtain ⟨s, hs⟩ : ∃ s, s = ns.getD j ByteArray.empty := ⟨_, rfl⟩
      rw [← hs] at cj hdr K
      cases hmy : mayL s.data.toList with
      | true =>
        rw [hmy] at K
        replace K := Lib.hid K
        have HN := Lib.hid (show alN ns = alN (ns.drop (j + 1)) by rw [HI.out, hdr]; unfold alN; rw [List.all_cons, hmy, Bool.true_and])
        clear hdr hmy hc hs
        go_wp2_with fail
        refine K.out.mono ?_
        rintro e w2 ⟨rfl, rfl⟩
        go_wp2_with fail
        go_round
        case rel => exact ⟨j + 1, by go_num, by omega, HN.out⟩
        case measure => simp [intOf]; omega
      | false =>
        rw [hmy] at K
        replace K := Lib.hid K
        have HN := Lib.hid (show numsB ns = false by unfold numsB; rw [HI.out, hdr]; unfold alN; rw [List.all_cons, hmy]; simp)
        clear hdr hmy hc hs
        go_wp2_with fail
        refine K.out.mono ?_
        rintro e w2 ⟨rfl, rfl⟩
        go_wp2_with fail
        go_ret
        exact ⟨by rw [HN.out]; rfl, HB.out⟩
    · have e2 : ¬ (j : Int) < (m : Int) := by omega
      have hal : alN ns = true := by rw [HI.out, List.drop_eq_nil_of_le (by omega)]; rfl
      have HQ := Lib.hid (show (numsB ns && (emp v && (emp a && emp x))) = (decide ((1 : Int) ≤ (m : Int)) && (decide ((m : Int) ≤ 100) && (v.toList.isEmpty && (a.toList.isEmpty && x.toList.isEmpty)))) by
        unfold numsB emp
        rw [hal, hl, Bool.and_true, Bool.and_assoc]
        congr 1
        · exact decide_eq_decide.2 (by omega)
        · congr 1
          exact decide_eq_decide.2 (by omega))
      clear hal HI HD HS
      go_wp2_with fail
      all_goals
        go_ret
        exact ⟨by rw [HQ.out]; first | (simp_all; done) | (simp_all; intros; omega), HB.out⟩
set_option maxHeartbeats 3200000 in
theorem rOne_many (k : Int) (v a x : ByteArray) (g : Option Addr) (m c : Nat) (W : World) (hk : k ≠ 1) (hm : 0 < m) :
    Calls Try.prog 27 #[.agg #[.int .i64 k, .string v, .string a, .string x, .slice g m c]] W (ValEnd (.bool false) W) := by
  have hb0 := box_below W (.cells #[.int .i64 k, .string v, .string a, .string x, .slice g m c] 25)
  have hA := Bd.new W k v a x g m c
  have a0 := hA.c0
  have a1 := hA.c1
  have a2 := hA.c2
  have a3 := hA.c3
  have a4 := hA.c4
  have HB := Lib.hid hb0
  have HA := Lib.hid hA
  clear hb0 hA
  have e1 : (k == 1) = false := beq_eq_false_iff_ne.2 hk
  have e2 : (0 : Int) < (m : Int) := by omega
  go_enter Try.func27, Try.ntmps27
  go_wp2_with fail
  go_ret
  exact ⟨rfl, HB.out⟩
set_option maxHeartbeats 3200000 in
theorem rOne_extra (k : Int) (v a x : ByteArray) (g : Option Addr) (m c : Nat) (W : World) (hk : k ≠ 1) (h3 : k ≠ 3) (h4 : k ≠ 4) (hm : m = 0) (h : v.toList.isEmpty = false ∨ a.toList.isEmpty = false) :
    Calls Try.prog 27 #[.agg #[.int .i64 k, .string v, .string a, .string x, .slice g m c]] W (ValEnd (.bool false) W) := by
  subst hm
  have hb0 := box_below W (.cells #[.int .i64 k, .string v, .string a, .string x, .slice g 0 c] 25)
  have hA := Bd.new W k v a x g 0 c
  have a0 := hA.c0
  have a1 := hA.c1
  have a2 := hA.c2
  have a3 := hA.c3
  have a4 := hA.c4
  have HB := Lib.hid hb0
  have HA := Lib.hid hA
  clear hb0 hA
  have e1 : (k == 1) = false := beq_eq_false_iff_ne.2 (by omega)
  have e3 : (k == 3) = false := beq_eq_false_iff_ne.2 (by omega)
  have e4 : (k == 4) = false := beq_eq_false_iff_ne.2 (by omega)
  clear hk h3 h4
  by_cases hv : v.toList.isEmpty = false
  · go_enter Try.func27, Try.ntmps27
    go_wp2_with fail
    go_ret
    exact ⟨rfl, HB.out⟩
  · have hv2 : v.toList.isEmpty = true := by simpa using hv
    have ha : a.toList.isEmpty = false := h.resolve_left hv
    clear h hv
    go_enter Try.func27, Try.ntmps27
    go_wp2_with fail
    go_ret
    exact ⟨rfl, HB.out⟩
set_option maxHeartbeats 3200000 in
theorem rOne_none (k : Int) (v a x : ByteArray) (g : Option Addr) (m c : Nat) (W : World) (hk : k < 1 ∨ 8 < k) (hm : m = 0) (hv : v.toList.isEmpty = true) (ha : a.toList.isEmpty = true) :
    Calls Try.prog 27 #[.agg #[.int .i64 k, .string v, .string a, .string x, .slice g m c]] W (ValEnd (.bool false) W) := by
  subst hm
  have hb0 := box_below W (.cells #[.int .i64 k, .string v, .string a, .string x, .slice g 0 c] 25)
  have hA := Bd.new W k v a x g 0 c
  have a0 := hA.c0
  have a1 := hA.c1
  have a2 := hA.c2
  have a3 := hA.c3
  have a4 := hA.c4
  have HB := Lib.hid hb0
  have HA := Lib.hid hA
  clear hb0 hA
  have e1 : (k == 1) = false := beq_eq_false_iff_ne.2 (by omega)
  have e2 : (k == 2) = false := beq_eq_false_iff_ne.2 (by omega)
  have e3 : (k == 3) = false := beq_eq_false_iff_ne.2 (by omega)
  have e4 : (k == 4) = false := beq_eq_false_iff_ne.2 (by omega)
  have e5 : (k == 5) = false := beq_eq_false_iff_ne.2 (by omega)
  have e6 : (k == 6) = false := beq_eq_false_iff_ne.2 (by omega)
  have e7 : (k == 7) = false := beq_eq_false_iff_ne.2 (by omega)
  have e8 : (k == 8) = false := beq_eq_false_iff_ne.2 (by omega)
  clear hk
  go_enter Try.func27, Try.ntmps27
  go_wp2_with fail
  go_ret
  exact ⟨rfl, HB.out⟩
set_option maxHeartbeats 3200000 in
theorem rOne_name (v a x : ByteArray) (g : Option Addr) (m c : Nat) (W : World) (hm : m = 0) (hv : v.toList.isEmpty = true) (ha : a.toList.isEmpty = true) (hx : x.size ≤ 9223372036854775807) :
    Calls Try.prog 27 #[.agg #[.int .i64 2, .string v, .string a, .string x, .slice g m c]] W (ValEnd (.bool (prt x 2)) W) := by
  subst hm
  have hb0 := box_below W (.cells #[.int .i64 2, .string v, .string a, .string x, .slice g 0 c] 25)
  have hA := Bd.new W 2 v a x g 0 c
  have a0 := hA.c0
  have a1 := hA.c1
  have a2 := hA.c2
  have a3 := hA.c3
  have a4 := hA.c4
  have HB := Lib.hid hb0
  have HA := Lib.hid hA
  clear hb0 hA
  have K := Lib.hid (fun w => rpart_is x 2 hx w)
  go_enter Try.func27, Try.ntmps27
  go_wp2_with fail
  refine (K.out _).mono ?_
  rintro e w1 ⟨rfl, hb⟩
  clear a0 a1 a2 a3 a4
  go_wp2_with fail
  go_ret
  exact ⟨rfl, HB.out.trans (hb.mono HB.out.size)⟩
set_option maxHeartbeats 3200000 in
theorem rOne_assign (v a x : ByteArray) (g : Option Addr) (m c : Nat) (W : World) (hm : m = 0) (hv : v.toList.isEmpty = true) (ha : a.toList.isEmpty = true) (hx : x.size ≤ 9223372036854775807) :
    Calls Try.prog 27 #[.agg #[.int .i64 5, .string v, .string a, .string x, .slice g m c]] W (ValEnd (.bool (prt x 2)) W) := by
  subst hm
  have hb0 := box_below W (.cells #[.int .i64 5, .string v, .string a, .string x, .slice g 0 c] 25)
  have hA := Bd.new W 5 v a x g 0 c
  have a0 := hA.c0
  have a1 := hA.c1
  have a2 := hA.c2
  have a3 := hA.c3
  have a4 := hA.c4
  have HB := Lib.hid hb0
  have HA := Lib.hid hA
  clear hb0 hA
  have K := Lib.hid (fun w => rpart_is x 2 hx w)
  go_enter Try.func27, Try.ntmps27
  go_wp2_with fail
  refine (K.out _).mono ?_
  rintro e w1 ⟨rfl, hb⟩
  clear a0 a1 a2 a3 a4
  go_wp2_with fail
  go_ret
  exact ⟨rfl, HB.out.trans (hb.mono HB.out.size)⟩
set_option maxHeartbeats 3200000 in
theorem rOne_amend (v a x : ByteArray) (g : Option Addr) (m c : Nat) (W : World) (hm : m = 0) (hv : v.toList.isEmpty = true) (ha : a.toList.isEmpty = true) (hx : x.size ≤ 9223372036854775807) :
    Calls Try.prog 27 #[.agg #[.int .i64 6, .string v, .string a, .string x, .slice g m c]] W (ValEnd (.bool (prt x 2)) W) := by
  subst hm
  have hb0 := box_below W (.cells #[.int .i64 6, .string v, .string a, .string x, .slice g 0 c] 25)
  have hA := Bd.new W 6 v a x g 0 c
  have a0 := hA.c0
  have a1 := hA.c1
  have a2 := hA.c2
  have a3 := hA.c3
  have a4 := hA.c4
  have HB := Lib.hid hb0
  have HA := Lib.hid hA
  clear hb0 hA
  have K := Lib.hid (fun w => rpart_is x 2 hx w)
  go_enter Try.func27, Try.ntmps27
  go_wp2_with fail
  refine (K.out _).mono ?_
  rintro e w1 ⟨rfl, hb⟩
  clear a0 a1 a2 a3 a4
  go_wp2_with fail
  go_ret
  exact ⟨rfl, HB.out.trans (hb.mono HB.out.size)⟩
set_option maxHeartbeats 3200000 in
theorem rOne_define (v a x : ByteArray) (g : Option Addr) (m c : Nat) (W : World) (hm : m = 0) (hv : v.toList.isEmpty = true) (ha : a.toList.isEmpty = true) (hx : x.size ≤ 9223372036854775807) :
    Calls Try.prog 27 #[.agg #[.int .i64 7, .string v, .string a, .string x, .slice g m c]] W (ValEnd (.bool (prt x 3)) W) := by
  subst hm
  have hb0 := box_below W (.cells #[.int .i64 7, .string v, .string a, .string x, .slice g 0 c] 25)
  have hA := Bd.new W 7 v a x g 0 c
  have a0 := hA.c0
  have a1 := hA.c1
  have a2 := hA.c2
  have a3 := hA.c3
  have a4 := hA.c4
  have HB := Lib.hid hb0
  have HA := Lib.hid hA
  clear hb0 hA
  have K := Lib.hid (fun w => rpart_is x 3 hx w)
  go_enter Try.func27, Try.ntmps27
  go_wp2_with fail
  refine (K.out _).mono ?_
  rintro e w1 ⟨rfl, hb⟩
  clear a0 a1 a2 a3 a4
  go_wp2_with fail
  go_ret
  exact ⟨rfl, HB.out.trans (hb.mono HB.out.size)⟩
set_option maxHeartbeats 3200000 in
theorem rOne_index (v a x : ByteArray) (g : Option Addr) (m c : Nat) (W : World) (hm : m = 0) (hv : v.toList.isEmpty = true) (ha : a.toList.isEmpty = true) :
    Calls Try.prog 27 #[.agg #[.int .i64 8, .string v, .string a, .string x, .slice g m c]] W (ValEnd (.bool (emp x)) W) := by
  subst hm
  have hb0 := box_below W (.cells #[.int .i64 8, .string v, .string a, .string x, .slice g 0 c] 25)
  have hA := Bd.new W 8 v a x g 0 c
  have a0 := hA.c0
  have a1 := hA.c1
  have a2 := hA.c2
  have a3 := hA.c3
  have a4 := hA.c4
  have HB := Lib.hid hb0
  have HA := Lib.hid hA
  clear hb0 hA
  unfold emp
  cases h : x.toList.isEmpty
  all_goals
    go_enter Try.func27, Try.ntmps27
    go_wp2_with fail
    go_ret
    exact ⟨rfl, HB.out⟩
set_option maxHeartbeats 3200000 in
theorem rOne_monad (v a x : ByteArray) (g : Option Addr) (m c : Nat) (W : World) (hm : m = 0) (hv : v.size ≤ 9223372036854775807) :
    Calls Try.prog 27 #[.agg #[.int .i64 3, .string v, .string a, .string x, .slice g m c]] W (ValEnd (.bool (emp x && (verbB v && advB a [39, 47, 92, 96]))) W) := by
  subst hm
  have hb0 := box_below W (.cells #[.int .i64 3, .string v, .string a, .string x, .slice g 0 c] 25)
  have hA := Bd.new W 3 v a x g 0 c
  have a0 := hA.c0
  have a1 := hA.c1
  have a2 := hA.c2
  have a3 := hA.c3
  have a4 := hA.c4
  have HB := Lib.hid hb0
  have HA := Lib.hid hA
  clear hb0 hA
  have K4 := fun w => rpart_is v 4 hv w
  have K3 := fun w => rpart_is v 3 hv w
  have KA : ∀ w, Calls Try.prog 36 #[.string a, .string ⟨#[39, 47, 92, 96]⟩] w (ValEnd (.bool (advB a [39, 47, 92, 96])) w) := fun w => rhas_is a ⟨#[39, 47, 92, 96]⟩ (by decide) w
  unfold verbB emp
  generalize prt v 4 = p4 at *
  generalize prt v 3 = p3 at *
  generalize advB a [39, 47, 92, 96] = p5 at *
  replace K4 := Lib.hid K4
  replace K3 := Lib.hid K3
  replace KA := Lib.hid KA
  cases hx : x.toList.isEmpty with
  | false =>
    go_enter Try.func27, Try.ntmps27
    go_wp2_with fail
    go_ret
    exact ⟨rfl, HB.out⟩
  | true =>
    cases h1 : v.toList == [123] with
    | true =>
      cases p5
      all_goals
        go_enter Try.func27, Try.ntmps27
        go_wp2_with fail
        refine (KA.out _).mono ?_
        rintro e w7 ⟨rfl, hb7⟩
        clear a0 a1 a2 a3 a4
        go_wp2_with fail
        go_ret
        exact ⟨rfl, HB.out.trans (hb7.mono HB.out.size)⟩
    | false =>
      cases p4 with
      | true =>
        cases p5
        all_goals
          go_enter Try.func27, Try.ntmps27
          go_wp2_with fail
          refine (K4.out _).mono ?_
          rintro e w1 ⟨rfl, hb1⟩
          have hb := HB.out.trans (hb1.mono HB.out.size)
          have hA1 := HA.out.on hb1
          clear a0 a1 a2 a3 a4
          have a2 := hA1.c2
          clear hb1
          go_wp2_with fail
          refine (KA.out _).mono ?_
          rintro e w7 ⟨rfl, hb7⟩
          replace hb := hb.trans (hb7.mono hb.size)
          clear a2 hb7
          go_wp2_with fail
          go_ret
          exact ⟨rfl, hb⟩
      | false =>
        cases p3 with
        | true =>
          cases p5
          all_goals
            go_enter Try.func27, Try.ntmps27
            go_wp2_with fail
            refine (K4.out _).mono ?_
            rintro e w1 ⟨rfl, hb1⟩
            have hb := HB.out.trans (hb1.mono HB.out.size)
            have hA1 := HA.out.on hb1
            clear a0 a1 a2 a3 a4
            have a1 := hA1.c1
            clear hb1
            go_wp2_with fail
            refine (K3.out _).mono ?_
            rintro e w2 ⟨rfl, hb1⟩
            replace hb := hb.trans (hb1.mono hb.size)
            have hA2 := hA1.on hb1
            clear a1 hb1
            have a2 := hA2.c2
            go_wp2_with fail
            refine (KA.out _).mono ?_
            rintro e w7 ⟨rfl, hb7⟩
            replace hb := hb.trans (hb7.mono hb.size)
            clear a2 hb7
            go_wp2_with fail
            go_ret
            exact ⟨rfl, hb⟩
        | false =>
          go_enter Try.func27, Try.ntmps27
          go_wp2_with fail
          refine (K4.out _).mono ?_
          rintro e w1 ⟨rfl, hb1⟩
          have hb := HB.out.trans (hb1.mono HB.out.size)
          have hA1 := HA.out.on hb1
          clear a0 a1 a2 a3 a4
          have a1 := hA1.c1
          clear hb1
          go_wp2_with fail
          refine (K3.out _).mono ?_
          rintro e w2 ⟨rfl, hb1⟩
          replace hb := hb.trans (hb1.mono hb.size)
          clear a1 hb1
          go_wp2_with fail
          go_ret
          exact ⟨rfl, hb⟩
set_option maxHeartbeats 3200000 in
theorem rOne_dyad (v a x : ByteArray) (g : Option Addr) (m c : Nat) (W : World) (hm : m = 0) (hv : v.size ≤ 9223372036854775807) :
    Calls Try.prog 27 #[.agg #[.int .i64 4, .string v, .string a, .string x, .slice g m c]] W (ValEnd (.bool (emp x && (verbB v && advB a [39, 46]))) W) := by
  subst hm
  have hb0 := box_below W (.cells #[.int .i64 4, .string v, .string a, .string x, .slice g 0 c] 25)
  have hA := Bd.new W 4 v a x g 0 c
  have a0 := hA.c0
  have a1 := hA.c1
  have a2 := hA.c2
  have a3 := hA.c3
  have a4 := hA.c4
  have HB := Lib.hid hb0
  have HA := Lib.hid hA
  clear hb0 hA
  have K4 := fun w => rpart_is v 4 hv w
  have K3 := fun w => rpart_is v 3 hv w
  have KA : ∀ w, Calls Try.prog 36 #[.string a, .string ⟨#[39, 46]⟩] w (ValEnd (.bool (advB a [39, 46])) w) := fun w => rhas_is a ⟨#[39, 46]⟩ (by decide) w
  unfold verbB emp
  generalize prt v 4 = p4 at *
  generalize prt v 3 = p3 at *
  generalize advB a [39, 46] = p5 at *
  replace K4 := Lib.hid K4
  replace K3 := Lib.hid K3
  replace KA := Lib.hid KA
  cases hx : x.toList.isEmpty with
  | false =>
    go_enter Try.func27, Try.ntmps27
    go_wp2_with fail
    go_ret
    exact ⟨rfl, HB.out⟩
  | true =>
    cases h1 : v.toList == [123] with
    | true =>
      cases p5
      all_goals
        go_enter Try.func27, Try.ntmps27
        go_wp2_with fail
        refine (KA.out _).mono ?_
        rintro e w7 ⟨rfl, hb7⟩
        clear a0 a1 a2 a3 a4
        go_wp2_with fail
        go_ret
        exact ⟨rfl, HB.out.trans (hb7.mono HB.out.size)⟩
    | false =>
      cases p4 with
      | true =>
        cases p5
        all_goals
          go_enter Try.func27, Try.ntmps27
          go_wp2_with fail
          refine (K4.out _).mono ?_
          rintro e w1 ⟨rfl, hb1⟩
          have hb := HB.out.trans (hb1.mono HB.out.size)
          have hA1 := HA.out.on hb1
          clear a0 a1 a2 a3 a4
          have a2 := hA1.c2
          clear hb1
          go_wp2_with fail
          refine (KA.out _).mono ?_
          rintro e w7 ⟨rfl, hb7⟩
          replace hb := hb.trans (hb7.mono hb.size)
          clear a2 hb7
          go_wp2_with fail
          go_ret
          exact ⟨rfl, hb⟩
      | false =>
        cases p3 with
        | true =>
          cases p5
          all_goals
            go_enter Try.func27, Try.ntmps27
            go_wp2_with fail
            refine (K4.out _).mono ?_
            rintro e w1 ⟨rfl, hb1⟩
            have hb := HB.out.trans (hb1.mono HB.out.size)
            have hA1 := HA.out.on hb1
            clear a0 a1 a2 a3 a4
            have a1 := hA1.c1
            clear hb1
            go_wp2_with fail
            refine (K3.out _).mono ?_
            rintro e w2 ⟨rfl, hb1⟩
            replace hb := hb.trans (hb1.mono hb.size)
            have hA2 := hA1.on hb1
            clear a1 hb1
            have a2 := hA2.c2
            go_wp2_with fail
            refine (KA.out _).mono ?_
            rintro e w7 ⟨rfl, hb7⟩
            replace hb := hb.trans (hb7.mono hb.size)
            clear a2 hb7
            go_wp2_with fail
            go_ret
            exact ⟨rfl, hb⟩
        | false =>
          go_enter Try.func27, Try.ntmps27
          go_wp2_with fail
          refine (K4.out _).mono ?_
          rintro e w1 ⟨rfl, hb1⟩
          have hb := HB.out.trans (hb1.mono HB.out.size)
          have hA1 := HA.out.on hb1
          clear a0 a1 a2 a3 a4
          have a1 := hA1.c1
          clear hb1
          go_wp2_with fail
          refine (K3.out _).mono ?_
          rintro e w2 ⟨rfl, hb1⟩
          replace hb := hb.trans (hb1.mono hb.size)
          clear a1 hb1
          go_wp2_with fail
          go_ret
          exact ⟨rfl, hb⟩
theorem rOne_is (d : Nd) (W : World) (hd : d.on W) : Calls Try.prog 27 #[d.val] W (ValEnd (.bool (okN d)) W) := by
  have hnl := hd.nl
  obtain ⟨k, v, a, x, g, m, c, ns⟩ := d
  have hnl : ns.length = m := hnl
  show Calls _ _ #[.agg #[.int .i64 k, .string v, .string a, .string x, .slice g m c]] W _
  by_cases h1 : k = 1
  · subst h1
    exact rOne_lit v a x g m c ns W hd
  by_cases hm : 0 < m
  · rw [show okN ⟨k, v, a, x, g, m, c, ns⟩ = false by
      unfold okN
      simp only [hnl]
      rw [if_neg h1, if_pos hm]]
    exact rOne_many k v a x g m c W h1 hm
  have hm0 : m = 0 := by omega
  by_cases h3 : k = 3
  · subst h3
    rw [show okN ⟨3, v, a, x, g, m, c, ns⟩ = (emp x && (verbB v && advB a [39, 47, 92, 96])) by
      unfold okN
      simp [hnl, hm0]]
    exact rOne_monad v a x g m c W hm0 (maxLen_le hd.vz)
  by_cases h4 : k = 4
  · subst h4
    rw [show okN ⟨4, v, a, x, g, m, c, ns⟩ = (emp x && (verbB v && advB a [39, 46])) by
      unfold okN
      simp [hnl, hm0]]
    exact rOne_dyad v a x g m c W hm0 (maxLen_le hd.vz)
  by_cases he : v.toList.isEmpty = false ∨ a.toList.isEmpty = false
  · rw [show okN ⟨k, v, a, x, g, m, c, ns⟩ = false by
      unfold okN
      simp only [hnl]
      rw [if_neg h1, if_neg hm, if_neg h3, if_neg h4, if_pos (by unfold emp; rcases he with he | he <;> rw [he] <;> simp)]]
    exact rOne_extra k v a x g m c W h1 h3 h4 hm0 he
  have hv : v.toList.isEmpty = true := by
    cases h : v.toList.isEmpty with
    | true => rfl
    | false => exact absurd (.inl h) he
  have ha : a.toList.isEmpty = true := by
    cases h : a.toList.isEmpty with
    | true => rfl
    | false => exact absurd (.inr h) he
  have e0 : okN ⟨k, v, a, x, g, m, c, ns⟩ = if k = 2 ∨ k = 5 ∨ k = 6 then prt x 2 else if k = 7 then prt x 3 else if k = 8 then emp x else false := by
    unfold okN
    simp only [hnl]
    rw [if_neg h1, if_neg hm, if_neg h3, if_neg h4, if_neg (by unfold emp; rw [hv, ha]; simp)]
  rw [e0]
  by_cases h : k < 1 ∨ 8 < k
  · rw [if_neg (by omega), if_neg (by omega), if_neg (by omega)]
    exact rOne_none k v a x g m c W h hm0 hv ha
  have hk : k = 2 ∨ k = 5 ∨ k = 6 ∨ k = 7 ∨ k = 8 := by omega
  rcases hk with rfl | rfl | rfl | rfl | rfl
  · exact rOne_name v a x g m c W hm0 hv ha (maxLen_le hd.xz)
  · exact rOne_assign v a x g m c W hm0 hv ha (maxLen_le hd.xz)
  · exact rOne_amend v a x g m c W hm0 hv ha (maxLen_le hd.xz)
  · exact rOne_define v a x g m c W hm0 hv ha (maxLen_le hd.xz)
  · exact rOne_index v a x g m c W hm0 hv ha
end Go.Proofs.Ytiopemimancliaa

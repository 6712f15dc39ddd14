import Derived.Test.YtilkjfmgjldmoaaDoorOrder
namespace Go.Proofs.YtilkjfmgjldmoaaDoor
open Go.RowKit

set_option maxRecDepth 10000 in
set_option maxHeartbeats 1600000 in
/-- Too long a text, or none that is a number: what was shown. -/
theorem order_few (a b c : ByteArray) (w : World) (htab : Tab w) (HF : FewIs a b false) : Calls Tryd.prog 8 #[.string a, .string b, .string c] w (TrueEnd w) := by
  have KF := Lib.hid HF
  clear HF
  go_enter Tryd.func8, Tryd.ntmps8
  go_wp2_with fail
  refine (shown_any _ htab).mono ?_
  rintro e w1 ⟨rfl, hb1⟩
  go_wp2_with fail
  refine (KF.out _).mono ?_
  rintro e w2 ⟨rfl, rfl⟩
  go_wp2_with fail
  go_ret
  exact ⟨rfl, hb1⟩
set_option maxRecDepth 10000 in
set_option maxHeartbeats 1600000 in
theorem order_long (a b c : ByteArray) (w : World) (htab : Tab w) (hc : ¬ c.size ≤ 200) (HF : FewIs a b true) : Calls Tryd.prog 8 #[.string a, .string b, .string c] w (TrueEnd w) := by
  have KF := Lib.hid HF
  clear HF
  have hc' : (200 : Int) < c.size := by omega
  go_enter Tryd.func8, Tryd.ntmps8
  go_wp2_with fail
  refine (shown_any _ htab).mono ?_
  rintro e w1 ⟨rfl, hb1⟩
  go_wp2_with fail
  refine (KF.out _).mono ?_
  rintro e w2 ⟨rfl, rfl⟩
  go_wp2_with fail
  go_ret
  exact ⟨rfl, hb1⟩
set_option maxRecDepth 10000 in
set_option maxHeartbeats 1600000 in
theorem order_no (a b c : ByteArray) (va vb vc : Bool) (hv : (va && vb && vc) = false) (w : World) (htab : Tab w) (hc : c.size ≤ 200) (HF : FewIs a b true) (HA : MayIs a va) (HB : MayIs b vb) (HC : MayIs c vc) : Calls Tryd.prog 8 #[.string a, .string b, .string c] w (TrueEnd w) := by
  have KF := Lib.hid HF
  have KA := Lib.hid HA
  have KB := Lib.hid HB
  have KC := Lib.hid HC
  clear HF HA HB HC
  have hc' : ¬ (200 : Int) < c.size := by omega
  go_enter Tryd.func8, Tryd.ntmps8
  go_wp2_with fail
  refine (shown_any _ htab).mono ?_
  rintro e w1 ⟨rfl, hb1⟩
  go_wp2_with fail
  refine (KF.out _).mono ?_
  rintro e w2 ⟨rfl, rfl⟩
  go_wp2_with fail
  cases va
  · refine (KA.out _).mono ?_
    rintro e w2 ⟨rfl, rfl⟩
    go_wp2_with fail
    go_ret
    exact ⟨rfl, hb1⟩
  · refine (KA.out _).mono ?_
    rintro e w2 ⟨rfl, rfl⟩
    go_wp2_with fail
    cases vb
    · refine (KB.out _).mono ?_
      rintro e w2 ⟨rfl, rfl⟩
      go_wp2_with fail
      go_ret
      exact ⟨rfl, hb1⟩
    · refine (KB.out _).mono ?_
      rintro e w2 ⟨rfl, rfl⟩
      go_wp2_with fail
      cases vc
      · refine (KC.out _).mono ?_
        rintro e w2 ⟨rfl, rfl⟩
        go_wp2_with fail
        go_ret
        exact ⟨rfl, hb1⟩
      · exact absurd hv (by decide)
theorem cmpI_pos {x y : Int} : (cmpI x y = -1 ∧ x < y) ∨ (cmpI x y = 0 ∧ x = y) ∨ (cmpI x y = 1 ∧ y < x) := by
  unfold cmpI; split <;> (try split) <;> omega
theorem order_any (a b c : ByteArray) (w : World) (ha : a.size ≤ maxLen) (hb : b.size ≤ maxLen) (hcc : c.size ≤ maxLen) (htab : Tab w) : Calls Tryd.prog 8 #[.string a, .string b, .string c] w (TrueEnd w) := by
  cases hf : (decide (a.size ≤ 200) && decide (b.size ≤ 200))
  · exact order_few a b c w htab fun w => few_any a b false hf w
  by_cases hc : c.size ≤ 200
  · obtain ⟨o, ho⟩ := is_ex a ha
    obtain ⟨p, hp⟩ := is_ex b hb
    obtain ⟨r, hr⟩ := is_ex c hcc
    cases hv : (o.isSome && p.isSome && r.isSome)
    · exact order_no a b c o.isSome p.isSome r.isSome hv w htab hc (fun w => few_any a b true hf w) (fun w => May_opt w ho) (fun w => May_opt w hp) (fun w => May_opt w hr)
    · cases o with
      | none => simp at hv
      | some x =>
        cases p with
        | none => simp at hv
        | some y =>
          cases r with
          | none => simp at hv
          | some z =>
            have h1 := @cmpI_pos x y
            have h2 := @cmpI_pos y z
            have h3 := @cmpI_pos y x
            have h4 := @cmpI_pos x z
            refine order_main a b c (T (op (fun x y => x - y) (some x) (some y))) (cmpI x y) (cmpI y z) (cmpI x z) (opE (fun x y => x - y) (some x) (some y)) w htab hc (fun w => few_any a b true hf w) (fun w => May_opt w ho) (fun w => May_opt w hp) (fun w => May_opt w hr)
              (fun w => Cmp_opt w ho hp) (fun w => Cmp_opt w hp hr) (fun w => ?_) (fun w => Cmp_opt w ho hr) (fun w ht => Sub_opt w ho hp ht) (fun h0 w => ?_) (by omega) (by omega) ?_ (by omega) (by omega) ?_
            · rw [show -cmpI x y = cmpI y x by omega]; exact Cmp_opt w hp ho
            · obtain ⟨x', y', hx', hy', hl, e⟩ := opE_zero h0
              cases hx'; cases hy'
              have hs := Sign_opt (s := T (op (fun x y => x - y) (some x) (some y))) (o := op (fun x y => x - y) (some x) (some y)) w (is_T op_bd)
              rw [e] at hs ⊢
              have e2 : sgnO (some (x - y)) = cmpI x y := by
                show (x - y).sign = cmpI x y
                rcases h1 with ⟨h, hh⟩ | ⟨h, hh⟩ | ⟨h, hh⟩
                · rw [h, Int.sign_eq_neg_one_of_neg (by omega)]
                · rw [h, show x - y = 0 by omega]; rfl
                · rw [h, Int.sign_eq_one_of_pos (by omega)]
              rw [← e2]; exact hs
            · constructor
              · intro h
                rw [ho.1, hp.1, show x = y by omega]
              · intro h
                have : x = y := S_inj (by rw [← ho.1, ← hp.1, h])
                omega
            · show toldE (x - y) = 0 ∨ toldE (x - y) = 8
              unfold toldE; split
              · exact .inl rfl
              · exact .inr rfl
  · exact order_long a b c w htab hc fun w => few_any a b true hf w
end Go.Proofs.YtilkjfmgjldmoaaDoor

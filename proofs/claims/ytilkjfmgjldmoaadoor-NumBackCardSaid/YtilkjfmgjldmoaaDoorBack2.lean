import Derived.Test.YtilkjfmgjldmoaaDoorBack
import Derived.Test.YtilkjfmgjldmoaaDoorOrder2
namespace Go.Proofs.YtilkjfmgjldmoaaDoor
open Go.RowKit

set_option maxRecDepth 10000 in
set_option maxHeartbeats 1600000 in
theorem back_few (x : Int) (a : ByteArray) (w : World) (htab : Tab w) (HF : FewIs a a false) : Calls Tryd.prog 5 #[.int .i64 x, .string a] w (TrueEnd w) := by
  have KF := Lib.hid HF
  clear HF
  go_enter Tryd.func5, Tryd.ntmps5
  go_wp2_with fail
  refine (shown_any _ htab).mono ?_
  rintro e w1 ⟨rfl, hb1⟩
  go_wp2_with fail
  refine (KF.out _).mono ?_
  rintro e w2 ⟨rfl, rfl⟩
  go_wp2_with fail
  go_ret
  exact ⟨rfl, hb1⟩
theorem back_any (x : Int) (a : ByteArray) (w : World) (h0 : -9223372036854775808 ≤ x) (h1 : x ≤ 9223372036854775807) (ha : a.size ≤ maxLen) (htab : Tab w) : Calls Tryd.prog 5 #[.int .i64 x, .string a] w (TrueEnd w) := by
  cases hf : (decide (a.size ≤ 200) && decide (a.size ≤ 200))
  · exact back_few x a w htab fun w => few_any a a false hf w
  obtain ⟨o, ho⟩ := is_ex a ha
  have hx := lim_i64 h0 h1
  have hneg : NegIs a (T (negO o)) := fun w ht => Neg_opt w ho ht
  have hn : Is (T (negO o)) (negO o) := is_T (negO_bd ho)
  refine back_main x x.sign (sgnO o) (S x) a (T (negO o)) o.isSome w htab (fun w => few_any a a true hf w) (fun w ht => Of_any x h0 h1 w ht) (Int_ok x h0 h1) (fun w => may_yes hx w) (fun w => sign_yes x w hx) ?_ (fun w => May_opt w ho) hneg (fun w => Sign_opt w ho) ?_ ?_ ?_
  · rcases Int.lt_trichotomy x 0 with h | h | h
    · exact .inr (.inl ⟨h, Int.sign_eq_neg_one_of_neg h⟩)
    · exact .inr (.inr ⟨h, by rw [h]; rfl⟩)
    · exact .inl ⟨h, Int.sign_eq_one_of_pos h⟩
  · cases o with
    | none => exact .inr (.inl rfl)
    | some y =>
      show y.sign = -1 ∨ y.sign = 0 ∨ y.sign = 1
      rcases Int.lt_trichotomy y 0 with h | h | h
      · exact .inl (Int.sign_eq_neg_one_of_neg h)
      · exact .inr (.inl (by rw [h]; rfl))
      · exact .inr (.inr (Int.sign_eq_one_of_pos h))
  · intro hv
    cases o with
    | none => cases hv
    | some y =>
      refine ⟨fun w ht => ?_, fun w => ?_, fun w => ?_⟩
      · have h := Neg_opt w hn ht
        have e : T (negO (negO (some y))) = a := by
          show S (- -y) = a
          rw [Int.neg_neg, ho.1]
        rw [e] at h; exact h
      · have h := Sign_opt w hn
        have e : sgnO (negO (some y)) = -sgnO (some y) := Int.sign_neg y
        rw [e] at h; exact h
      · exact May_opt w hn
  · intro hv
    cases o with
    | none => exact ⟨rfl, rfl⟩
    | some y => cases hv
end Go.Proofs.YtilkjfmgjldmoaaDoor

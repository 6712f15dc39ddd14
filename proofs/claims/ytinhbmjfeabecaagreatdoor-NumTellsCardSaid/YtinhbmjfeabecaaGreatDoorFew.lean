import Derived.Test.YtinhbmjfeabecaaGreatDoorOpt
namespace Go.Proofs.YtinhbmjfeabecaaGreatDoor
open Go.RowKit

set_option maxRecDepth 10000 in
theorem few_any (s t : ByteArray) (b : Bool) (hb : (decide (s.size ≤ 200) && decide (t.size ≤ 200)) = b) (w : World) : Calls Tryz.prog 5 #[.string s, .string t] w fun e w' => e = .returned (.bool b) ∧ w = w' := by
  subst hb
  by_cases h0 : s.size ≤ 200
  · have e0 : (s.size : Int) ≤ 200 := by omega
    by_cases h1 : t.size ≤ 200
    · have e1 : (t.size : Int) ≤ 200 := by omega
      go_enter Tryz.func5, Tryz.ntmps5
      go_wp2_with fail
      go_ret
      exact ⟨ret_bool (by simp [h0, h1]), rfl⟩
    · have e1 : ¬ (t.size : Int) ≤ 200 := by omega
      go_enter Tryz.func5, Tryz.ntmps5
      go_wp2_with fail
      go_ret
      exact ⟨ret_bool (by simp [h0, h1]), rfl⟩
  · have e0 : ¬ (s.size : Int) ≤ 200 := by omega
    go_enter Tryz.func5, Tryz.ntmps5
    go_wp2_with fail
    go_ret
    exact ⟨ret_bool (by simp [h0]), rfl⟩
end Go.Proofs.YtinhbmjfeabecaaGreatDoor

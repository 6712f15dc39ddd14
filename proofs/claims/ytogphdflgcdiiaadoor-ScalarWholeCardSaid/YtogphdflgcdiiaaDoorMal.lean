import Derived.Test.YtogphdflgcdiiaaDoorMaj
import Derived.Test.YtogphdflgcdiiaaDoorMak
namespace Go.Proofs.YtogphdflgcdiiaaDoor
set_option linter.unusedVariables false
set_option linter.unusedSimpArgs false
open Go.RowKit

theorem take_snoc (s : ByteArray) (k : Nat) (h : k < s.size) : s.data.toList.take (k + 1) = s.data.toList.take k ++ [s[k]] := by
  rw [List.take_succ_eq_append_getElem (by simpa using h)]; rfl
theorem dval_take_lt (s : ByteArray) (k : Nat) (hd : AllDig s.data.toList) (h9 : s.size ≤ 9) (hk : k < s.size) : dval (s.data.toList.take k) < 100000000 := by
  have := dval_lt (allDig_take hd k)
  have hl : (s.data.toList.take k).length ≤ k := List.length_take_le _ _
  have : 10 ^ (s.data.toList.take k).length ≤ 10 ^ 8 := Nat.pow_le_pow_right (by decide) (by omega)
  omega
theorem dig_get (s : ByteArray) (k : Nat) (hd : AllDig s.data.toList) (hk : k < s.size) : 48 ≤ (s[k]).toNat ∧ (s[k]).toNat ≤ 57 := hd _ (by
  have : s.data.toList[k]'(by simpa using hk) = s[k] := rfl
  rw [← this]; exact List.getElem_mem _)

set_option maxHeartbeats 800000 in
theorem readPart_any (s : ByteArray) (w : World) (hs : s.size ≤ 9) (hd : AllDig s.data.toList) :
    Calls Tryd.prog 61 #[.string s] w fun e w' => e = .returned (.int .u32 (dval s.data.toList : Nat)) ∧ w = w' := by
  go_enter Tryd.func61, Tryd.ntmps61
  go_wp2_with fail
  go_loop [3, 7] (fun p i => ∃ k : Nat, k ≤ s.size ∧ i = .int .i64 k ∧ p = .int .u32 (dval (s.data.toList.take k) : Nat)) (fun _ i => s.size - (intOf i).toNat)
  case atStart => exact ⟨0, Nat.zero_le _, rfl, rfl⟩
  case round =>
    obtain ⟨k, hk, rfl, rfl⟩ := hrel
    by_cases hlt : k < s.size
    · have hb := dval_take_lt s k hd hs hlt
      have hc := dig_get s k hd hlt
      have HS := Lib.hid ((congrArg dval (take_snoc s k hlt)).trans (dval_snoc _ _))
      have h0 : (0 : Int) ≤ (dval (s.data.toList.take k) : Nat) := Int.natCast_nonneg _
      go_wp2_with fail
      go_round
      case rel => exact ⟨k + 1, by omega, by go_num, by rw [HS.out]; go_num⟩
      case measure => simp [intOf]; omega
    · go_wp2_with fail
      go_ret
      exact ⟨ret_int (by rw [List.take_of_length_le (by simp; omega)]), rfl⟩
end Go.Proofs.YtogphdflgcdiiaaDoor

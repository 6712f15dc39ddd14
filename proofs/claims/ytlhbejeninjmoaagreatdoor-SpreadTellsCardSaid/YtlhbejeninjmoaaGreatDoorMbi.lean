import Derived.Test.YtlhbejeninjmoaaGreatDoorMbb
import Derived.Test.YtlhbejeninjmoaaGreatDoorMbg
import Derived.Test.YtlhbejeninjmoaaGreatDoorMbh
/-
  The reference's at, Ops, and Dyad.
-/
namespace Go.Proofs.YtlhbejeninjmoaaGreatDoor
set_option linter.unusedVariables false
set_option linter.unusedSimpArgs false
open Go.RowKit

set_option maxRecDepth 10000 in
set_option maxHeartbeats 1600000 in
theorem rat_is {a b : Option Addr} {n c m d : Nat} {l : List Int} {es : List ByteArray} (W : World) (h : Vl W a n b m l es) (i : Nat) (hi : (if nx l then 0 else i) < m) :
    Calls Tryz.prog 31 #[.agg #[.slice a n c, .slice b m d], .int .i64 i] W (TxOut (es.getD (if nx l then 0 else i) ByteArray.empty) W) := by
  have hx := Bx.new W a n c b m d
  have hbl : Below W.heap.size W (W.alloc (.cells #[.slice a n c, .slice b m d] 25)) := (Below.refl _ _).alloc (Nat.le_refl _) _
  have hv := h.below hbl
  have hmm := h.mm
  obtain ⟨gb, off, rfl, hc⟩ := hv.t.2 (by omega)
  have hck := hc _ hi
  have hln := h.s.1
  have x0 := hx.c0
  have x1 := hx.c1
  have HB := Lib.hid hbl
  by_cases h0 : n = 0
  · subst h0
    obtain rfl := List.length_eq_zero_iff.1 hln
    have e : (if nx [] then 0 else i) = 0 := rfl
    rw [e] at hck hi ⊢
    rw [Nat.add_zero] at hck
    generalize es.getD 0 ByteArray.empty = s at hck ⊢
    clear hv h hc hln hbl hx e
    go_enter Tryz.func31, Tryz.ntmps31
    go_wp2_with fail
    go_ret
    exact ⟨rfl, HB.out⟩
  · have e : (if nx l then 0 else i) = i := by
      have : nx l = false := decide_eq_false (by rintro rfl; exact h0 hln.symm)
      rw [this]; rfl
    rw [e] at hck hi ⊢
    generalize es.getD i ByteArray.empty = s at hck ⊢
    have e1 : ¬ (n : Int) = 0 := by omega
    have e1' : ((n : Int) == 0) = false := beq_eq_false_iff_ne.2 e1
    have e2 : (i : Int) < (m : Int) := by omega
    clear hv h hc hln hbl hx e
    go_enter Tryz.func31, Tryz.ntmps31
    go_wp2_with fail
    go_ret
    exact ⟨rfl, HB.out⟩
/-! ### Ops -/
abbrev sgT : ByteArray := ⟨#[43, 45, 42, 37, 33, 38, 124, 60, 62, 61, 126]⟩
theorem sgT_at (i : Nat) (h : i < 11) : sgT.extract i (i + 1) = dS i := by
  obtain rfl | rfl | rfl | rfl | rfl | rfl | rfl | rfl | rfl | rfl | rfl : i = 0 ∨ i = 1 ∨ i = 2 ∨ i = 3 ∨ i = 4 ∨ i = 5 ∨ i = 6 ∨ i = 7 ∨ i = 8 ∨ i = 9 ∨ i = 10 := by omega
  all_goals rfl
theorem kd_no {op : ByteArray} (h : ∀ j, j < 11 → op ≠ dS j) : decide (kdL op.data.toList < 11) = false := by
  refine decide_eq_false fun hk => ?_
  exact h _ hk (dS_of rfl hk).symm
theorem kd_yes {op : ByteArray} {i : Nat} (hi : i < 11) (h : op = dS i) : decide (kdL op.data.toList < 11) = true := by
  rw [h, dS_kd i hi]; exact decide_eq_true hi
set_option maxRecDepth 10000 in
set_option maxHeartbeats 3200000 in
theorem rOps_is (op : ByteArray) (w : World) : Calls Tryz.prog 17 #[.string op] w fun e w' => e = .returned (.bool (decide (kdL op.data.toList < 11))) ∧ w = w' := by
  obtain ⟨v, hv⟩ : ∃ v, v = decide (kdL op.data.toList < 11) := ⟨_, rfl⟩
  rw [← hv]
  have HV := Lib.hid hv
  have hsz : sgT.size = 11 := rfl
  clear hv
  go_enter Tryz.func17, Tryz.ntmps17
  go_wp2_with fail
  go_loop [4] (fun iv => ∃ i : Nat, iv = .int .i64 i ∧ i ≤ 11 ∧ ∀ j, j < i → op ≠ dS j) (fun iv => 11 - (intOf iv).toNat)
  case atStart => exact ⟨0, rfl, by omega, fun j hj => by omega⟩
  case round =>
    obtain ⟨i, rfl, hi, hno⟩ := hrel
    have HN := Lib.hid hno
    clear hno
    by_cases hlt : i < 11
    · have e2 : (i : Int) < 11 := by omega
      have hx := sgT_at i hlt
      have e3 : i + 1 ≤ 11 := by omega
      by_cases hop : op = dS i
      · obtain rfl : v = true := HV.out.trans (kd_yes hlt hop)
        have h1 : op.toList = (dS i).toList := by rw [hop]
        generalize dS i = s at *
        clear hop
        go_wp2_with fail
        go_ret
        exact ⟨rfl, rfl⟩
      · have h1 : (op.toList == (dS i).toList) = false := beq_eq_false_iff_ne.2 fun e => hop (toList_inj e)
        have HO := Lib.hid hop
        have HXX : Hid (dS i = dS i) := Lib.hid rfl
        clear hop
        go_wp2_with fail
        go_round
        case rel => exact ⟨i + 1, by go_num, by omega, fun j hj => by
          rcases Nat.lt_or_ge j i with h | h
          · exact HN.out j h
          · rw [show j = i by omega]; exact HO.out⟩
        case measure => simp [intOf]; omega
    · have e2 : ¬ (i : Int) < 11 := by omega
      obtain rfl : i = 11 := by omega
      obtain rfl : v = false := HV.out.trans (kd_no HN.out)
      go_wp2_with fail
      go_ret
      exact ⟨rfl, rfl⟩
end Go.Proofs.YtlhbejeninjmoaaGreatDoor

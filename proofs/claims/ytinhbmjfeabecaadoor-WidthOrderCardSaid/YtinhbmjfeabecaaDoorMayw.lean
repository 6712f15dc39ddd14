import Derived.Test.YtinhbmjfeabecaaDoorMay
namespace Go.Proofs.YtinhbmjfeabecaaDoor
open Go.RowKit

theorem get_take_dig {f : ByteArray} {k : Nat} (hk : k < f.size) (h : AllDig (f.data.toList.take k)) (hc : 48 ≤ (f[k]).toNat ∧ (f[k]).toNat ≤ 57) : AllDig (f.data.toList.take (k + 1)) := by
  rw [take_snoc f k hk]
  exact allDig_append.2 ⟨h, allDig_cons.2 ⟨hc, allDig_nil⟩⟩
theorem not_dig_of {f : ByteArray} {k : Nat} (hk : k < f.size) (hc : ¬ (48 ≤ (f[k]).toNat ∧ (f[k]).toNat ≤ 57)) : AllDigB f.data.toList = false := by
  cases h : AllDigB f.data.toList
  · rfl
  · exact absurd (dig_get f k (allDigB.1 h) hk) hc
def MayPost (b : Bool) (w : World) (e : Ending) (w' : World) : Prop := e = .returned (.bool b) ∧ w = w'
theorem ret_bool {a b : Bool} (h : a = b) : Ending.returned (.bool a) = .returned (.bool b) := by rw [h]
theorem head_get {f : ByteArray} (h : 0 < f.size) : f.data.toList.head? = some f[0] := by
  have hl : 0 < f.data.toList.length := by simpa using h
  cases hd : f.data.toList with
  | nil => rw [hd] at hl; simp at hl
  | cons a r =>
    have : f.data.toList[0]'hl = f[0] := rfl
    simp only [hd, List.getElem_cons_zero] at this
    rw [← this]; rfl
theorem str_tl (s : ByteArray) : s.toList = s.data.toList := ByteArray.toList_eq s

set_option maxRecDepth 10000 in
set_option maxHeartbeats 1600000 in
theorem may_any (s : ByteArray) (w : World) (hs : s.size ≤ maxLen) :
    Calls Tryd.prog 44 #[.string s] w (MayPost (mayL s.data.toList) w) := by
  obtain ⟨f, hf⟩ : ∃ f : ByteArray, f = ⟨(Lib.trimPrefix s.data.toList [45]).toArray⟩ := ⟨_, rfl⟩
  have hF : figs s.data.toList = f.data.toList := by rw [hf]; rfl
  have hfl : (f.data.toList).length = f.size := by simp
  have hT := Tryd.strings_TrimPrefix s ⟨#[45]⟩ w
  rw [show Lib.trimPrefix s.data.toList (⟨#[45]⟩ : ByteArray).data.toList = Lib.trimPrefix s.data.toList [45] from rfl, ← hf] at hT
  have hM : mayL s.data.toList = (decide (1 ≤ f.size) && decide (f.size ≤ 100) && AllDigB f.data.toList && (decide (f.data.toList.head? ≠ some 48) || decide (s.data.toList = [48]))) := by
    unfold mayL; rw [hF, hfl]
  rw [hM]
  have HT := Lib.hid hT
  clear hM hT hF hf hfl
  by_cases h0 : f.size = 0
  · have e0 : ((f.size : Int) == 0) = true := by rw [h0]; rfl
    go_enter Tryd.func44, Tryd.ntmps44
    go_wp2_with fail
    refine HT.out.mono ?_
    rintro e w1 ⟨rfl, rfl⟩
    go_wp2_with fail
    go_ret
    exact ⟨ret_bool (by simp [h0]), rfl⟩
  · by_cases h1 : 100 < f.size
    · have e0 : ((f.size : Int) == 0) = false := beq_eq_false_iff_ne.2 (by omega)
      go_enter Tryd.func44, Tryd.ntmps44
      go_wp2_with fail
      refine HT.out.mono ?_
      rintro e w1 ⟨rfl, rfl⟩
      go_wp2_with fail
      go_ret
      exact ⟨ret_bool (by simp [show ¬ f.size ≤ 100 by omega]), rfl⟩
    · have e0 : ((f.size : Int) == 0) = false := beq_eq_false_iff_ne.2 (by omega)
      have e1 : ¬ (100 : Int) < f.size := by omega
      go_enter Tryd.func44, Tryd.ntmps44
      go_wp2_with fail
      refine HT.out.mono ?_
      rintro e w1 ⟨rfl, rfl⟩
      go_wp2_with fail
      go_loop [17] (fun i => ∃ k : Nat, k ≤ f.size ∧ i = .int .i64 k ∧ AllDig (f.data.toList.take k)) (fun i => f.size - (intOf i).toNat)
      case atStart => exact ⟨0, Nat.zero_le _, rfl, allDig_nil⟩
      case round =>
        obtain ⟨k, hk, rfl, hI⟩ := hrel
        by_cases hlt : k < f.size
        · by_cases hc : 48 ≤ (f[k]).toNat ∧ (f[k]).toNat ≤ 57
          · have hst := get_take_dig hlt hI hc
            go_wp2_with fail
            go_round
            case rel => exact ⟨k + 1, by omega, by go_num, hst⟩
            case measure => simp [intOf]; omega
          · have hnd := not_dig_of hlt hc
            by_cases hc2 : (f[k]).toNat < 48
            · go_wp2_with fail
              go_ret
              exact ⟨ret_bool (by simp [hnd]), rfl⟩
            · have hc3 : 57 < (f[k]).toNat := by omega
              go_wp2_with fail
              go_ret
              exact ⟨ret_bool (by simp [hnd]), rfl⟩
        · rw [List.take_of_length_le (by simp; omega)] at hI
          have hh := head_get (f := f) (by omega)
          have hA := allDigB.2 hI
          by_cases hc : f[0] = 48
          · have hc' : (((f[0]).toNat : Int) != 48) = false := by rw [hc]; rfl
            have HC := Lib.hid hc
            have HH := Lib.hid hh
            clear hc hh
            go_wp2_with fail
            go_ret
            refine ⟨ret_bool ?_, rfl⟩
            rw [hA, HH.out, HC.out]
            show (s.toList == [48]) = _
            rw [str_tl]
            simp [show 1 ≤ f.size by omega, show f.size ≤ 100 by omega]
            rw [Bool.eq_iff_iff, beq_iff_eq, decide_eq_true_eq]
          · have hc' : (((f[0]).toNat : Int) != 48) = true := by
              rw [bne_iff_ne]; intro h; apply hc; exact u8_ext (by simpa using (by omega : (f[0]).toNat = 48))
            go_wp2_with fail
            go_ret
            exact ⟨ret_bool (by rw [hA, hh]; simp [hc]; omega), rfl⟩
end Go.Proofs.YtinhbmjfeabecaaDoor

import Derived.Test.YtinhbmjfeabecaaGreatDoorRf2
import Derived.Test.YtinhbmjfeabecaaGreatDoorOpt
namespace Go.Proofs.YtinhbmjfeabecaaGreatDoor
open Go.RowKit

/-- Figures of a text that is a number. -/
theorem is_figs {s : ByteArray} {x : Int} (h : Is s (some x)) : Figs 100 x := (digs_lim _).2 h.2
def RMayIs (a : ByteArray) (v : Bool) : Prop := ∀ w, Calls Tryz.prog 9 #[.string a] w (MayPost v w)
theorem mayL_short {l : List UInt8} (h : (figs l).length < 1 ∨ 100 < (figs l).length) : mayL l = false := by
  unfold mayL
  rcases h with h | h
  · rw [decide_eq_false (by omega)]; rfl
  · rw [decide_eq_false (p := (figs l).length ≤ 100) (by omega)]; simp
theorem mayL_zero {l : List UInt8} (h : (figs l).head? = some 48) (hl : l ≠ [48]) : mayL l = false := by
  unfold mayL
  rw [h, decide_eq_false hl]; simp
theorem mayL_bad {l : List UInt8} (h : AllDigB (figs l) = false) : mayL l = false := by
  unfold mayL
  rw [h]; simp
theorem mayL_good {l : List UInt8} (h1 : 1 ≤ (figs l).length) (h2 : (figs l).length ≤ 100) (h3 : AllDigB (figs l) = true) (h4 : (figs l).head? ≠ some 48) : mayL l = true := by
  unfold mayL
  rw [decide_eq_true h1, decide_eq_true h2, h3, decide_eq_true h4]; rfl
theorem drop_head {l : List UInt8} {a : Nat} (h : a < l.length) : (l.drop a).head? = some l[a] := by simp [List.head?_drop, h]
theorem allB_true {l : List UInt8} (h : ∀ (k : Nat) (hk : k < l.length), 48 ≤ (l[k]).toNat ∧ (l[k]).toNat ≤ 57) : AllDigB l = true := allDigB.2 fun c hc => by
  obtain ⟨k, hk, rfl⟩ := List.getElem_of_mem hc
  exact h k hk
theorem allB_false {l : List UInt8} {k : Nat} (hk : k < l.length) (h : ¬ (48 ≤ (l[k]).toNat ∧ (l[k]).toNat ≤ 57)) : AllDigB l = false := by
  rw [Bool.eq_false_iff]
  intro h2
  exact h (allDigB.1 h2 _ (List.getElem_mem hk))
/-- All figures from place a up to place i. -/
def UpTo (s : ByteArray) (a i : Nat) : Prop := ∀ (k : Nat) (hk : k < s.size), a ≤ k → k < i → 48 ≤ (s[k]).toNat ∧ (s[k]).toNat ≤ 57
theorem may_upto {s : ByteArray} {a : Nat} (hf : figs s.data.toList = s.data.toList.drop a) (h1 : a < s.size) (h2 : s.size - a ≤ 100) (h3 : (s[a]).toNat ≠ 48) (hu : UpTo s a s.size) : mayL s.data.toList = true := by
  have hl : s.data.toList.length = s.size := by simp
  refine mayL_good (by rw [hf]; simp; omega) (by rw [hf]; simp; omega) ?_ ?_
  · rw [hf]
    refine allB_true fun k hk => ?_
    rw [List.length_drop, hl] at hk
    have := hu (a + k) (by omega) (by omega) (by omega)
    simp only [List.getElem_drop]
    exact this
  · rw [hf, drop_head (by omega)]
    intro h
    have : s[a] = 48 := Option.some.inj h
    exact h3 (by rw [this]; rfl)
theorem may_at48 {s : ByteArray} {a : Nat} (hf : figs s.data.toList = s.data.toList.drop a) (h1 : a < s.size) (h3 : (s[a]).toNat = 48) (hz : s.data.toList ≠ [48]) : mayL s.data.toList = false := by
  have hl : s.data.toList.length = s.size := by simp
  refine mayL_zero ?_ hz
  rw [hf, drop_head (by omega)]
  have : s[a] = 48 := UInt8.toNat_inj.1 h3
  exact congrArg some this
theorem may_bad {s : ByteArray} {a k : Nat} (hf : figs s.data.toList = s.data.toList.drop a) (h1 : a ≤ k) (hk : k < s.size) (h3 : ¬ (48 ≤ (s[k]).toNat ∧ (s[k]).toNat ≤ 57)) : mayL s.data.toList = false := by
  have hl : s.data.toList.length = s.size := by simp
  refine mayL_bad ?_
  rw [hf]
  refine allB_false (k := k - a) (by rw [List.length_drop, hl]; omega) ?_
  have e : a + (k - a) = k := by omega
  simp only [List.getElem_drop, e]
  exact h3
theorem may_len {s : ByteArray} {a : Nat} (hf : figs s.data.toList = s.data.toList.drop a) (h : s.size - a < 1 ∨ 100 < s.size - a) : mayL s.data.toList = false := by
  refine mayL_short ?_
  rw [hf, List.length_drop, show s.data.toList.length = s.size by simp]
  exact h
set_option maxRecDepth 10000 in
set_option maxHeartbeats 3200000 in
theorem rMay_any (s : ByteArray) (hs : s.size ≤ maxLen) : RMayIs s (mayL s.data.toList) := by
  intro w
  unfold maxLen at hs
  by_cases hz : s.data.toList = [48]
  · have e0 : (s.toList == [48]) = true := by rw [str_tl, hz]; rfl
    have hm := Lib.hid (show mayL s.data.toList = true by rw [hz]; decide)
    clear hz
    go_enter Tryz.func9, Tryz.ntmps9
    go_wp2_with fail
    go_ret
    exact ⟨ret_bool hm.out.symm, rfl⟩
  have e0 : (s.toList == [48]) = false := by rw [str_tl]; exact beq_eq_false_iff_ne.2 hz
  by_cases he : s.size = 0
  · have hn : s.data.toList = [] := List.eq_nil_of_length_eq_zero (by simpa using he)
    have e1 : s.toList.isEmpty = true := by rw [str_tl, hn]; rfl
    have hm := Lib.hid (show mayL s.data.toList = false by rw [hn]; decide)
    clear hz hn
    go_enter Tryz.func9, Tryz.ntmps9
    go_wp2_with fail
    go_ret
    exact ⟨ret_bool hm.out.symm, rfl⟩
  have hp0 : 0 < s.size := by omega
  have hh := head_get hp0
  have e1 : s.toList.isEmpty = false := by
    rw [str_tl]
    cases hl : s.data.toList with
    | nil => rw [hl] at hh; cases hh
    | cons a r => rfl
  by_cases h5 : (s[0]).toNat = 45
  · have e2 : (((s[0]).toNat : Int) == 45) = true := by rw [h5]; rfl
    have hf : figs s.data.toList = s.data.toList.drop 1 := by
      cases hl : s.data.toList with
      | nil => rw [hl] at hh; cases hh
      | cons c r =>
        rw [hl] at hh
        have : c = 45 := by
          have h6 : c = s[0] := by simpa using hh
          rw [h6]; exact UInt8.toNat_inj.1 h5
        rw [this, figs_neg]; rfl
    clear hh h5
    by_cases t1 : s.size < 1 + 1
    · have hm := Lib.hid (may_len hf (.inl (by omega)))
      have t1' : (s.size : Int) - 1 < 1 := by omega
      clear hf hz
      go_enter Tryz.func9, Tryz.ntmps9
      go_wp2_with fail
      go_ret
      exact ⟨ret_bool hm.out.symm, rfl⟩
    by_cases t2 : 100 < s.size - 1
    · have hm := Lib.hid (may_len hf (.inr t2))
      have t1' : ¬ (s.size : Int) - 1 < 1 := by omega
      have t2' : (100 : Int) < (s.size : Int) - 1 := by omega
      clear hf hz
      go_enter Tryz.func9, Tryz.ntmps9
      go_wp2_with fail
      go_ret
      exact ⟨ret_bool hm.out.symm, rfl⟩
    have hp : 1 < s.size := by omega
    have t1' : ¬ (s.size : Int) - 1 < 1 := by omega
    have t2' : ¬ (100 : Int) < (s.size : Int) - 1 := by omega
    have t5 : s.size ≤ 101 := by omega
    by_cases t3 : (s[1]).toNat = 48
    · have hm := Lib.hid (may_at48 hf hp t3 hz)
      have t3' : (((s[1]).toNat : Int) == 48) = true := by rw [t3]; rfl
      clear hf hz t3
      go_enter Tryz.func9, Tryz.ntmps9
      go_wp2_with fail
      go_ret
      exact ⟨ret_bool hm.out.symm, rfl⟩
    have t3' : (((s[1]).toNat : Int) == 48) = false := beq_eq_false_iff_ne.2 (by omega)
    have HF := Lib.hid (And.intro hf t3)
    clear hf t3 hz
    go_enter Tryz.func9, Tryz.ntmps9
    go_wp2_with fail
    go_loop [4] (fun i => ∃ k : Nat, 1 ≤ k ∧ k ≤ s.size ∧ i = .int .i64 k ∧ UpTo s 1 k) (fun i => s.size - (intOf i).toNat)
    case atStart => exact ⟨1, Nat.le_refl _, by omega, rfl, fun k _ h1 h2 => by omega⟩
    case round =>
      obtain ⟨k, hk0, hk, rfl, hu⟩ := hrel
      have HU := Lib.hid hu
      clear hu
      by_cases hlt : k < s.size
      · by_cases c1 : (s[k]).toNat < 48
        · have hm := Lib.hid (may_bad HF.out.1 hk0 hlt (by omega))
          go_wp2_with fail
          go_ret
          exact ⟨ret_bool hm.out.symm, rfl⟩
        · by_cases c2 : 57 < (s[k]).toNat
          · have hm := Lib.hid (may_bad HF.out.1 hk0 hlt (by omega))
            go_wp2_with fail
            go_ret
            exact ⟨ret_bool hm.out.symm, rfl⟩
          · go_wp2_with fail
            go_round
            case rel =>
              refine ⟨k + 1, by omega, by omega, by go_num, fun j hj h1 h2 => ?_⟩
              by_cases hjk : j = k
              · subst hjk; omega
              · exact HU.out j hj h1 (by omega)
            case measure => simp [intOf]; omega
      · have hke : k = s.size := by omega
        have hm := Lib.hid (may_upto HF.out.1 hp (by omega) HF.out.2 (by rw [← hke]; exact HU.out))
        go_wp2_with fail
        go_ret
        exact ⟨ret_bool hm.out.symm, rfl⟩
  · have e2 : (((s[0]).toNat : Int) == 45) = false := beq_eq_false_iff_ne.2 (by omega)
    have hf : figs s.data.toList = s.data.toList.drop 0 := by
      rw [List.drop_zero]
      refine figs_pos ?_
      rw [hh]
      intro h
      have : s[0] = 45 := by simpa using h
      exact h5 (by rw [this]; rfl)
    clear hh h5
    have t1 : ¬ s.size < 0 + 1 := by omega
    by_cases t2 : 100 < s.size - 0
    · have hm := Lib.hid (may_len hf (.inr t2))
      have t1' : ¬ (s.size : Int) - 0 < 1 := by omega
      have t2' : (100 : Int) < (s.size : Int) - 0 := by omega
      clear hf hz
      go_enter Tryz.func9, Tryz.ntmps9
      go_wp2_with fail
      go_ret
      exact ⟨ret_bool hm.out.symm, rfl⟩
    have hp : 0 < s.size := by omega
    have t1' : ¬ (s.size : Int) - 0 < 1 := by omega
    have t2' : ¬ (100 : Int) < (s.size : Int) - 0 := by omega
    have t5 : s.size ≤ 101 := by omega
    by_cases t3 : (s[0]).toNat = 48
    · have hm := Lib.hid (may_at48 hf hp t3 hz)
      have t3' : (((s[0]).toNat : Int) == 48) = true := by rw [t3]; rfl
      clear hf hz t3
      go_enter Tryz.func9, Tryz.ntmps9
      go_wp2_with fail
      go_ret
      exact ⟨ret_bool hm.out.symm, rfl⟩
    have t3' : (((s[0]).toNat : Int) == 48) = false := beq_eq_false_iff_ne.2 (by omega)
    have HF := Lib.hid (And.intro hf t3)
    clear hf t3 hz
    go_enter Tryz.func9, Tryz.ntmps9
    go_wp2_with fail
    go_loop [4] (fun i => ∃ k : Nat, 0 ≤ k ∧ k ≤ s.size ∧ i = .int .i64 k ∧ UpTo s 0 k) (fun i => s.size - (intOf i).toNat)
    case atStart => exact ⟨0, Nat.le_refl _, by omega, rfl, fun k _ h1 h2 => by omega⟩
    case round =>
      obtain ⟨k, hk0, hk, rfl, hu⟩ := hrel
      have HU := Lib.hid hu
      clear hu
      by_cases hlt : k < s.size
      · by_cases c1 : (s[k]).toNat < 48
        · have hm := Lib.hid (may_bad HF.out.1 hk0 hlt (by omega))
          go_wp2_with fail
          go_ret
          exact ⟨ret_bool hm.out.symm, rfl⟩
        · by_cases c2 : 57 < (s[k]).toNat
          · have hm := Lib.hid (may_bad HF.out.1 hk0 hlt (by omega))
            go_wp2_with fail
            go_ret
            exact ⟨ret_bool hm.out.symm, rfl⟩
          · go_wp2_with fail
            go_round
            case rel =>
              refine ⟨k + 1, by omega, by omega, by go_num, fun j hj h1 h2 => ?_⟩
              by_cases hjk : j = k
              · subst hjk; omega
              · exact HU.out j hj h1 (by omega)
            case measure => simp [intOf]; omega
      · have hke : k = s.size := by omega
        have hm := Lib.hid (may_upto HF.out.1 hp (by omega) HF.out.2 (by rw [← hke]; exact HU.out))
        go_wp2_with fail
        go_ret
        exact ⟨ret_bool hm.out.symm, rfl⟩
theorem dval_take_succ {l : List UInt8} {i : Nat} (h : i < l.length) : dval (l.take (i + 1)) = dval (l.take i) * 10 + ((l[i]).toNat - 48) := by
  rw [List.take_succ_eq_append_getElem h, dval_snoc]
theorem dval_take_le (l : List UInt8) (i : Nat) : dval (l.take i) ≤ dval l := by
  have h : dval l = dval (l.take i ++ l.drop i) := by rw [List.take_append_drop]
  rw [h, dval_append]
  exact Nat.le_trans (Nat.le_mul_of_pos_right _ (Nat.pow_pos (by decide))) (Nat.le_add_right _ _)
theorem allDig_snoc0 {l : List UInt8} (h : AllDig l) : AllDig (l ++ [48]) := by
  intro c hc
  rcases List.mem_append.1 hc with hc | hc
  · exact h c hc
  · have : c = 48 := by simpa using hc
    subst this; decide
theorem rMay_is {s : ByteArray} {o : Option Int} (h : Is s o) : RMayIs s o.isSome := by
  rw [← h.may]; exact rMay_any s h.size
end Go.Proofs.YtinhbmjfeabecaaGreatDoor

import Derived.Test.YtinhbmjfeabecaaDoorRf2
import Derived.Test.YtinhbmjfeabecaaDoorOpt
namespace Go.Proofs.YtinhbmjfeabecaaDoor
open Go.RowKit

set_option maxRecDepth 10000 in
set_option maxHeartbeats 800000 in
theorem rtold_any (z : Int) (hz : Figs 4000 z) (w : World) : Calls Tryd.prog 49 #[.string (S z)] w fun e w' => e = .returned (.tuple #[.string (toldR z), .int .i64 (toldE z)]) ∧ w = w' := by
  have h1 := rsize_S z hz
  have hs := B_size (Lib.decDigits z.natAbs)
  have H1 := Lib.hid h1
  by_cases h : z.natAbs < lim
  · have hl := (digs_lim z.natAbs).2 h
    have h2 : ¬ (100 : Int) < (B (Lib.decDigits z.natAbs)).size := by omega
    have hr : toldR z = S z := by unfold toldR; rw [if_pos h]
    have he : toldE z = 0 := by unfold toldE; rw [if_pos h]
    rw [hr, he]
    clear h1 hs h hl hr he hz
    generalize S z = s at *
    generalize B (Lib.decDigits z.natAbs) = t at *
    go_enter Tryd.func49, Tryd.ntmps49
    go_wp2_with fail
    refine (H1.out _).mono ?_
    rintro e w1 ⟨rfl, rfl⟩
    go_wp2_with fail
    go_ret2
    exact ⟨rfl, rfl⟩
  · have hl : ¬ (Lib.decDigits z.natAbs).length ≤ 100 := fun h2 => h ((digs_lim z.natAbs).1 h2)
    have h2 : (100 : Int) < (B (Lib.decDigits z.natAbs)).size := by omega
    have hr : toldR z = ⟨#[]⟩ := by unfold toldR; rw [if_neg h]
    have he : toldE z = 8 := by unfold toldE; rw [if_neg h]
    rw [hr, he]
    clear h1 hs h hl hr he hz
    generalize S z = s at *
    generalize B (Lib.decDigits z.natAbs) = t at *
    go_enter Tryd.func49, Tryd.ntmps49
    go_wp2_with fail
    refine (H1.out _).mono ?_
    rintro e w1 ⟨rfl, rfl⟩
    go_wp2_with fail
    go_ret2
    exact ⟨rfl, rfl⟩
/-- Figures of a text that is a number. -/
theorem is_figs {s : ByteArray} {x : Int} (h : Is s (some x)) : Figs 100 x := (digs_lim _).2 h.2
def RMayIs (a : ByteArray) (v : Bool) : Prop := ∀ w, Calls Tryd.prog 27 #[.string a] w (MayPost v w)
set_option maxRecDepth 10000 in
set_option maxHeartbeats 800000 in
theorem rAdd_yes (x y : Int) (hx : Figs 100 x) (hy : Figs 100 y) (HM : RMayIs (S x) true) (HM' : RMayIs (S y) true) (w : World) : Calls Tryd.prog 33 #[.string (S x), .string (S y)] w (OpPost (x + y) w) := by
  have h1 := rsum_any x y (Nat.le_trans hx (by decide)) (Nat.le_trans hy (by decide))
  have h2 := rtold_any (x + y) (by
    unfold Figs at *
    exact dec_le_len (y := x.natAbs + y.natAbs) (by omega) (by decide) (Nat.le_trans (dec_add_len (by decide) hx hy) (by decide)))
  have H1 := Lib.hid h1
  have H2 := Lib.hid h2
  have K1 := Lib.hid HM
  have K2 := Lib.hid HM'
  unfold OpPost
  clear h1 h2 hx hy HM HM'
  generalize toldR (x + y) = r at *
  generalize toldE (x + y) = f at *
  generalize S (x + y) = u at *
  generalize S x = s at *
  generalize S y = t at *
  go_enter Tryd.func33, Tryd.ntmps33
  go_wp2_with fail
  refine (K1.out _).mono ?_
  rintro e w1 ⟨rfl, rfl⟩
  go_wp2_with fail
  refine (K2.out _).mono ?_
  rintro e w1 ⟨rfl, rfl⟩
  go_wp2_with fail
  refine (H1.out _).mono ?_
  rintro e w1 ⟨rfl, hb⟩
  go_wp2_with fail
  refine (H2.out _).mono ?_
  rintro e w2 ⟨rfl, rfl⟩
  go_wp2_with fail
  go_ret2
  exact ⟨rfl, hb⟩
set_option maxRecDepth 10000 in
set_option maxHeartbeats 800000 in
theorem rAdd_no (s t : ByteArray) (a b : Bool) (h : (a && b) = false) (HM : RMayIs s a) (HM' : RMayIs t b) (w : World) : Calls Tryd.prog 33 #[.string s, .string t] w (ArgNo w) := by
  have K1 := Lib.hid HM
  have K2 := Lib.hid HM'
  clear HM HM'
  go_enter Tryd.func33, Tryd.ntmps33
  go_wp2_with fail
  cases a
  · refine (K1.out _).mono ?_
    rintro e w1 ⟨rfl, rfl⟩
    go_wp2_with fail
    go_ret2
    exact ⟨rfl, Below.refl _ _⟩
  · refine (K1.out _).mono ?_
    rintro e w1 ⟨rfl, rfl⟩
    go_wp2_with fail
    cases b
    · refine (K2.out _).mono ?_
      rintro e w1 ⟨rfl, rfl⟩
      go_wp2_with fail
      go_ret2
      exact ⟨rfl, Below.refl _ _⟩
    · exact absurd h (by decide)
theorem mayL_short {l : List UInt8} (h : (figs l).length < 1 ∨ 100 < (figs l).length) : mayL l = false := by
  unfold mayL
  rcases h with h | h
  · rw [decide_eq_false (by omega)]; rfl
  · rw [decide_eq_false (p := (figs l).length ≤ 100) (by omega)]; simp
theorem mayL_zero {l : List UInt8} (h : (figs l).head? = some 48) (hl : l ≠ [48]) : mayL l = false := by
  unfold mayL
  rw [h, decide_eq_false hl]; simp
theorem mayL_bad {l : List UInt8} (h : AllDigB (figs l) = false) : mayL l = false := by
  unfold mayL
  rw [h]; simp
theorem mayL_good {l : List UInt8} (h1 : 1 ≤ (figs l).length) (h2 : (figs l).length ≤ 100) (h3 : AllDigB (figs l) = true) (h4 : (figs l).head? ≠ some 48) : mayL l = true := by
  unfold mayL
  rw [decide_eq_true h1, decide_eq_true h2, h3, decide_eq_true h4]; rfl
theorem drop_head {l : List UInt8} {a : Nat} (h : a < l.length) : (l.drop a).head? = some l[a] := by simp [List.head?_drop, h]
theorem allB_true {l : List UInt8} (h : ∀ (k : Nat) (hk : k < l.length), 48 ≤ (l[k]).toNat ∧ (l[k]).toNat ≤ 57) : AllDigB l = true := allDigB.2 fun c hc => by
  obtain ⟨k, hk, rfl⟩ := List.getElem_of_mem hc
  exact h k hk
theorem allB_false {l : List UInt8} {k : Nat} (hk : k < l.length) (h : ¬ (48 ≤ (l[k]).toNat ∧ (l[k]).toNat ≤ 57)) : AllDigB l = false := by
  rw [Bool.eq_false_iff]
  intro h2
  exact h (allDigB.1 h2 _ (List.getElem_mem hk))
/-- All figures from place a up to place i. -/
def UpTo (s : ByteArray) (a i : Nat) : Prop := ∀ (k : Nat) (hk : k < s.size), a ≤ k → k < i → 48 ≤ (s[k]).toNat ∧ (s[k]).toNat ≤ 57
theorem may_upto {s : ByteArray} {a : Nat} (hf : figs s.data.toList = s.data.toList.drop a) (h1 : a < s.size) (h2 : s.size - a ≤ 100) (h3 : (s[a]).toNat ≠ 48) (hu : UpTo s a s.size) : mayL s.data.toList = true := by
  have hl : s.data.toList.length = s.size := by simp
  refine mayL_good (by rw [hf]; simp; omega) (by rw [hf]; simp; omega) ?_ ?_
  · rw [hf]
    refine allB_true fun k hk => ?_
    rw [List.length_drop, hl] at hk
    have := hu (a + k) (by omega) (by omega) (by omega)
    simp only [List.getElem_drop]
    exact this
  · rw [hf, drop_head (by omega)]
    intro h
    have : s[a] = 48 := Option.some.inj h
    exact h3 (by rw [this]; rfl)
theorem may_at48 {s : ByteArray} {a : Nat} (hf : figs s.data.toList = s.data.toList.drop a) (h1 : a < s.size) (h3 : (s[a]).toNat = 48) (hz : s.data.toList ≠ [48]) : mayL s.data.toList = false := by
  have hl : s.data.toList.length = s.size := by simp
  refine mayL_zero ?_ hz
  rw [hf, drop_head (by omega)]
  have : s[a] = 48 := UInt8.toNat_inj.1 h3
  exact congrArg some this
theorem may_bad {s : ByteArray} {a k : Nat} (hf : figs s.data.toList = s.data.toList.drop a) (h1 : a ≤ k) (hk : k < s.size) (h3 : ¬ (48 ≤ (s[k]).toNat ∧ (s[k]).toNat ≤ 57)) : mayL s.data.toList = false := by
  have hl : s.data.toList.length = s.size := by simp
  refine mayL_bad ?_
  rw [hf]
  refine allB_false (k := k - a) (by rw [List.length_drop, hl]; omega) ?_
  have e : a + (k - a) = k := by omega
  simp only [List.getElem_drop, e]
  exact h3
theorem may_len {s : ByteArray} {a : Nat} (hf : figs s.data.toList = s.data.toList.drop a) (h : s.size - a < 1 ∨ 100 < s.size - a) : mayL s.data.toList = false := by
  refine mayL_short ?_
  rw [hf, List.length_drop, show s.data.toList.length = s.size by simp]
  exact h
set_option maxRecDepth 10000 in
set_option maxHeartbeats 3200000 in
theorem rMay_any (s : ByteArray) (hs : s.size ≤ maxLen) : RMayIs s (mayL s.data.toList) := by
  intro w
  unfold maxLen at hs
  by_cases hz : s.data.toList = [48]
  · have e0 : (s.toList == [48]) = true := by rw [str_tl, hz]; rfl
    have hm := Lib.hid (show mayL s.data.toList = true by rw [hz]; decide)
    clear hz
    go_enter Tryd.func27, Tryd.ntmps27
    go_wp2_with fail
    go_ret
    exact ⟨ret_bool hm.out.symm, rfl⟩
  have e0 : (s.toList == [48]) = false := by rw [str_tl]; exact beq_eq_false_iff_ne.2 hz
  by_cases he : s.size = 0
  · have hn : s.data.toList = [] := List.eq_nil_of_length_eq_zero (by simpa using he)
    have e1 : s.toList.isEmpty = true := by rw [str_tl, hn]; rfl
    have hm := Lib.hid (show mayL s.data.toList = false by rw [hn]; decide)
    clear hz hn
    go_enter Tryd.func27, Tryd.ntmps27
    go_wp2_with fail
    go_ret
    exact ⟨ret_bool hm.out.symm, rfl⟩
  have hp0 : 0 < s.size := by omega
  have hh := head_get hp0
  have e1 : s.toList.isEmpty = false := by
    rw [str_tl]
    cases hl : s.data.toList with
    | nil => rw [hl] at hh; cases hh
    | cons a r => rfl
  by_cases h5 : (s[0]).toNat = 45
  · have e2 : (((s[0]).toNat : Int) == 45) = true := by rw [h5]; rfl
    have hf : figs s.data.toList = s.data.toList.drop 1 := by
      cases hl : s.data.toList with
      | nil => rw [hl] at hh; cases hh
      | cons c r =>
        rw [hl] at hh
        have : c = 45 := by
          have h6 : c = s[0] := by simpa using hh
          rw [h6]; exact UInt8.toNat_inj.1 h5
        rw [this, figs_neg]; rfl
    clear hh h5
    by_cases t1 : s.size < 1 + 1
    · have hm := Lib.hid (may_len hf (.inl (by omega)))
      have t1' : (s.size : Int) - 1 < 1 := by omega
      clear hf hz
      go_enter Tryd.func27, Tryd.ntmps27
      go_wp2_with fail
      go_ret
      exact ⟨ret_bool hm.out.symm, rfl⟩
    by_cases t2 : 100 < s.size - 1
    · have hm := Lib.hid (may_len hf (.inr t2))
      have t1' : ¬ (s.size : Int) - 1 < 1 := by omega
      have t2' : (100 : Int) < (s.size : Int) - 1 := by omega
      clear hf hz
      go_enter Tryd.func27, Tryd.ntmps27
      go_wp2_with fail
      go_ret
      exact ⟨ret_bool hm.out.symm, rfl⟩
    have hp : 1 < s.size := by omega
    have t1' : ¬ (s.size : Int) - 1 < 1 := by omega
    have t2' : ¬ (100 : Int) < (s.size : Int) - 1 := by omega
    have t5 : s.size ≤ 101 := by omega
    by_cases t3 : (s[1]).toNat = 48
    · have hm := Lib.hid (may_at48 hf hp t3 hz)
      have t3' : (((s[1]).toNat : Int) == 48) = true := by rw [t3]; rfl
      clear hf hz t3
      go_enter Tryd.func27, Tryd.ntmps27
      go_wp2_with fail
      go_ret
      exact ⟨ret_bool hm.out.symm, rfl⟩
    have t3' : (((s[1]).toNat : Int) == 48) = false := beq_eq_false_iff_ne.2 (by omega)
    have HF := Lib.hid (And.intro hf t3)
    clear hf t3 hz
    go_enter Tryd.func27, Tryd.ntmps27
    go_wp2_with fail
    go_loop [4] (fun i => ∃ k : Nat, 1 ≤ k ∧ k ≤ s.size ∧ i = .int .i64 k ∧ UpTo s 1 k) (fun i => s.size - (intOf i).toNat)
    case atStart => exact ⟨1, Nat.le_refl _, by omega, rfl, fun k _ h1 h2 => by omega⟩
    case round =>
      obtain ⟨k, hk0, hk, rfl, hu⟩ := hrel
      have HU := Lib.hid hu
      clear hu
      by_cases hlt : k < s.size
      · by_cases c1 : (s[k]).toNat < 48
        · have hm := Lib.hid (may_bad HF.out.1 hk0 hlt (by omega))
          go_wp2_with fail
          go_ret
          exact ⟨ret_bool hm.out.symm, rfl⟩
        · by_cases c2 : 57 < (s[k]).toNat
          · have hm := Lib.hid (may_bad HF.out.1 hk0 hlt (by omega))
            go_wp2_with fail
            go_ret
            exact ⟨ret_bool hm.out.symm, rfl⟩
          · go_wp2_with fail
            go_round
            case rel =>
              refine ⟨k + 1, by omega, by omega, by go_num, fun j hj h1 h2 => ?_⟩
              by_cases hjk : j = k
              · subst hjk; omega
              · exact HU.out j hj h1 (by omega)
            case measure => simp [intOf]; omega
      · have hke : k = s.size := by omega
        have hm := Lib.hid (may_upto HF.out.1 hp (by omega) HF.out.2 (by rw [← hke]; exact HU.out))
        go_wp2_with fail
        go_ret
        exact ⟨ret_bool hm.out.symm, rfl⟩
  · have e2 : (((s[0]).toNat : Int) == 45) = false := beq_eq_false_iff_ne.2 (by omega)
    have hf : figs s.data.toList = s.data.toList.drop 0 := by
      rw [List.drop_zero]
      refine figs_pos ?_
      rw [hh]
      intro h
      have : s[0] = 45 := by simpa using h
      exact h5 (by rw [this]; rfl)
    clear hh h5
    have t1 : ¬ s.size < 0 + 1 := by omega
    by_cases t2 : 100 < s.size - 0
    · have hm := Lib.hid (may_len hf (.inr t2))
      have t1' : ¬ (s.size : Int) - 0 < 1 := by omega
      have t2' : (100 : Int) < (s.size : Int) - 0 := by omega
      clear hf hz
      go_enter Tryd.func27, Tryd.ntmps27
      go_wp2_with fail
      go_ret
      exact ⟨ret_bool hm.out.symm, rfl⟩
    have hp : 0 < s.size := by omega
    have t1' : ¬ (s.size : Int) - 0 < 1 := by omega
    have t2' : ¬ (100 : Int) < (s.size : Int) - 0 := by omega
    have t5 : s.size ≤ 101 := by omega
    by_cases t3 : (s[0]).toNat = 48
    · have hm := Lib.hid (may_at48 hf hp t3 hz)
      have t3' : (((s[0]).toNat : Int) == 48) = true := by rw [t3]; rfl
      clear hf hz t3
      go_enter Tryd.func27, Tryd.ntmps27
      go_wp2_with fail
      go_ret
      exact ⟨ret_bool hm.out.symm, rfl⟩
    have t3' : (((s[0]).toNat : Int) == 48) = false := beq_eq_false_iff_ne.2 (by omega)
    have HF := Lib.hid (And.intro hf t3)
    clear hf t3 hz
    go_enter Tryd.func27, Tryd.ntmps27
    go_wp2_with fail
    go_loop [4] (fun i => ∃ k : Nat, 0 ≤ k ∧ k ≤ s.size ∧ i = .int .i64 k ∧ UpTo s 0 k) (fun i => s.size - (intOf i).toNat)
    case atStart => exact ⟨0, Nat.le_refl _, by omega, rfl, fun k _ h1 h2 => by omega⟩
    case round =>
      obtain ⟨k, hk0, hk, rfl, hu⟩ := hrel
      have HU := Lib.hid hu
      clear hu
      by_cases hlt : k < s.size
      · by_cases c1 : (s[k]).toNat < 48
        · have hm := Lib.hid (may_bad HF.out.1 hk0 hlt (by omega))
          go_wp2_with fail
          go_ret
          exact ⟨ret_bool hm.out.symm, rfl⟩
        · by_cases c2 : 57 < (s[k]).toNat
          · have hm := Lib.hid (may_bad HF.out.1 hk0 hlt (by omega))
            go_wp2_with fail
            go_ret
            exact ⟨ret_bool hm.out.symm, rfl⟩
          · go_wp2_with fail
            go_round
            case rel =>
              refine ⟨k + 1, by omega, by omega, by go_num, fun j hj h1 h2 => ?_⟩
              by_cases hjk : j = k
              · subst hjk; omega
              · exact HU.out j hj h1 (by omega)
            case measure => simp [intOf]; omega
      · have hke : k = s.size := by omega
        have hm := Lib.hid (may_upto HF.out.1 hp (by omega) HF.out.2 (by rw [← hke]; exact HU.out))
        go_wp2_with fail
        go_ret
        exact ⟨ret_bool hm.out.symm, rfl⟩
theorem dval_take_succ {l : List UInt8} {i : Nat} (h : i < l.length) : dval (l.take (i + 1)) = dval (l.take i) * 10 + ((l[i]).toNat - 48) := by
  rw [List.take_succ_eq_append_getElem h, dval_snoc]
theorem dval_take_le (l : List UInt8) (i : Nat) : dval (l.take i) ≤ dval l := by
  have h : dval l = dval (l.take i ++ l.drop i) := by rw [List.take_append_drop]
  rw [h, dval_append]
  exact Nat.le_trans (Nat.le_mul_of_pos_right _ (Nat.pow_pos (by decide))) (Nat.le_add_right _ _)
theorem allDig_snoc0 {l : List UInt8} (h : AllDig l) : AllDig (l ++ [48]) := by
  intro c hc
  rcases List.mem_append.1 hc with hc | hc
  · exact h c hc
  · have : c = 48 := by simpa using hc
    subst this; decide
set_option maxRecDepth 10000 in
set_option maxHeartbeats 1600000 in
theorem rproduct_any (x y : Int) (hx : Figs 1000 x) (hy : Figs 1000 y) (hxy : (Lib.decDigits (x.natAbs * y.natAbs)).length ≤ 3000) (w : World) : Calls Tryd.prog 50 #[.string (S x), .string (S y)] w (StrEnd (S (x * y)) w) := by
  unfold Figs at hx hy
  have h1 := rlow_S x
  have h2 := rlow_S y
  have h3 := rsize_S x (by unfold Figs; omega)
  have h4 := rsize_S y (by unfold Figs; omega)
  have h5 : ∀ v, x.natAbs * v ≤ x.natAbs * y.natAbs → ∀ w, Calls Tryd.prog 69 #[.string (B (Lib.decDigits (x.natAbs * v)) ++ ⟨#[48]⟩)] w (BarePost (x.natAbs * (v * 10)) w) := by
    intro v hv w
    have hl := dec_le_len hv (by decide) hxy
    have h := rbare_any (Lib.decDigits (x.natAbs * v) ++ [48]) (allDig_snoc0 (decDigits_dig _)) (by simp; unfold maxLen; omega) w
    rw [← B_append, dval_snoc, dval_decDigits] at h
    rw [← Nat.mul_assoc]
    exact h
  have h6 : ∀ v, x.natAbs * v ≤ x.natAbs * y.natAbs → ∀ w, Calls Tryd.prog 70 #[.string (B (Lib.decDigits (x.natAbs * v))), .string (B (Lib.decDigits x.natAbs))] w (StrEnd (B (Lib.decDigits (x.natAbs * (v + 1)))) w) := by
    intro v hv w
    have hl := dec_le_len hv (by decide) hxy
    exact rplus_any (x.natAbs * v) x.natAbs (by omega) (by omega) w
  have h7 := rsigned_D (x.natAbs * y.natAbs) (by omega) (decide (x < 0) != decide (y < 0))
  have hv : sgn (decide (x < 0) != decide (y < 0)) (x.natAbs * y.natAbs) = x * y := by
    have e := Int.natAbs_mul x y
    by_cases h : x < 0
    · by_cases h' : y < 0
      · rw [decide_eq_true h, decide_eq_true h']
        show ((x.natAbs * y.natAbs : Nat) : Int) = x * y
        have := Int.mul_pos_of_neg_of_neg h h'
        rw [← e]; omega
      · rw [decide_eq_true h, decide_eq_false h']
        show -((x.natAbs * y.natAbs : Nat) : Int) = x * y
        have := Int.mul_nonpos_of_nonpos_of_nonneg (a := x) (b := y) (by omega) (by omega)
        rw [← e]; omega
    · by_cases h' : y < 0
      · rw [decide_eq_false h, decide_eq_true h']
        show -((x.natAbs * y.natAbs : Nat) : Int) = x * y
        have := Int.mul_nonpos_of_nonneg_of_nonpos (a := x) (b := y) (by omega) (by omega)
        rw [← e]; omega
      · rw [decide_eq_false h, decide_eq_false h']
        show ((x.natAbs * y.natAbs : Nat) : Int) = x * y
        have := Int.mul_nonneg (a := x) (b := y) (by omega) (by omega)
        rw [← e]; omega
  rw [hv] at h7
  have h8 : ∀ v, x.natAbs * v ≤ x.natAbs * y.natAbs → (B (Lib.decDigits (x.natAbs * v))).size ≤ 3000 := fun v hv => by
    rw [B_size]; exact dec_le_len hv (by decide) hxy
  have hdig : ∀ (k : Nat) (hk : k < (B (Lib.decDigits y.natAbs)).size), 48 ≤ ((B (Lib.decDigits y.natAbs))[k]).toNat ∧ ((B (Lib.decDigits y.natAbs))[k]).toNat ≤ 57 := fun k hk => by
    have hk' : k < (Lib.decDigits y.natAbs).length := by rw [← B_size]; exact hk
    exact decDigits_dig y.natAbs _ (List.getElem_mem hk')
  obtain ⟨V, hV⟩ : ∃ V : Nat → Nat, V = fun i => dval ((Lib.decDigits y.natAbs).take i) := ⟨_, rfl⟩
  have hV0 : V 0 = 0 := by rw [hV]; rfl
  have hVs : ∀ (k : Nat) (hk : k < (B (Lib.decDigits y.natAbs)).size), V (k + 1) = V k * 10 + (((B (Lib.decDigits y.natAbs))[k]).toNat - 48) := fun k hk => by
    have hk' : k < (Lib.decDigits y.natAbs).length := by rw [← B_size]; exact hk
    rw [hV]
    exact dval_take_succ hk'
  have hVl : ∀ k, V k ≤ y.natAbs := fun k => by
    rw [hV]
    have := dval_take_le (Lib.decDigits y.natAbs) k
    rwa [dval_decDigits] at this
  have hVe : V (B (Lib.decDigits y.natAbs)).size = y.natAbs := by
    rw [hV, B_size]
    show dval ((Lib.decDigits y.natAbs).take (Lib.decDigits y.natAbs).length) = y.natAbs
    rw [List.take_length, dval_decDigits]
  obtain ⟨D, hD⟩ : ∃ D : Nat → ByteArray, D = fun v => B (Lib.decDigits (x.natAbs * v)) := ⟨_, rfl⟩
  have hD0 : (⟨#[48]⟩ : ByteArray) = D 0 := by
    rw [hD]; show _ = B (Lib.decDigits (x.natAbs * 0)); rw [Nat.mul_zero, decDigits_small (by decide)]; rfl
  have k5 : ∀ v, v ≤ y.natAbs → ∀ w, Calls Tryd.prog 69 #[.string (D v ++ ⟨#[48]⟩)] w fun e w' => e = .returned (.string (D (v * 10))) ∧ w = w' := by
    rw [hD]; exact fun v hv w => h5 v (Nat.mul_le_mul_left _ hv) w
  have k6 : ∀ v, v ≤ y.natAbs → ∀ w, Calls Tryd.prog 70 #[.string (D v), .string (B (Lib.decDigits x.natAbs))] w (StrEnd (D (v + 1)) w) := by
    rw [hD]; exact fun v hv w => h6 v (Nat.mul_le_mul_left _ hv) w
  have k7 : ∀ w, Calls Tryd.prog 71 #[.string (D y.natAbs), .bool (decide (x < 0) != decide (y < 0))] w (SignedPost (x * y) w) := by
    rw [hD]; exact h7
  have k8 : ∀ v, v ≤ y.natAbs → (D v).size ≤ 3000 := by
    rw [hD]; exact fun v hv => h8 v (Nat.mul_le_mul_left _ hv)
  have ht : (B (Lib.decDigits y.natAbs)).size ≤ 1000 := by rw [B_size]; exact hy
  have H1 := Lib.hid h1
  have H2 := Lib.hid h2
  have H3 := Lib.hid h3
  have H4 := Lib.hid h4
  have H5 := Lib.hid k5
  have H6 := Lib.hid k6
  have H7 := Lib.hid k7
  have H8 := Lib.hid k8
  have HD0 := Lib.hid hD0
  have HV := Lib.hid (And.intro hV0 (And.intro hVl hVe))
  clear h1 h2 h3 h4 h5 h6 h7 h8 hv hD hD0 k5 k6 k7 k8 hV hV0 hVl hVe hx hy hxy
  generalize y.natAbs = Y at *
  generalize B (Lib.decDigits Y) = t at *
  generalize B (Lib.decDigits x.natAbs) = s1 at *
  generalize S x = s at *
  generalize S y = r at *
  have HG := Lib.hid (And.intro hdig hVs)
  clear hdig hVs
  go_enter Tryd.func50, Tryd.ntmps50
  go_wp2_with fail
  refine (H4.out _).mono ?_
  rintro e w1 ⟨rfl, rfl⟩
  go_wp2_with fail
  generalize hbx : decide (x < 0) = bx at *
  generalize hby : decide (y < 0) = by' at *
  go_loopw [5, 7] (fun sv iv wr => ∃ i : Nat, i ≤ t.size ∧ iv = .int .i64 i ∧ sv = .string (D (V i)) ∧ Below w.heap.size w wr) (fun _ iv _ => t.size - (intOf iv).toNat)
  case atStart => exact ⟨0, Nat.zero_le _, rfl, congrArg Value.string (by rw [HV.out.1]; exact HD0.out), Below.refl _ _⟩
  case round =>
    obtain ⟨i, hi, rfl, rfl, hb⟩ := hrel
    by_cases hlt : i < t.size
    · have g1 := HG.out.1 i hlt
      have g3 := H8.out _ (HV.out.2.1 i)
      obtain ⟨m, hm⟩ : ∃ m : Nat, m = (t[i]).toNat - 48 := ⟨_, rfl⟩
      have hmi : ((t[i]).toNat : Int) - 48 = m := by omega
      have hm9 : m ≤ 9 := by omega
      have HM := Lib.hid hm
      obtain ⟨v, hv⟩ : ∃ v, v = V i := ⟨_, rfl⟩
      rw [← hv] at g3 ⊢
      have HVI := Lib.hid hv
      have K5 := Lib.hid (H5.out v (by rw [hv]; exact HV.out.2.1 i))
      clear hm hv
      go_wp2_with fail
      refine (K5.out _).mono ?_
      rintro e w2 ⟨rfl, rfl⟩
      go_wp2_with fail
      obtain ⟨wo, hwo⟩ : ∃ wo : World, wo = wr := ⟨_, rfl⟩
      go_loopw [5, 8] (fun sv nv wq => ∃ n : Nat, n ≤ m ∧ nv = .int .i64 n ∧ sv = .string (D (v * 10 + n)) ∧ Below w.heap.size w wq) (fun _ nv _ => m - (intOf nv).toNat)
      case atStart => exact ⟨0, Nat.zero_le _, rfl, rfl, hb⟩
      case round =>
        obtain ⟨n, hn, rfl, rfl, hb2⟩ := hrel
        by_cases hnm : n < m
        · have hnn : ((n : Int) < m) := by omega
          have hle : v * 10 + n ≤ Y := by
            have e1 := HG.out.2 i hlt
            have e2 := HV.out.2.1 (i + 1)
            have e3 := HM.out
            have e4 := HVI.out
            rw [e1, ← e4, ← e3] at e2
            omega
          have K6 := Lib.hid (H6.out _ hle)
          clear hle
          go_wp2_with fail
          refine (H3.out _).mono ?_
          rintro e w3 ⟨rfl, rfl⟩
          go_wp2_with fail
          refine (K6.out _).mono ?_
          rintro e w4 ⟨rfl, hb3⟩
          have hb4 := hb2.trans (hb3.mono hb2.size)
          go_wp2_with fail
          go_roundw
          case rel => exact ⟨n + 1, by omega, by go_num, rfl, hb4⟩
          case measure => simp [intOf]; omega
        · have hnn : ¬ ((n : Int) < m) := by omega
          have hne : n = m := by omega
          have hnext : v * 10 + n = V (i + 1) := by
            have e1 := HG.out.2 i hlt
            have e3 := HM.out
            have e4 := HVI.out
            rw [e1, ← e4, ← e3, hne]
          have HN := Lib.hid hnext
          clear hnext
          go_wp2_with fail
          go_roundw
          case rel => exact ⟨i + 1, by omega, by go_num, congrArg Value.string (by rw [HN.out]), hb2⟩
          case measure => simp [intOf]; omega
    · have hie : i = t.size := by omega
      have hD : D (V i) = D Y := by rw [hie, HV.out.2.2]
      rw [hD]
      clear hD
      go_wp2_with fail
      refine (H1.out _).mono ?_
      rintro e w3 ⟨rfl, rfl⟩
      go_wp2_with fail
      refine (H2.out _).mono ?_
      rintro e w3 ⟨rfl, rfl⟩
      go_wp2_with fail
      refine (H7.out _).mono ?_
      rintro e w3 ⟨rfl, rfl⟩
      go_wp2_with fail
      go_ret
      exact ⟨rfl, hb⟩
set_option maxRecDepth 10000 in
set_option maxHeartbeats 800000 in
theorem rSub_yes (x y : Int) (hx : Figs 100 x) (hy : Figs 100 y) (HM : RMayIs (S x) true) (HM' : RMayIs (S y) true) (w : World) : Calls Tryd.prog 34 #[.string (S x), .string (S y)] w (OpPost (x - y) w) := by
  have h0 := rturned_any y (Nat.le_trans hy (by decide))
  have h1 := rsum_any x (-y) (Nat.le_trans hx (by decide)) (by unfold Figs at *; rw [Int.natAbs_neg]; exact Nat.le_trans hy (by decide))
  rw [← Int.sub_eq_add_neg] at h1
  have h2 := rtold_any (x - y) (by
    unfold Figs at *
    exact dec_le_len (y := x.natAbs + y.natAbs) (by omega) (by decide) (Nat.le_trans (dec_add_len (by decide) hx hy) (by decide)))
  have H0 := Lib.hid h0
  have H1 := Lib.hid h1
  have H2 := Lib.hid h2
  have K1 := Lib.hid HM
  have K2 := Lib.hid HM'
  unfold OpPost
  clear h0 h1 h2 hx hy HM HM'
  generalize toldR (x - y) = r at *
  generalize toldE (x - y) = f at *
  go_enter Tryd.func34, Tryd.ntmps34
  go_wp2_with fail
  refine (K1.out _).mono ?_
  rintro e w1 ⟨rfl, rfl⟩
  go_wp2_with fail
  refine (K2.out _).mono ?_
  rintro e w1 ⟨rfl, rfl⟩
  go_wp2_with fail
  refine (H0.out _).mono ?_
  rintro e w1 ⟨rfl, rfl⟩
  go_wp2_with fail
  refine (H1.out _).mono ?_
  rintro e w1 ⟨rfl, hb⟩
  go_wp2_with fail
  refine (H2.out _).mono ?_
  rintro e w2 ⟨rfl, rfl⟩
  go_wp2_with fail
  go_ret2
  exact ⟨rfl, hb⟩
set_option maxRecDepth 10000 in
set_option maxHeartbeats 800000 in
theorem rSub_no (s t : ByteArray) (a b : Bool) (h : (a && b) = false) (HM : RMayIs s a) (HM' : RMayIs t b) (w : World) : Calls Tryd.prog 34 #[.string s, .string t] w (ArgNo w) := by
  have K1 := Lib.hid HM
  have K2 := Lib.hid HM'
  clear HM HM'
  go_enter Tryd.func34, Tryd.ntmps34
  go_wp2_with fail
  cases a
  · refine (K1.out _).mono ?_
    rintro e w1 ⟨rfl, rfl⟩
    go_wp2_with fail
    go_ret2
    exact ⟨rfl, Below.refl _ _⟩
  · refine (K1.out _).mono ?_
    rintro e w1 ⟨rfl, rfl⟩
    go_wp2_with fail
    cases b
    · refine (K2.out _).mono ?_
      rintro e w1 ⟨rfl, rfl⟩
      go_wp2_with fail
      go_ret2
      exact ⟨rfl, Below.refl _ _⟩
    · exact absurd h (by decide)
set_option maxRecDepth 10000 in
set_option maxHeartbeats 800000 in
theorem rMul_yes (x y : Int) (hx : Figs 100 x) (hy : Figs 100 y) (HM : RMayIs (S x) true) (HM' : RMayIs (S y) true) (w : World) : Calls Tryd.prog 32 #[.string (S x), .string (S y)] w (OpPost (x * y) w) := by
  have hm : (Lib.decDigits (x.natAbs * y.natAbs)).length ≤ 200 := by
    unfold Figs at *
    refine (decDigits_len_le (by decide)).2 ?_
    have a1 := (decDigits_len_le (by decide)).1 hx
    have a2 := (decDigits_len_le (by decide)).1 hy
    rw [show (200 : Nat) = 100 + 100 from rfl, Nat.pow_add]
    exact Nat.mul_lt_mul_of_lt_of_le a1 (Nat.le_of_lt a2) (Nat.pow_pos (by decide))
  have h1 := rproduct_any x y (Nat.le_trans hx (by decide)) (Nat.le_trans hy (by decide)) (Nat.le_trans hm (by decide))
  have h2 := rtold_any (x * y) (by unfold Figs; rw [Int.natAbs_mul]; exact Nat.le_trans hm (by decide))
  have H1 := Lib.hid h1
  have H2 := Lib.hid h2
  have K1 := Lib.hid HM
  have K2 := Lib.hid HM'
  unfold OpPost
  clear hm h1 h2 hx hy HM HM'
  generalize toldR (x * y) = r at *
  generalize toldE (x * y) = f at *
  go_enter Tryd.func32, Tryd.ntmps32
  go_wp2_with fail
  refine (K1.out _).mono ?_
  rintro e w1 ⟨rfl, rfl⟩
  go_wp2_with fail
  refine (K2.out _).mono ?_
  rintro e w1 ⟨rfl, rfl⟩
  go_wp2_with fail
  refine (H1.out _).mono ?_
  rintro e w1 ⟨rfl, hb⟩
  go_wp2_with fail
  refine (H2.out _).mono ?_
  rintro e w2 ⟨rfl, rfl⟩
  go_wp2_with fail
  go_ret2
  exact ⟨rfl, hb⟩
set_option maxRecDepth 10000 in
set_option maxHeartbeats 800000 in
theorem rMul_no (s t : ByteArray) (a b : Bool) (h : (a && b) = false) (HM : RMayIs s a) (HM' : RMayIs t b) (w : World) : Calls Tryd.prog 32 #[.string s, .string t] w (ArgNo w) := by
  have K1 := Lib.hid HM
  have K2 := Lib.hid HM'
  clear HM HM'
  go_enter Tryd.func32, Tryd.ntmps32
  go_wp2_with fail
  cases a
  · refine (K1.out _).mono ?_
    rintro e w1 ⟨rfl, rfl⟩
    go_wp2_with fail
    go_ret2
    exact ⟨rfl, Below.refl _ _⟩
  · refine (K1.out _).mono ?_
    rintro e w1 ⟨rfl, rfl⟩
    go_wp2_with fail
    cases b
    · refine (K2.out _).mono ?_
      rintro e w1 ⟨rfl, rfl⟩
      go_wp2_with fail
      go_ret2
      exact ⟨rfl, Below.refl _ _⟩
    · exact absurd h (by decide)
theorem rMay_is {s : ByteArray} {o : Option Int} (h : Is s o) : RMayIs s o.isSome := by
  rw [← h.may]; exact rMay_any s h.size
theorem rAdd_opt {s t : ByteArray} {o p : Option Int} (w : World) (hs : Is s o) (ht : Is t p) : Calls Tryd.prog 33 #[.string s, .string t] w (OptPost (op (fun x y => x + y) o p) (opE (fun x y => x + y) o p) w) := by
  have m1 := rMay_is hs
  have m2 := rMay_is ht
  cases hn : (o.isSome && p.isSome)
  · exact (rAdd_no s t _ _ hn m1 m2 w).mono fun e w' h => ArgNo.opt hn h
  · cases o <;> cases p <;> simp at hn
    have f1 := is_figs hs
    have f2 := is_figs ht
    rw [hs.1] at m1 ⊢
    rw [ht.1] at m2 ⊢
    exact (rAdd_yes _ _ f1 f2 m1 m2 w).mono fun e w' h => OpPost.opt (f := fun x y => x + y) h
theorem rSub_opt {s t : ByteArray} {o p : Option Int} (w : World) (hs : Is s o) (ht : Is t p) : Calls Tryd.prog 34 #[.string s, .string t] w (OptPost (op (fun x y => x - y) o p) (opE (fun x y => x - y) o p) w) := by
  have m1 := rMay_is hs
  have m2 := rMay_is ht
  cases hn : (o.isSome && p.isSome)
  · exact (rSub_no s t _ _ hn m1 m2 w).mono fun e w' h => ArgNo.opt hn h
  · cases o <;> cases p <;> simp at hn
    have f1 := is_figs hs
    have f2 := is_figs ht
    rw [hs.1] at m1 ⊢
    rw [ht.1] at m2 ⊢
    exact (rSub_yes _ _ f1 f2 m1 m2 w).mono fun e w' h => OpPost.opt (f := fun x y => x - y) h
theorem rMul_opt {s t : ByteArray} {o p : Option Int} (w : World) (hs : Is s o) (ht : Is t p) : Calls Tryd.prog 32 #[.string s, .string t] w (OptPost (op (fun x y => x * y) o p) (opE (fun x y => x * y) o p) w) := by
  have m1 := rMay_is hs
  have m2 := rMay_is ht
  cases hn : (o.isSome && p.isSome)
  · exact (rMul_no s t _ _ hn m1 m2 w).mono fun e w' h => ArgNo.opt hn h
  · cases o <;> cases p <;> simp at hn
    have f1 := is_figs hs
    have f2 := is_figs ht
    rw [hs.1] at m1 ⊢
    rw [ht.1] at m2 ⊢
    exact (rMul_yes _ _ f1 f2 m1 m2 w).mono fun e w' h => OpPost.opt (f := fun x y => x * y) h
end Go.Proofs.YtinhbmjfeabecaaDoor

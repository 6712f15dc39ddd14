import Derived.Test.YtpledghphljfkaaDoorProg
import Derived.Test.YtpledghphljfkaaDoorMaa
import Derived.Test.YtpledghphljfkaaDoorMab
import Derived.Lib.ItoaNum
import Derived.WalkKit
import Derived.WalkSpells
import Derived.WalkLawsBesides
import Derived.Lib.Hide
import Derived.BigQuiet
import Derived.Deep.QuietTactic
import Derived.Deep.OwnRows
import Derived.Laws.CopyOwn
import Derived.Lib.Walk
import Derived.Lib.ItoaWalk
import Derived.Lib.ItoaMem
import Derived.Lib.AppendIntMem
import Derived.Lib.Slices
import Derived.BigCall
import Derived.BigGuard
import Derived.Deep.RegionHeld3
import Derived.Lib.AtoiErrMem
/-
  num.Cmp (what the bases lack), joined by shake.py.
-/
namespace Go.Proofs.YtpledghphljfkaaDoor
set_option linter.unusedVariables false
set_option linter.unusedSimpArgs false
section
theorem val_nil : val [] = 0 := rfl
theorem val_cons (a : Nat) (r : List Nat) : val (a :: r) = a + 1000000000 * val r := rfl
theorem val_append (l m : List Nat) : val (l ++ m) = val l + 1000000000 ^ l.length * val m := by
  induction l with
  | nil => simp [val]
  | cons a r ih => simp only [List.cons_append, val, ih, List.length_cons, Nat.pow_succ]; rw [Nat.mul_add, ← Nat.mul_assoc, Nat.mul_comm (1000000000 ^ r.length) 1000000000]; omega
theorem val_snoc (l : List Nat) (a : Nat) : val (l ++ [a]) = val l + 1000000000 ^ l.length * a := by rw [val_append]; simp [val]
theorem ok_cons {a : Nat} {r : List Nat} : Ok (a :: r) ↔ a < 1000000000 ∧ Ok r := by simp [Ok]
theorem ok_append {l m : List Nat} : Ok (l ++ m) ↔ Ok l ∧ Ok m := by
  simp only [Ok, List.mem_append]
  exact ⟨fun h => ⟨fun p hp => h p (.inl hp), fun p hp => h p (.inr hp)⟩, fun h p hp => hp.elim (h.1 p) (h.2 p)⟩
theorem ok_take {l : List Nat} (h : Ok l) (k : Nat) : Ok (l.take k) := fun p hp => h p (List.mem_of_mem_take hp)
theorem ok_get {l : List Nat} (h : Ok l) {i : Nat} (hi : i < l.length) : l[i] < 1000000000 := h _ (List.getElem_mem hi)
theorem ok_getD {l : List Nat} (h : Ok l) (i : Nat) : l.getD i 0 < 1000000000 := by
  by_cases hi : i < l.length
  · rw [List.getD_eq_getElem?_getD, List.getElem?_eq_getElem hi]; exact h _ (List.getElem_mem hi)
  · rw [List.getD_eq_getElem?_getD, List.getElem?_eq_none (by omega)]; decide
theorem val_lt {l : List Nat} (h : Ok l) : val l < 1000000000 ^ l.length := by
  induction l with
  | nil => simp [val]
  | cons a r ih =>
    obtain ⟨h1, h2⟩ := ok_cons.1 h
    have := ih h2
    rw [val_cons, List.length_cons, Nat.pow_succ]
    omega
theorem trim_snoc_zero (l : List Nat) : trim (l ++ [0]) = trim l := by
  induction l with
  | nil => simp [trim]
  | cons a r ih => simp only [List.cons_append, trim, ih]
theorem trim_snoc {l : List Nat} {a : Nat} (h : a ≠ 0) : trim (l ++ [a]) = l ++ [a] := by
  induction l with
  | nil => simp [trim, h]
  | cons b r ih => simp [trim, ih]
theorem val_trim (l : List Nat) : val (trim l) = val l := by
  induction l with
  | nil => rfl
  | cons a r ih =>
    simp only [trim]
    split
    · rename_i h; rw [h.1] at ih; simp [val] at ih ⊢; omega
    · simp [val, ih]
theorem trim_le (l : List Nat) : (trim l).length ≤ l.length := by
  induction l with
  | nil => simp [trim]
  | cons a r ih => simp only [trim]; split <;> simp <;> omega
theorem trim_take (l : List Nat) : trim l = l.take (trim l).length := by
  induction l with
  | nil => simp [trim]
  | cons a r ih =>
    simp only [trim]
    split
    · simp
    · rw [List.length_cons, List.take_succ_cons, ← ih]
theorem trim_trim (l : List Nat) : trim (trim l) = trim l := by
  induction l with
  | nil => rfl
  | cons a r ih =>
    simp only [trim]
    split
    · rfl
    · rename_i h; simp only [trim, ih]; rw [if_neg h]
theorem norm_trim (l : List Nat) : Norm (trim l) := trim_trim l
theorem ok_trim {l : List Nat} (h : Ok l) : Ok (trim l) := by rw [trim_take]; exact ok_take h _
theorem norm_last {l : List Nat} (h : Norm l) (hne : l ≠ []) : ∃ m a, l = m ++ [a] ∧ a ≠ 0 := by
  refine ⟨l.dropLast, l.getLast hne, (List.dropLast_concat_getLast hne).symm, fun h0 => ?_⟩
  have e := (List.dropLast_concat_getLast hne).symm
  rw [h0] at e
  unfold Norm at h
  rw [e, trim_snoc_zero] at h
  have := trim_le l.dropLast
  have l2 := congrArg List.length h
  simp at l2 this
  omega
theorem norm_ge {l : List Nat} (h : Norm l) (hne : l ≠ []) : 1000000000 ^ (l.length - 1) ≤ val l := by
  obtain ⟨m, a, rfl, ha⟩ := norm_last h hne
  rw [val_snoc, List.length_append]
  simp only [List.length_cons, List.length_nil, Nat.zero_add, Nat.add_sub_cancel]
  have : 1000000000 ^ m.length * 1 ≤ 1000000000 ^ m.length * a := Nat.mul_le_mul_left _ (by omega)
  omega
theorem norm_val_zero {l : List Nat} (h : Norm l) : val l = 0 ↔ l = [] := by
  constructor
  · intro h0
    by_cases hne : l = []
    · exact hne
    · have := norm_ge h hne
      have : 1 ≤ 1000000000 ^ (l.length - 1) := Nat.one_le_pow _ _ (by decide)
      omega
  · rintro rfl; rfl
theorem norm_len_lt {l m : List Nat} (ol : Ok l) (nm : Norm m) (h : l.length < m.length) : val l < val m := by
  have hne : m ≠ [] := by intro e; simp [e] at h
  have h1 := norm_ge nm hne
  have h2 := val_lt ol
  have h3 : 1000000000 ^ l.length ≤ 1000000000 ^ (m.length - 1) := Nat.pow_le_pow_right (by decide) (by omega)
  omega
def cmpN (a b : Nat) : Int := if a < b then -1 else if b < a then 1 else 0
def cmpI (a b : Int) : Int := if a < b then -1 else if b < a then 1 else 0
theorem val_drop (l : List Nat) (k : Nat) (h : k ≤ l.length) : val l = val (l.take k) + 1000000000 ^ k * val (l.drop k) := by
  conv => lhs; rw [← List.take_append_drop k l, val_append, List.length_take, Nat.min_eq_left h]
theorem cmp_drop {l m : List Nat} (ol : Ok l) (om : Ok m) (hlen : l.length = m.length) {k : Nat} (hk : k < l.length) (he : l.drop (k + 1) = m.drop (k + 1)) (hlt : l[k] < m[k]'(hlen ▸ hk)) : val l < val m := by
  have hk' : k < m.length := hlen ▸ hk
  rw [val_drop l k (by omega), val_drop m k (by omega), List.drop_eq_getElem_cons hk, List.drop_eq_getElem_cons hk', he, val_cons, val_cons]
  have h1 := val_lt (ok_take ol k)
  rw [List.length_take, Nat.min_eq_left (by omega)] at h1
  have h2 : 1000000000 ^ k * (l[k] + 1 + 1000000000 * val (m.drop (k + 1))) ≤ 1000000000 ^ k * (m[k] + 1000000000 * val (m.drop (k + 1))) := Nat.mul_le_mul_left _ (by omega)
  rw [show l[k] + 1 + 1000000000 * val (m.drop (k + 1)) = (l[k] + 1000000000 * val (m.drop (k + 1))) + 1 from by omega, Nat.mul_add, Nat.mul_one] at h2
  omega
end
section
open Go.RowKit
theorem Sz.at_ {w : World} {A : Option Addr} {l : List Nat} (h : Sz w A l) (hne : l ≠ []) :
    ∃ b o, A = some ⟨b, o, none⟩ ∧ b < w.heap.size ∧ ∀ i (h : i < l.length), w.cell? ⟨b, o + i, none⟩ = some (.int .u32 l[i]) := by
  rcases h with ⟨_, e⟩ | h
  · exact absurd e hne
  · exact h
theorem ret_slice {A : Option Addr} {n m c : Nat} (h : n = m) : Ending.returned (.slice A n c) = .returned (.slice A m c) := by rw [h]
theorem ret_int {k : IntKind} {a b : Int} (h : a = b) : Ending.returned (.int k a) = .returned (.int k b) := by rw [h]
theorem trim_take_succ {l : List Nat} {m : Nat} (h : m < l.length) (h0 : l[m] = 0) : trim (l.take (m + 1)) = trim (l.take m) := by
  rw [List.take_succ_eq_append_getElem h, h0, trim_snoc_zero]
theorem trim_take_stop {l : List Nat} {m : Nat} (h : m < l.length) (h0 : l[m] ≠ 0) : (trim (l.take (m + 1))).length = m + 1 := by
  rw [List.take_succ_eq_append_getElem h, trim_snoc h0]
  simp; omega
set_option maxHeartbeats 400000 in
theorem trimmed_any (A : Option Addr) (l : List Nat) (c : Nat) (w : World) (hs : Sz w A l) (hc : l.length ≤ c) (hm : c ≤ maxLen) :
    Calls Tryd.prog 58 #[.slice A l.length c] w fun e w' => e = .returned (.slice A (trim l).length c) ∧ w = w' := by
  unfold maxLen at hm
  rcases hs with ⟨rfl, rfl⟩ | ⟨b, o, rfl, hlt, hcell⟩
  · go_enter Tryd.func58, Tryd.ntmps58
    go_wp2
    go_loop [0] (fun v => v = .slice none 0 c) (fun _ => 0)
    case atStart => rfl
    case round =>
      subst hrel
      go_wp2
      go_ret
      exact ⟨rfl, rfl⟩
  · go_enter Tryd.func58, Tryd.ntmps58
    go_wp2
    go_loop [0] (fun v => ∃ m : Nat, m ≤ l.length ∧ v = .slice (some ⟨b, o, none⟩) m c ∧ trim (l.take m) = trim l) (fun v => match v with | .slice _ n _ => n | _ => 0)
    case atStart => exact ⟨l.length, Nat.le_refl _, rfl, by simp⟩
    case round =>
      obtain ⟨m, hml, rfl, hE⟩ := hrel
      have HE := Lib.hid hE
      clear hE
      rcases m with _ | m
      · go_wp2
        go_ret
        have h1 := HE.out
        simp [trim] at h1
        exact ⟨ret_slice (by rw [h1]; rfl), rfl⟩
      · have hcm := hcell m (by omega)
        by_cases h0 : l[m] = 0
        · rw [h0] at hcm
          go_wp2
          go_round
          case rel => exact ⟨m, by omega, rfl, by rw [← trim_take_succ (by omega) h0]; exact HE.out⟩
          case measure => simp
        · have hne : (((l[m] : Nat) : Int) == 0) = false := by simp; omega
          go_wp2
          go_ret
          exact ⟨ret_slice (by rw [← HE.out, trim_take_stop (by omega) h0]), rfl⟩
end
section
open Go.RowKit
set_option maxHeartbeats 400000 in
theorem cmp32_any (a b : Int) (w : World) : Calls Tryd.prog 61 #[.int .u32 a, .int .u32 b] w fun e w' => e = .returned (.int .i64 (cmpI a b)) ∧ w = w' := by
  unfold cmpI
  rcases Int.lt_trichotomy a b with h | rfl | h
  · rw [if_pos h]
    go_enter Tryd.func61, Tryd.ntmps61
    go_wp2
    go_ret
    exact ⟨rfl, rfl⟩
  · rw [if_neg (by omega), if_neg (by omega)]
    go_enter Tryd.func61, Tryd.ntmps61
    go_wp2
    go_ret
    exact ⟨rfl, rfl⟩
  · rw [if_neg (by omega), if_pos h]
    have h' : ¬ a < b := by omega
    go_enter Tryd.func61, Tryd.ntmps61
    go_wp2
    go_ret
    exact ⟨rfl, rfl⟩
set_option maxHeartbeats 400000 in
theorem cmpi_any (a b : Int) (w : World) : Calls Tryd.prog 60 #[.int .i64 a, .int .i64 b] w fun e w' => e = .returned (.int .i64 (cmpI a b)) ∧ w = w' := by
  unfold cmpI
  rcases Int.lt_trichotomy a b with h | rfl | h
  · rw [if_pos h]
    go_enter Tryd.func60, Tryd.ntmps60
    go_wp2
    go_ret
    exact ⟨rfl, rfl⟩
  · rw [if_neg (by omega), if_neg (by omega)]
    go_enter Tryd.func60, Tryd.ntmps60
    go_wp2
    go_ret
    exact ⟨rfl, rfl⟩
  · rw [if_neg (by omega), if_pos h]
    have h' : ¬ a < b := by omega
    go_enter Tryd.func60, Tryd.ntmps60
    go_wp2
    go_ret
    exact ⟨rfl, rfl⟩
set_option maxHeartbeats 400000 in
theorem cmps_any (a b : Int) (w : World) : Calls Tryd.prog 46 #[.int .i64 a, .int .i64 b] w fun e w' => e = .returned (.int .i64 (cmpI a b)) ∧ w = w' := by
  unfold cmpI
  rcases Int.lt_trichotomy a b with h | rfl | h
  · rw [if_pos h]
    go_enter Tryd.func46, Tryd.ntmps46
    go_wp2
    go_ret
    exact ⟨rfl, rfl⟩
  · rw [if_neg (by omega), if_neg (by omega)]
    go_enter Tryd.func46, Tryd.ntmps46
    go_wp2
    go_ret
    exact ⟨rfl, rfl⟩
  · rw [if_neg (by omega), if_pos h]
    have h' : ¬ a < b := by omega
    go_enter Tryd.func46, Tryd.ntmps46
    go_wp2
    go_ret
    exact ⟨rfl, rfl⟩
theorem cmpI_nat (a b : Nat) : cmpI (a : Int) (b : Int) = cmpN a b := by unfold cmpI cmpN; simp only [Int.ofNat_lt]
theorem cmpN_eq {a b : Nat} : cmpN a b = 0 ↔ a = b := by unfold cmpN; split <;> (try split) <;> omega
theorem cmpN_lt {a b : Nat} (h : a < b) : cmpN a b = -1 := by unfold cmpN; rw [if_pos h]
theorem cmpN_gt {a b : Nat} (h : b < a) : cmpN a b = 1 := by unfold cmpN; rw [if_neg (by omega), if_pos h]
theorem cmpN_self (a : Nat) : cmpN a a = 0 := cmpN_eq.2 rfl
theorem cmp_of_drop {l m : List Nat} (ol : Ok l) (om : Ok m) (hlen : l.length = m.length) {k : Nat} (hk : k < l.length) (hk' : k < m.length) (he : l.drop (k + 1) = m.drop (k + 1)) (hne : l[k] ≠ m[k]) :
    cmpN l[k] m[k] = cmpN (val l) (val m) := by
  rcases Nat.lt_or_gt_of_ne hne with h | h
  · rw [cmpN_lt h, cmpN_lt (cmp_drop ol om hlen hk he h)]
  · rw [cmpN_gt h, cmpN_gt (cmp_drop om ol hlen.symm hk' he.symm h)]
def CmpVal (l m : List Nat) : Int := cmpN (val l) (val m)
theorem cmp_len {l m : List Nat} (ol : Ok l) (om : Ok m) (nl : Norm l) (nm : Norm m) (h : l.length ≠ m.length) : cmpN l.length m.length = CmpVal l m := by
  unfold CmpVal
  rcases Nat.lt_or_gt_of_ne h with h | h
  · rw [cmpN_lt h, cmpN_lt (norm_len_lt ol nm h)]
  · rw [cmpN_gt h, cmpN_gt (norm_len_lt om nl h)]
def Same (l m : List Nat) (k : Nat) : Prop := l.drop k = m.drop k
theorem same_down {l m : List Nat} {k : Nat} (hk : k < l.length) (hk' : k < m.length) (h : Same l m (k + 1)) (he : l[k] = m[k]) : Same l m k := by
  unfold Same at *
  rw [List.drop_eq_getElem_cons hk, List.drop_eq_getElem_cons hk', h, he]
theorem Drawn.more {w w' : World} (h : Drawn w w') (n : Nat) : Drawn w (w'.drewN n) := by
  obtain ⟨m, rfl⟩ := h
  exact ⟨m + n, by rw [World.drewN_drewN]⟩
theorem cmp_at {a b z : Int} (h : cmpI a b = z) (w : World) : Calls Tryd.prog 60 #[.int .i64 a, .int .i64 b] w fun e w' => e = .returned (.int .i64 z) ∧ w = w' := by
  rw [← h]; exact cmpi_any a b w
theorem cmp32_q {a b z : Int} (h : cmpI a b = z) (w : World) : Calls Tryd.prog 61 #[.int .u32 a, .int .u32 b] w fun e w' => e = .returned (.int .i64 z) ∧ w' = w := by
  rw [← h]; exact (cmp32_any a b w).mono fun _ _ h => ⟨h.1, h.2.symm⟩
set_option maxHeartbeats 800000 in
theorem compared_any (A B : Option Addr) (l m : List Nat) (c d : Nat) (w : World) (hA : Sz w A l) (hB : Sz w B m) (ol : Ok l) (om : Ok m) (nl : Norm l) (nm : Norm m) (hc : l.length ≤ maxLen) (hd : m.length ≤ maxLen) :
    Calls Tryd.prog 47 #[.slice A l.length c, .slice B m.length d] w fun e w' => e = .returned (.int .i64 (CmpVal l m)) ∧ Drawn w w' := by
  unfold maxLen at hc hd
  by_cases hlen : l.length = m.length
  · have hz : cmpI (l.length : Int) (m.length : Int) = 0 := by rw [cmpI_nat, cmpN_eq.2 hlen]
    by_cases hne : l = []
    · subst hne
      have hm0 : m = [] := List.eq_nil_of_length_eq_zero hlen.symm
      subst hm0
      have H1 := Lib.hid (cmp_at hz w)
      clear hz
      go_enter Tryd.func47, Tryd.ntmps47
      go_wp2_with fail
      refine H1.out.mono ?_
      rintro e w1 ⟨rfl, rfl⟩
      go_wp2_with fail
      go_loop [6] (fun i => i = .int .i64 (-1)) (fun _ => 0)
      case atStart => rfl
      case round =>
        subst hrel
        go_wp2_with fail
        go_ret
        exact ⟨rfl, Drawn.refl _⟩
    · obtain ⟨b, o, rfl, hlt, hcell⟩ := hA.at_ hne
      obtain ⟨b', o', rfl, hlt', hcell'⟩ := hB.at_ (by rintro rfl; exact hne (List.eq_nil_of_length_eq_zero hlen))
      have H1 := Lib.hid (cmp_at hz w)
      have HL := Lib.hid hlen
      have h1 : 1 ≤ l.length := by cases l with
        | nil => exact absurd rfl hne
        | cons a r => simp
      have h2 : l.length ≤ m.length ∧ m.length ≤ l.length := by omega
      clear hz hlen hA hB
      go_enter Tryd.func47, Tryd.ntmps47
      go_wp2_with fail
      refine H1.out.mono ?_
      rintro e w1 ⟨rfl, rfl⟩
      go_wp2_with fail
      go_loopw [6] (fun i wr => ∃ k : Nat, k ≤ l.length ∧ i = .int .i64 ((k : Int) - 1) ∧ Same l m k ∧ Drawn w wr) (fun i _ => (intOf i + 1).toNat)
      case atStart => exact ⟨l.length, Nat.le_refl _, rfl, by unfold Same; rw [List.drop_length, HL.out, List.drop_length], Drawn.refl _⟩
      case round =>
        obtain ⟨k, hk, rfl, hS, hW⟩ := hrel
        rcases k with _ | k
        · go_wp2_with fail
          go_ret
          have hv : l = m := by simpa [Same] using hS
          exact ⟨ret_int (by unfold CmpVal; rw [hv, cmpN_self]), hW⟩
        · have hcl := (hW.cell ⟨b, o + k, none⟩).trans (hcell k (by omega))
          have hcm := (hW.cell ⟨b', o' + k, none⟩).trans (hcell' k (by omega))
          have e1 : ((k + 1 : Nat) : Int) - 1 = (k : Int) := by omega
          rw [e1]
          by_cases he : l[k] = m[k]
          · have hq := cmp32_q (show cmpI (l[k] : Int) (m[k] : Int) = 0 by rw [cmpI_nat, cmpN_eq.2 he])
            have HQ := Lib.hid hq
            have HE := Lib.hid he
            clear hq he
            go_wp2_with fail
            go_quiet ((go_at_call 61; exact Calls.quiet_of_same (HQ.out _)))
            go_wp2_with fail
            go_roundw
            case rel => exact ⟨k, by omega, rfl, same_down (by omega) (by omega) hS HE.out, hW.more _⟩
            case measure => simp [intOf]
          · obtain ⟨z, hzz⟩ : ∃ z, z = CmpVal l m := ⟨_, rfl⟩
            have hv : cmpN l[k] m[k] = z := by rw [hzz]; exact cmp_of_drop ol om HL.out (by omega) (by omega) hS he
            have hz1 : (z != 0) = true := by rw [bne_iff_ne, ← hv]; exact fun h => he (cmpN_eq.1 h)
            have hq := cmp32_q (show cmpI (l[k] : Int) (m[k] : Int) = z by rw [cmpI_nat, hv])
            have HQ := Lib.hid hq
            have HZ := Lib.hid hzz
            clear hq hv hzz he
            go_wp2_with fail
            go_quiet ((go_at_call 61; exact Calls.quiet_of_same (HQ.out _)))
            go_wp2_with fail
            go_ret
            exact ⟨ret_int HZ.out, hW.more _⟩
  · have hz := cmp_len ol om nl nm hlen
    have hn : cmpI (l.length : Int) (m.length : Int) ≠ 0 := by rw [cmpI_nat]; intro h; exact hlen (cmpN_eq.1 h)
    rw [← cmpI_nat] at hz
    rw [hz] at hn
    have hn' : (CmpVal l m != 0) = true := by rw [bne_iff_ne]; exact hn
    have H1 := Lib.hid (cmp_at hz w)
    clear hz hn
    go_enter Tryd.func47, Tryd.ntmps47
    go_wp2_with fail
    refine H1.out.mono ?_
    rintro e w1 ⟨rfl, rfl⟩
    go_wp2_with fail
    go_ret
    exact ⟨rfl, Drawn.refl _⟩
end
section
open Go.RowKit
def updN (F : Nat → Nat) (i x : Nat) : Nat → Nat := fun j => if j = i then x else F j
def vf (F : Nat → Nat) (o : Nat) : Nat → Nat
  | 0 => 0
  | n + 1 => vf F o n + 1000000000 ^ n * F (o + n)
def lst (F : Nat → Nat) (o n : Nat) : List Nat := (List.range n).map fun i => F (o + i)
theorem lst_length (F : Nat → Nat) (o n : Nat) : (lst F o n).length = n := by simp [lst]
theorem lst_get (F : Nat → Nat) (o n i : Nat) (h : i < (lst F o n).length) : (lst F o n)[i] = F (o + i) := by simp [lst]
theorem lst_succ (F : Nat → Nat) (o n : Nat) : lst F o (n + 1) = lst F o n ++ [F (o + n)] := by simp [lst, List.range_succ]
theorem val_lst (F : Nat → Nat) (o n : Nat) : val (lst F o n) = vf F o n := by
  induction n with
  | zero => rfl
  | succ n ih => rw [lst_succ, val_snoc, ih, lst_length]; rfl
theorem vf_congr {F G : Nat → Nat} {o n : Nat} (h : ∀ j, o ≤ j → j < o + n → F j = G j) : vf F o n = vf G o n := by
  induction n with
  | zero => rfl
  | succ n ih => simp only [vf]; rw [ih (fun j h1 h2 => h j h1 (by omega)), h (o + n) (by omega) (by omega)]
theorem vf_upd_out {F : Nat → Nat} {o n i x : Nat} (h : i < o ∨ o + n ≤ i) : vf (updN F i x) o n = vf F o n :=
  vf_congr fun j h1 h2 => by unfold updN; rw [if_neg (by omega)]
theorem vf_split (F : Nat → Nat) (o k n : Nat) : vf F o (k + n) = vf F o k + 1000000000 ^ k * vf F (o + k) n := by
  induction n with
  | zero => simp [vf]
  | succ n ih =>
    show vf F o (k + n) + 1000000000 ^ (k + n) * F (o + (k + n)) = _
    rw [ih]
    show _ = vf F o k + 1000000000 ^ k * (vf F (o + k) n + 1000000000 ^ n * F (o + k + n))
    rw [Nat.mul_add, Nat.pow_add, Nat.mul_assoc (1000000000 ^ k) (1000000000 ^ n), Nat.add_assoc o k n]; omega
theorem val_take_succ (m : List Nat) (k : Nat) : val (m.take (k + 1)) = val (m.take k) + 1000000000 ^ k * m.getD k 0 := by
  by_cases h : k < m.length
  · rw [List.take_succ_eq_append_getElem h, val_snoc, List.length_take, Nat.min_eq_left (by omega), List.getD_eq_getElem?_getD, List.getElem?_eq_getElem h]; rfl
  · rw [List.take_of_length_le (by omega), List.take_of_length_le (by omega), List.getD_eq_getElem?_getD, List.getElem?_eq_none (by omega)]; simp
theorem Rw.set {w : World} {g N : Nat} {F : Nat → Nat} (h : Rw w g N F) (i x : Nat) {v : Int} (hv : v = (x : Int)) : Rw (w.setCell ⟨g, i, none⟩ (.int .u32 v)) g N (updN F i x) := by
  subst hv
  refine (World.rowIs.set h i _).congr fun j _ => ?_
  unfold updN
  split <;> rfl
theorem Rw.congr {w : World} {g N : Nat} {F G : Nat → Nat} (h : Rw w g N F) (e : ∀ j, j < N → F j = G j) : Rw w g N G := World.rowIs.congr h fun j hj => by rw [e j hj]
theorem Only.setCell {g : Nat} {a w : World} (h : Only g a w) (i : Nat) (u : Value) : Only g a (w.setCell ⟨g, i, none⟩ u) :=
  ⟨h.os, h.tape, h.output, by simpa [World.setCell] using h.size, fun i hi hne => (Below.heap_setCell w _ u i (by rintro rfl; exact hne rfl)).trans (h.block i hi hne)⟩
theorem Only.to_below {g B : Nat} {a w : World} (h : Only g a w) (hg : B ≤ g) (hB : B ≤ a.heap.size) : Below B a w :=
  ⟨h.os, h.tape, h.output, h.size, fun i hi => h.block i (by omega) (by intro e; injection e with e; omega)⟩
structure RaiseInv (F : Nat → Nat) (m : List Nat) (o k c : Nat) (F' : Nat → Nat) : Prop where
  le : c ≤ 1
  out : ∀ j, j < o ∨ o + k ≤ j → F' j = F j
  ok : ∀ j, o ≤ j → j < o + k → F' j < 1000000000
  eq : vf F' o k + 1000000000 ^ k * c = vf F o k + val (m.take k)
theorem RaiseInv.start (F : Nat → Nat) (m : List Nat) (o : Nat) : RaiseInv F m o 0 0 F := ⟨by omega, fun _ _ => rfl, fun _ h1 h2 => by omega, by simp [vf, val]⟩
theorem RaiseInv.step {F : Nat → Nat} {m : List Nat} {o k c : Nat} {F' : Nat → Nat} (h : RaiseInv F m o k c F') (hF : F (o + k) < 1000000000) (hm : Ok m) {x : Nat} (hx : x = c + F (o + k) + m.getD k 0) :
    RaiseInv F m o (k + 1) (x / 1000000000) (updN F' (o + k) (x % 1000000000)) := by
  have h1 := h.le
  have h2 := ok_getD hm k
  refine ⟨by omega, fun j hj => ?_, fun j h3 h4 => ?_, ?_⟩
  · unfold updN; rw [if_neg (by omega)]; exact h.out j (by omega)
  · unfold updN; split
    · exact Nat.mod_lt _ (by decide)
    · exact h.ok j h3 (by omega)
  · simp only [vf]
    rw [vf_upd_out (.inr (by omega)), val_take_succ]
    have h3 := h.eq
    have h4 : updN F' (o + k) (x % 1000000000) (o + k) = x % 1000000000 := by unfold updN; rw [if_pos rfl]
    rw [h4, Nat.pow_succ]
    have h5 := Nat.div_add_mod x 1000000000
    have h6 : 1000000000 ^ k * (x % 1000000000) + 1000000000 ^ k * 1000000000 * (x / 1000000000) = 1000000000 ^ k * x := by
      rw [Nat.mul_assoc, ← Nat.mul_add]; congr 1; omega
    have h7 : 1000000000 ^ k * x = 1000000000 ^ k * c + 1000000000 ^ k * F (o + k) + 1000000000 ^ k * m.getD k 0 := by rw [hx, Nat.mul_add, Nat.mul_add]
    omega
end
section
open Go.RowKit
structure LowerInv (F : Nat → Nat) (m : List Nat) (q o k c : Nat) (F' : Nat → Nat) : Prop where
  le : c ≤ 2000000002
  out : ∀ j, j < o ∨ o + k ≤ j → F' j = F j
  ok : ∀ j, o ≤ j → j < o + k → F' j < 1000000000
  eq : vf F' o k + q * val (m.take k) = vf F o k + 1000000000 ^ k * c
theorem LowerInv.start (F : Nat → Nat) (m : List Nat) (q o : Nat) : LowerInv F m q o 0 0 F := ⟨by omega, fun _ _ => rfl, fun _ h1 h2 => by omega, by simp [vf, val]⟩
theorem LowerInv.step {F : Nat → Nat} {m : List Nat} {q o k c : Nat} {F' : Nat → Nat} (h : LowerInv F m q o k c F') (hF : F (o + k) < 1000000000) (hm : Ok m) (hq : q ≤ 2000000000)
    {y c' : Nat} (hy : y < 1000000000) (hy2 : y + (c + q * m.getD k 0) = F (o + k) + 1000000000 * c') (hc' : c' ≤ 2000000002) : LowerInv F m q o (k + 1) c' (updN F' (o + k) y) := by
  refine ⟨hc', fun j hj => ?_, fun j h3 h4 => ?_, ?_⟩
  · unfold updN; rw [if_neg (by omega)]; exact h.out j (by omega)
  · unfold updN; split
    · exact hy
    · exact h.ok j h3 (by omega)
  · simp only [vf]
    rw [vf_upd_out (.inr (by omega)), val_take_succ]
    have h3 := h.eq
    have h4 : updN F' (o + k) y (o + k) = y := by unfold updN; rw [if_pos rfl]
    rw [h4, Nat.pow_succ]
    have h6 := congrArg (fun z => 1000000000 ^ k * z) hy2
    simp only [Nat.mul_add] at h6
    rw [Nat.mul_add]
    have h7 : q * (1000000000 ^ k * m.getD k 0) = 1000000000 ^ k * (q * m.getD k 0) := by rw [Nat.mul_left_comm]
    have h8 : 1000000000 ^ k * 1000000000 * c' = 1000000000 ^ k * (1000000000 * c') := by rw [Nat.mul_assoc]
    omega
end
section
open Go.RowKit
theorem info32 : (Tryd.prog.info? 97).map (fun i => (i.zero, i.size, i.bytes)) = some (some (.int .u32 0), 1, 4) := by kernel_rfl
theorem Rw.made (w : World) (n : Nat) : Rw (w.alloc (.cells (madeCells #[.int .u32 0] n) 97)) w.heap.size n (fun _ => 0) := World.rowIs_made w _ n _
def over (l : List Nat) (F : Nat → Nat) : Nat → Nat := fun j => if j < l.length then l.getD j 0 else F j
theorem vf_over (l : List Nat) (F : Nat → Nat) : vf (over l F) 0 l.length = val l := by
  rw [← val_lst]
  congr 1
  refine List.ext_getElem (by simp [lst]) fun i h1 h2 => ?_
  rw [lst_get, Nat.zero_add]
  unfold over
  rw [if_pos h2, List.getD_eq_getElem?_getD, List.getElem?_eq_getElem h2]; rfl
theorem vf_over_zero (l : List Nat) {n : Nat} (h : l.length ≤ n) : vf (over l (fun _ => 0)) 0 n = val l := by
  obtain ⟨k, rfl⟩ : ∃ k, n = l.length + k := ⟨n - l.length, by omega⟩
  rw [vf_split, vf_over]
  have : vf (over l (fun _ => 0)) (0 + l.length) k = 0 := by
    rw [vf_congr (G := fun _ => 0) (fun j h1 h2 => by unfold over; rw [if_neg (by omega)])]
    have : ∀ o k, vf (fun _ => 0) o k = 0 := by
      intro o k
      induction k with
      | zero => rfl
      | succ k ih => simp [vf, ih]
    exact this _ _
  rw [this]; simp
theorem over_ok {l : List Nat} {F : Nat → Nat} (ol : Ok l) (h : ∀ j, l.length ≤ j → F j < 1000000000) (j : Nat) : over l F j < 1000000000 := by
  unfold over; split
  · exact ok_getD ol j
  · exact h j (by omega)
end
section
open Go.RowKit
structure InInv (F : Nat → Nat) (m : List Nat) (p o k c : Nat) (F' : Nat → Nat) : Prop where
  le : c ≤ 999999999
  out : ∀ j, j < o ∨ o + k ≤ j → F' j = F j
  ok : ∀ j, o ≤ j → j < o + k → F' j < 1000000000
  eq : vf F' o k + 1000000000 ^ k * c = vf F o k + p * val (m.take k)
theorem InInv.start (F : Nat → Nat) (m : List Nat) (p o : Nat) : InInv F m p o 0 0 F := ⟨by omega, fun _ _ => rfl, fun _ h1 h2 => by omega, by simp [vf, val]⟩
theorem mul_le_sq {p q : Nat} (hp : p < 1000000000) (hq : q < 1000000000) : p * q ≤ 999999998000000001 :=
  Nat.le_trans (Nat.mul_le_mul (show p ≤ 999999999 by omega) (show q ≤ 999999999 by omega)) (by decide)
theorem InInv.step {F : Nat → Nat} {m : List Nat} {p o k c : Nat} {F' : Nat → Nat} (h : InInv F m p o k c F') (hF : F (o + k) < 1000000000) (hp : p < 1000000000) (hm : Ok m) (hk : k < m.length)
    {x : Nat} (hx : x = c + (F (o + k) + p * m[k])) : InInv F m p o (k + 1) (x / 1000000000) (updN F' (o + k) (x % 1000000000)) := by
  have h1 := mul_le_sq hp (ok_get hm hk)
  have h2 := h.le
  refine ⟨by omega, fun j hj => ?_, fun j h3 h4 => ?_, ?_⟩
  · unfold updN; rw [if_neg (by omega)]; exact h.out j (by omega)
  · unfold updN; split
    · exact Nat.mod_lt _ (by decide)
    · exact h.ok j h3 (by omega)
  · simp only [vf]
    rw [vf_upd_out (.inr (by omega)), val_take_succ]
    have em : m.getD k 0 = m[k] := by rw [List.getD_eq_getElem?_getD, List.getElem?_eq_getElem hk]; rfl
    have h3 := h.eq
    have h4 : updN F' (o + k) (x % 1000000000) (o + k) = x % 1000000000 := by unfold updN; rw [if_pos rfl]
    rw [h4, em, Nat.pow_succ, Nat.mul_add]
    have h6 : 1000000000 ^ k * (x % 1000000000) + 1000000000 ^ k * 1000000000 * (x / 1000000000) = 1000000000 ^ k * x := by
      rw [Nat.mul_assoc, ← Nat.mul_add]; congr 1; omega
    have h7 : 1000000000 ^ k * x = 1000000000 ^ k * c + (1000000000 ^ k * F (o + k) + p * (1000000000 ^ k * m[k])) := by
      rw [hx, Nat.mul_add, Nat.mul_add, Nat.mul_left_comm p]
    omega
structure OutInv (l m : List Nat) (i : Nat) (F : Nat → Nat) : Prop where
  ok : ∀ j, F j < 1000000000
  zero : ∀ j, i + m.length ≤ j → F j = 0
  eq : vf F 0 (i + m.length) = val (l.take i) * val m
theorem vf_zero (o k : Nat) : vf (fun _ => 0) o k = 0 := by
  induction k with
  | zero => rfl
  | succ k ih => simp [vf, ih]
theorem OutInv.start (l m : List Nat) : OutInv l m 0 (fun _ => 0) := ⟨fun _ => by decide, fun _ _ => rfl, by rw [vf_zero]; simp [val]⟩
theorem OutInv.step {l m : List Nat} {i : Nat} {F F' : Nat → Nat} {c : Nat} (h : OutInv l m i F) (hi : i < l.length) (k : InInv F m l[i] i m.length c F') : OutInv l m (i + 1) (updN F' (i + m.length) c) := by
  have hle := k.le
  refine ⟨fun j => ?_, fun j hj => ?_, ?_⟩
  · unfold updN; split
    · omega
    · by_cases hj : j < i ∨ i + m.length ≤ j
      · rw [k.out j hj]; exact h.ok j
      · exact k.ok j (by omega) (by omega)
  · unfold updN; rw [if_neg (by omega), k.out j (by omega)]; exact h.zero j (by omega)
  · have e := k.eq
    rw [List.take_of_length_le (Nat.le_refl _)] at e
    have eo := h.eq
    rw [vf_split] at eo
    rw [show i + 1 + m.length = i + (m.length + 1) by omega, vf_split, vf_upd_out (.inr (by omega)), vf_congr (F := F') (G := F) (fun j h1 h2 => k.out j (by omega)), Nat.zero_add]
    simp only [vf]
    rw [vf_upd_out (.inr (by omega)), show updN F' (i + m.length) c (i + m.length) = c by unfold updN; rw [if_pos rfl], e, val_take_succ]
    have em : l.getD i 0 = l[i] := by rw [List.getD_eq_getElem?_getD, List.getElem?_eq_getElem hi]; rfl
    rw [em, Nat.add_mul, Nat.mul_add, ← eo, Nat.zero_add, Nat.mul_assoc]; omega
open Go.RowKit
end
section
open Go.RowKit
theorem vf_cons (F : Nat → Nat) (o n : Nat) : vf F o (n + 1) = F o + 1000000000 * vf F (o + 1) n := by
  rw [show n + 1 = 1 + n by omega, vf_split]; simp [vf]
structure CbInv (l : List Nat) (p k r : Nat) (F : Nat → Nat) : Prop where
  lt : r < p
  ok : ∀ j, F j < 1000000000
  eq : vf F k (l.length - k) * p + r = val (l.drop k)
theorem CbInv.start (l : List Nat) (p : Nat) (hp : 0 < p) : CbInv l p l.length 0 (fun _ => 0) := ⟨hp, fun _ => by decide, by simp [vf, val]⟩
theorem quo_lt {p k r x : Nat} (hr : r < p) (hx : x < 1000000000) : (r * 1000000000 + x) / p < 1000000000 := by
  rw [Nat.div_lt_iff_lt_mul (by omega)]
  have : (r + 1) * 1000000000 ≤ p * 1000000000 := Nat.mul_le_mul_right _ hr
  omega
theorem CbInv.step {l : List Nat} {p k r : Nat} {F : Nat → Nat} (h : CbInv l p (k + 1) r F) (hk : k < l.length) (ol : Ok l) :
    CbInv l p k ((r * 1000000000 + l[k]) % p) (updN F k ((r * 1000000000 + l[k]) / p)) := by
  have hlt := h.lt
  refine ⟨Nat.mod_lt _ (by omega), fun j => ?_, ?_⟩
  · unfold updN; split
    · exact quo_lt (k := 0) hlt (ok_get ol hk)
    · exact h.ok j
  · have e := h.eq
    rw [show l.length - k = (l.length - (k + 1)) + 1 by omega, vf_cons, vf_upd_out (.inl (by omega)), show updN F k ((r * 1000000000 + l[k]) / p) k = (r * 1000000000 + l[k]) / p by unfold updN; rw [if_pos rfl]]
    rw [List.drop_eq_getElem_cons hk, val_cons, ← e, Nat.add_mul, Nat.mul_add]
    have h1 := Nat.div_add_mod (r * 1000000000 + l[k]) p
    rw [Nat.mul_comm] at h1
    rw [Nat.mul_assoc 1000000000]
    omega
end
section
open Go.RowKit
structure TkInv (A V P : Nat) (t : Nat) (below : Bool) (R : Nat) : Prop where
  lo : A < (t + 1) * V
  no : below = false → t * V ≤ A ∧ R + t * V = A
  yes : below = true → A < t * V ∧ R + t * V = A + P
theorem TkInv.start {A V P q c R : Nat} (hlo : A < (q + 1) * V) (he : R + q * V = A + P * c) (hR : R < P) (hhi : q * V ≤ A + P) (hP : 0 < P) : TkInv A V P q (decide (0 < c)) R ∧ c ≤ 1 := by
  have hc : c ≤ 1 := by
    rcases Nat.lt_or_ge 1 c with h | h
    · have : P * 2 ≤ P * c := Nat.mul_le_mul_left _ h
      omega
    · exact h
  have : c = 0 ∨ c = 1 := by omega
  rcases this with rfl | rfl
  · exact ⟨⟨hlo, fun _ => ⟨by omega, by omega⟩, fun h => by simp at h⟩, hc⟩
  · exact ⟨⟨hlo, fun h => by simp at h, fun _ => ⟨by omega, by omega⟩⟩, hc⟩
open Go.RowKit
end
section
open Go.RowKit
theorem len_le_of_lt {m : List Nat} {n : Nat} (nm : Norm m) (h2 : val m < 1000000000 ^ n) : m.length ≤ n := by
  by_cases hne : m = []
  · subst hne; simp
  · have b := norm_ge nm hne
    have d : m.length - 1 < n := (Nat.pow_lt_pow_iff_right (a := 1000000000) (by decide)).1 (by omega)
    omega
structure ClInv (U V L n k : Nat) (R Q : Nat → Nat) : Prop where
  okR : ∀ j, R j < 1000000000
  okQ : ∀ j, Q j < 1000000000
  tail : vf R k (L + 1 - k) < V
  sum : vf R 0 (L + 1) + V * (1000000000 ^ k * vf Q k (L - n - k)) = U
theorem ClInv.start {l : List Nat} {L n s V U : Nat} (hl : l.length ≤ L + 1) (ol : Ok l) (hn : n < L) (hU : val l = U) (hUlt : U < 1000000000 ^ L * s) (hV : 1000000000 ^ n * s ≤ V) : ClInv U V L n (L - n) (over l (fun _ => 0)) (fun _ => 0) := by
  have hz : vf (over l (fun _ => 0)) 0 (L + 1) = U := by rw [vf_over_zero l hl, hU]
  refine ⟨over_ok ol (fun _ _ => by decide), fun _ => by decide, ?_, ?_⟩
  · have e := vf_split (over l (fun _ => 0)) 0 (L - n) (n + 1)
    rw [show L - n + (n + 1) = L + 1 by omega, hz, Nat.zero_add] at e
    rw [show L + 1 - (L - n) = n + 1 by omega]
    have h1 : 1000000000 ^ L * s = 1000000000 ^ (L - n) * (1000000000 ^ n * s) := by rw [← Nat.mul_assoc, ← Nat.pow_add]; congr 2; omega
    have h2 : 1000000000 ^ (L - n) * (1000000000 ^ n * s) ≤ 1000000000 ^ (L - n) * V := Nat.mul_le_mul_left _ hV
    exact Nat.lt_of_mul_lt_mul_left (a := 1000000000 ^ (L - n)) (by omega)
  · rw [hz, Nat.sub_self]; simp [vf]
theorem ClInv.window {U V L n k : Nat} {R Q : Nat → Nat} (h : ClInv U V L n (k + 1) R Q) (hk : k + 1 ≤ L - n) (hV : V < 1000000000 ^ (n + 1)) :
    vf R k (L + 1 - k) = vf R k (n + 2) ∧ vf R k (n + 2) < 1000000000 * V ∧ vf R (k + (n + 2)) (L + 1 - k - (n + 2)) = 0 := by
  have ht := h.tail
  have e1 := vf_split R (k + 1) (n + 1) (L + 1 - k - (n + 2))
  rw [show n + 1 + (L + 1 - k - (n + 2)) = L + 1 - (k + 1) by omega, show k + 1 + (n + 1) = k + (n + 2) by omega] at e1
  have hz : vf R (k + (n + 2)) (L + 1 - k - (n + 2)) = 0 := by
    rcases Nat.eq_zero_or_pos (vf R (k + (n + 2)) (L + 1 - k - (n + 2))) with h0 | h0
    · exact h0
    · have : 1000000000 ^ (n + 1) * 1 ≤ 1000000000 ^ (n + 1) * vf R (k + (n + 2)) (L + 1 - k - (n + 2)) := Nat.mul_le_mul_left _ h0
      omega
  have e2 := vf_split R k (n + 2) (L + 1 - k - (n + 2))
  rw [show n + 2 + (L + 1 - k - (n + 2)) = L + 1 - k by omega, hz, Nat.mul_zero] at e2
  have e3 : vf R k (L + 1 - k) = vf R k (n + 2) := e2.trans (Nat.add_zero _)
  refine ⟨e3, ?_, hz⟩
  have e4 := vf_cons R k (L + 1 - (k + 1))
  rw [show L + 1 - (k + 1) + 1 = L + 1 - k by omega, e3] at e4
  have := h.okR k
  omega
theorem sum_step {U V A P x x' y q' q : Nat} (es : x + V * (P * 1000000000 * q) = U) (a1 : x = y + P * A) (a2 : x' = y + P * (A % V)) (q1 : q' = A / V + 1000000000 * q) : x' + V * (P * q') = U := by
  have d := Nat.div_add_mod A V
  have e3 : P * A = V * (P * (A / V)) + P * (A % V) := by
    conv => lhs; rw [← d, Nat.mul_add]
    rw [Nat.mul_left_comm]
  rw [a1] at es
  rw [a2, q1, ← es, Nat.mul_add P, Nat.mul_add V, e3, ← Nat.mul_assoc P 1000000000]
  omega
theorem ClInv.step {U V L n k : Nat} {R Q R' : Nat → Nat} (h : ClInv U V L n (k + 1) R Q) (hk : k + 1 ≤ L - n) (hV : V < 1000000000 ^ (n + 1)) (hV0 : 0 < V)
    (hout : ∀ j, j < k ∨ k + (n + 2) ≤ j → R' j = R j) (hok : ∀ j, k ≤ j → j < k + (n + 2) → R' j < 1000000000) (hR : vf R' k (n + 2) = vf R k (n + 2) % V) :
    ClInv U V L n k R' (updN Q k (vf R k (n + 2) / V)) := by
  obtain ⟨w1, w2, w3⟩ := h.window hk hV
  have t1 : vf R' k (L + 1 - k) = vf R k (n + 2) % V := by
    have e2 := vf_split R' k (n + 2) (L + 1 - k - (n + 2))
    rw [show n + 2 + (L + 1 - k - (n + 2)) = L + 1 - k by omega, vf_congr (F := R') (G := R) (o := k + (n + 2)) (fun j a b => hout j (by omega)), w3, Nat.mul_zero, hR] at e2
    exact e2.trans (Nat.add_zero _)
  refine ⟨fun j => ?_, fun j => ?_, by rw [t1]; exact Nat.mod_lt _ hV0, ?_⟩
  · by_cases hj : j < k ∨ k + (n + 2) ≤ j
    · rw [hout j hj]; exact h.okR j
    · exact hok j (by omega) (by omega)
  · unfold updN; split
    · exact Nat.div_lt_of_lt_mul (by rw [Nat.mul_comm]; exact w2)
    · exact h.okQ j
  · have es := h.sum
    have a1 := vf_split R 0 k (L + 1 - k)
    have a2 := vf_split R' 0 k (L + 1 - k)
    rw [show k + (L + 1 - k) = L + 1 by omega, Nat.zero_add] at a1 a2
    rw [vf_congr (F := R') (G := R) (o := 0) (n := k) (fun j a b => hout j (by omega)), t1] at a2
    rw [w1] at a1
    have q1 := vf_cons (updN Q k (vf R k (n + 2) / V)) k (L - n - (k + 1))
    rw [show L - n - (k + 1) + 1 = L - n - k by omega, vf_upd_out (F := Q) (o := k + 1) (.inl (by omega)), show updN Q k (vf R k (n + 2) / V) k = vf R k (n + 2) / V by unfold updN; rw [if_pos rfl]] at q1
    exact sum_step es a1 a2 q1
open Go.RowKit
theorem cell_new1 (w : World) (v : Value) : (w.alloc (.cells #[v] 97)).cell? ⟨w.heap.size, 0, none⟩ = some v := cell_of_one (heap_alloc_new w _)
open Go.RowKit
end
section
open Go.Lib
theorem allDig_take {l : List UInt8} (h : AllDig l) (k : Nat) : AllDig (l.take k) := fun p hp => h p (List.mem_of_mem_take hp)
theorem allDig_drop {l : List UInt8} (h : AllDig l) (k : Nat) : AllDig (l.drop k) := fun p hp => h p (List.mem_of_mem_drop hp)
theorem dval_lt {l : List UInt8} (h : AllDig l) : dval l < 10 ^ l.length := by
  induction l using snocInd with
  | nil => simp [dval]
  | snoc m c ih =>
    obtain ⟨h1, h2⟩ := allDig_append.1 h
    have h3 := ih h1
    have h4 := (allDig_cons.1 h2).1
    rw [dval_snoc, List.length_append]
    simp only [List.length_cons, List.length_nil, Nat.zero_add, Nat.pow_succ]
    omega
end
section
open Go.RowKit
theorem dval_take_lt (s : ByteArray) (k : Nat) (hd : AllDig s.data.toList) (h9 : s.size ≤ 9) (hk : k < s.size) : dval (s.data.toList.take k) < 100000000 := by
  have := dval_lt (allDig_take hd k)
  have hl : (s.data.toList.take k).length ≤ k := List.length_take_le _ _
  have : 10 ^ (s.data.toList.take k).length ≤ 10 ^ 8 := Nat.pow_le_pow_right (by decide) (by omega)
  omega
set_option maxHeartbeats 800000 in
theorem readPart_any (s : ByteArray) (w : World) (hs : s.size ≤ 9) (hd : AllDig s.data.toList) :
    Calls Tryd.prog 57 #[.string s] w fun e w' => e = .returned (.int .u32 (dval s.data.toList : Nat)) ∧ w = w' := by
  go_enter Tryd.func57, Tryd.ntmps57
  go_wp2_with fail
  go_loop [3, 7] (fun p i => ∃ k : Nat, k ≤ s.size ∧ i = .int .i64 k ∧ p = .int .u32 (dval (s.data.toList.take k) : Nat)) (fun _ i => s.size - (intOf i).toNat)
  case atStart => exact ⟨0, Nat.zero_le _, rfl, rfl⟩
  case round =>
    obtain ⟨k, hk, rfl, rfl⟩ := hrel
    by_cases hlt : k < s.size
    · have hb := dval_take_lt s k hd hs hlt
      have hc := dig_get s k hd hlt
      have HS := Lib.hid ((congrArg dval (take_snoc s k hlt)).trans (dval_snoc _ _))
      have h0 : (0 : Int) ≤ (dval (s.data.toList.take k) : Nat) := Int.natCast_nonneg _
      go_wp2_with fail
      go_round
      case rel => exact ⟨k + 1, by omega, by go_num, by rw [HS.out]; go_num⟩
      case measure => simp [intOf]; omega
    · go_wp2_with fail
      go_ret
      exact ⟨ret_int (by rw [List.take_of_length_le (by simp; omega)]), rfl⟩
end
section
open Go.RowKit
theorem run_mk0 (n : Nat) (z : Int) (hz : z = (n : Int)) (hn : n ≤ 1000000) (w : World) :
    (Instr.makeSlice 52 (.int .i64 0) (.int .i64 z)).run Tryd.prog w = .ok (.slice (some ⟨w.heap.size, 0, none⟩) 0 n) (w.alloc (.cells (madeCells #[.int .u32 0] n) 97)) := by
  subst hz
  obtain ⟨i, hi, hz0, hz1, hz2⟩ := info_parts info32
  have h := run_make (P := Tryd.prog) w 52 97 i _ Tryd.underlying52 hi hz0 .i64 .i64 0 n (by omega) (by omega) (by rw [hz2]; omega) (by omega)
  simpa [hz1, Value.cells] using h
def vals (P : List Nat) : List Value := P.map fun p => Value.int .u32 (p : Nat)
structure RsInv (l : List UInt8) (z : Int) (P : List Nat) : Prop where
  lo : -9 < z
  hi : z ≤ l.length
  len : 9 * (P.length : Int) = l.length - z
  ok : Ok P
  eq : val P = dval (l.drop z.toNat)
theorem RsInv.start (l : List UInt8) : RsInv l l.length [] := ⟨by omega, by omega, by simp, ok_nil, by simp [val, dval]⟩
theorem RsInv.step {l : List UInt8} {z : Int} {P : List Nat} (h : RsInv l z P) (hd : AllDig l) (hz : 0 < z) {p : List UInt8} (hp : p = (l.take z.toNat).drop (z.toNat - 9)) : RsInv l (z - 9) (P ++ [dval p]) ∧ p.length ≤ 9 ∧ AllDig p := by
  have h1 := h.hi
  have hl : p.length ≤ 9 := by rw [hp]; simp; omega
  have hdp : AllDig p := by rw [hp]; exact allDig_drop (allDig_take hd _) _
  refine ⟨⟨by omega, by omega, by have := h.len; rw [List.length_append]; simp; omega, ok_append.2 ⟨h.ok, ok_cons.2 ⟨?_, ok_nil⟩⟩, ?_⟩, hl, hdp⟩
  · have := dval_lt hdp
    have : 10 ^ p.length ≤ 10 ^ 9 := Nat.pow_le_pow_right (by decide) hl
    omega
  · have e : l.drop (z - 9).toNat = p ++ l.drop z.toNat := by
      rw [show (z - 9).toNat = z.toNat - 9 by omega, hp]
      conv => lhs; rw [← List.take_append_drop z.toNat l]
      rw [List.drop_append_of_le_length (by rw [List.length_take]; omega)]
    rw [e, val_snoc, dval_append, h.eq]
    have e2 : (l.drop z.toNat).length = 9 * P.length := by rw [List.length_drop]; have := h.len; omega
    rw [e2, Nat.pow_mul, show (10 ^ 9 : Nat) = 1000000000 by rfl, Nat.mul_comm (dval p)]; omega
theorem own_sz {w : World} {base : Nat} {v : Value} {P : List Nat} (h : w.ownsRow base 97 1 v P.length (vals P)) (hne : P ≠ []) : ∃ g c, v = .slice (some ⟨g, 0, none⟩) P.length c ∧ P.length ≤ c ∧ c ≤ maxLen ∧ Sz w (some ⟨g, 0, none⟩) P := by
  rcases h.2 with ⟨_, h0⟩ | ⟨g, cap, cur, rfl, _, hg, h1, h2, h3, h4⟩
  · exact absurd (List.eq_nil_of_length_eq_zero h0) hne
  · have hlt : g < w.heap.size := (Array.getElem?_eq_some_iff.1 hg).1
    refine ⟨g, cap, rfl, h1, h2, .inr ⟨g, 0, rfl, hlt, fun i hi => ?_⟩⟩
    rw [cell_of_row w g (0 + i) cur 97 (0, 0) hg, Nat.zero_add]
    have : (cur.toList.take (P.length * 1))[i]? = (vals P)[i]? := by rw [h4]
    rw [List.getElem?_take_of_lt (by omega)] at this
    rw [← Array.getElem?_toList, this]
    simp [vals, hi]
theorem size_le_of {s : ByteArray} {k : Nat} (h : s.data.toList.length ≤ k) : s.size ≤ k := by
  rw [Array.length_toList] at h; exact h
theorem Sz.trim {w : World} {A : Option Addr} {l : List Nat} (h : Sz w A l) : Sz w A (Go.Proofs.YtpledghphljfkaaDoor.trim l) := by
  rcases h with ⟨rfl, rfl⟩ | ⟨b, o, e, hlt, hc⟩
  · exact .inl ⟨rfl, rfl⟩
  · have hle := trim_le l
    refine .inr ⟨b, o, e, hlt, fun i hi => ?_⟩
    rw [hc i (by omega)]
    have h3 : (Go.Proofs.YtpledghphljfkaaDoor.trim l)[i]? = (l.take (Go.Proofs.YtpledghphljfkaaDoor.trim l).length)[i]? := by rw [← trim_take]
    rw [List.getElem?_take_of_lt hi, List.getElem?_eq_getElem hi, List.getElem?_eq_getElem (by omega)] at h3
    rw [Option.some.inj h3]
theorem extract_toList (s : ByteArray) (a b : Nat) : (s.extract a b).data.toList = (s.data.toList.take b).drop a := by
  rw [ByteArray.data_extract]
  simp [List.extract_eq_take_drop, List.drop_take]
set_option maxRecDepth 10000 in
set_option maxHeartbeats 1600000 in
theorem readSize_any (s : ByteArray) (w : World) (hs : s.size ≤ 1000) (h0 : 0 < s.size) (hd : AllDig s.data.toList) :
    Calls Tryd.prog 45 #[.string s] w fun e w' => ∃ v, e = .returned v ∧ SzN w' v (dval s.data.toList) ∧ Below w.heap.size w w' := by
  have hmk := run_mk0 (s.size / 9 + 1) ((s.size : Int) / 9 + 1) (by omega) (by omega)
  have hls : s.data.toList.length = s.size := by simp
  have hm0 := fun w => World.ownsRow_made (base := w.heap.size) (e := 97) (size := 1) w (madeCells #[.int .u32 0] (s.size / 9 + 1)) (s.size / 9 + 1) (Nat.le_refl _) (by unfold maxLen; omega) (by rw [size_madeCells, Nat.mul_one])
  have hb0 := (Below.refl w.heap.size w).alloc (Nat.le_refl _) (.cells (madeCells #[.int .u32 0] (s.size / 9 + 1)) 97)
  have H0 := Lib.hid (hm0 w)
  clear hm0
  go_enter Tryd.func45, Tryd.ntmps45
  go_wp2_with fail
  have hst := RsInv.start s.data.toList
  rw [hls] at hst
  have H0' := H0.out
  go_loopw [3, 4] (fun v zv wr => ∃ (z : Int) (P : List Nat), zv = .int .i64 z ∧ RsInv s.data.toList z P ∧ wr.ownsRow w.heap.size 97 1 v P.length (vals P) ∧ Below w.heap.size w wr) (fun _ zv _ => (intOf zv).toNat)
  case atStart => exact ⟨(s.size : Int), [], rfl, hst, H0', hb0⟩
  case round =>
    clear hst H0' hb0 H0 hmk
    obtain ⟨z, P, rfl, hI, hown, hB⟩ := hrel
    have hz1 := hI.lo
    have hz2 := hI.hi
    rw [hls] at hz2
    by_cases hz : 0 < z
    · by_cases h9 : 9 ≤ z
      · have hmax : max (z - 9) 0 = z - 9 := by omega
        have hsz : (s.extract (z - 9).toNat z.toNat).size ≤ 9 ∧ AllDig (s.extract (z - 9).toNat z.toNat).data.toList ∧ RsInv s.data.toList (z - 9) (P ++ [dval (s.extract (z - 9).toNat z.toNat).data.toList]) := by
          obtain ⟨x1, x2, x3⟩ := hI.step hd hz (p := (s.extract (z - 9).toNat z.toNat).data.toList) (by rw [extract_toList]; rw [show (z - 9).toNat = z.toNat - 9 by omega])
          exact ⟨size_le_of x2, x3, x1⟩
        obtain ⟨hsz, hdp, hst⟩ := hsz
        have hlen1 : (P ++ [dval (s.extract (z - 9).toNat z.toNat).data.toList]).length = P.length + 1 := by simp
        have hPl : 9 * P.length ≤ s.size := by have := hI.len; rw [hls] at this; omega
        go_wp2_with fail
        refine (readPart_any _ _ hsz hdp).mono ?_
        rintro e w1 ⟨rfl, rfl⟩
        generalize dval (s.extract (z - 9).toNat z.toNat).data.toList = d at hst hlen1 ⊢
        obtain ⟨i0, hi, hz0, hz1', hz2'⟩ := info_parts info32
        have H1 := Lib.hid (And.intro hlen1 hst)
        clear hI hst hlen1 hsz hdp hd
        go_wp2_with (at_builtin; refine wpList_append_own _ rfl (.tmp 16) (.tmp 24) 52 rfl w.heap.size 97 i0 (.int .u32 0) 1 4 Tryd.underlying52 hi hz0 hz1' hz2' rfl (by decide) _ _ _ rfl (hown.alloc _) ⟨wr.heap.size, 0, none⟩ 1 1 [.int .u32 (d : Nat)] rfl rfl ?c1 ?c2 ?c3 ?c4 ?c5 ?_)
        case c1 => intro j u hj; rcases j with _ | j
                   · simp at hj; subst hj; exact cell_new1 _ _
                   · simp at hj
        case c2 => simp [Value.oneCell']
        case c3 => unfold maxLen; omega
        case c4 => omega
        case c5 => have := hB.size; simp; omega
        intro v' w1 hown' hgrow _
        have hB' : Below w.heap.size w w1 := (hB.alloc hB.size _).grown hgrow (by have := hB.size; simp; omega) (fun k hk => (hown.lt k hk).1)
        clear hgrow hown hB
        go_wp2_with fail
        go_roundw
        case rel => exact ⟨z - 9, _, rfl, H1.out.2, by rw [H1.out.1]; simpa [vals] using hown', hB'⟩
        case measure => simp [intOf]; omega
      · have hmax : max (z - 9) 0 = 0 := by omega
        have hsz : (s.extract 0 z.toNat).size ≤ 9 ∧ AllDig (s.extract 0 z.toNat).data.toList ∧ RsInv s.data.toList (z - 9) (P ++ [dval (s.extract 0 z.toNat).data.toList]) := by
          obtain ⟨x1, x2, x3⟩ := hI.step hd hz (p := (s.extract 0 z.toNat).data.toList) (by rw [extract_toList]; rw [show z.toNat - 9 = 0 by omega])
          exact ⟨size_le_of x2, x3, x1⟩
        obtain ⟨hsz, hdp, hst⟩ := hsz
        have hlen1 : (P ++ [dval (s.extract 0 z.toNat).data.toList]).length = P.length + 1 := by simp
        have hPl : 9 * P.length ≤ s.size := by have := hI.len; rw [hls] at this; omega
        go_wp2_with fail
        refine (readPart_any _ _ hsz hdp).mono ?_
        rintro e w1 ⟨rfl, rfl⟩
        generalize dval (s.extract 0 z.toNat).data.toList = d at hst hlen1 ⊢
        obtain ⟨i0, hi, hz0, hz1', hz2'⟩ := info_parts info32
        have H1 := Lib.hid (And.intro hlen1 hst)
        clear hI hst hlen1 hsz hdp hd
        go_wp2_with (at_builtin; refine wpList_append_own _ rfl (.tmp 16) (.tmp 24) 52 rfl w.heap.size 97 i0 (.int .u32 0) 1 4 Tryd.underlying52 hi hz0 hz1' hz2' rfl (by decide) _ _ _ rfl (hown.alloc _) ⟨wr.heap.size, 0, none⟩ 1 1 [.int .u32 (d : Nat)] rfl rfl ?c1 ?c2 ?c3 ?c4 ?c5 ?_)
        case c1 => intro j u hj; rcases j with _ | j
                   · simp at hj; subst hj; exact cell_new1 _ _
                   · simp at hj
        case c2 => simp [Value.oneCell']
        case c3 => unfold maxLen; omega
        case c4 => omega
        case c5 => have := hB.size; simp; omega
        intro v' w1 hown' hgrow _
        have hB' : Below w.heap.size w w1 := (hB.alloc hB.size _).grown hgrow (by have := hB.size; simp; omega) (fun k hk => (hown.lt k hk).1)
        clear hgrow hown hB
        go_wp2_with fail
        go_roundw
        case rel => exact ⟨z - 9, _, rfl, H1.out.2, by rw [H1.out.1]; simpa [vals] using hown', hB'⟩
        case measure => simp [intOf]; omega
    · have hne : P ≠ [] := by
        rintro rfl
        have := hI.len
        rw [hls] at this
        simp at this
        omega
      obtain ⟨g, c, hv, hc1, hc2, hS⟩ := own_sz hown hne
      go_wp2_with fail
      refine (trimmed_any _ P c _ hS hc1 hc2).mono ?_
      rintro e w1 ⟨rfl, rfl⟩
      go_wp2_with fail
      go_ret
      have hval := hI.eq
      rw [show z.toNat = 0 by omega, List.drop_zero] at hval
      exact ⟨_, rfl, ⟨_, trim P, c, rfl, hS.trim, ok_trim hI.ok, norm_trim P, by rw [val_trim, hval]⟩, hB⟩
end
section
open Go.RowKit
theorem sign_mul_val {s : Int} {n : Nat} (hs : s = 1 ∨ s = -1) : (s * (n : Int)).sign = (if n = 0 then 0 else s) ∧ (s * (n : Int)).natAbs = n := by
  rcases hs with rfl | rfl
  · rw [Int.one_mul]
    constructor
    · split
      · rename_i h; subst h; rfl
      · exact Int.sign_eq_one_of_pos (by omega)
    · omega
  · rw [show (-1 : Int) * (n : Int) = -(n : Int) by omega]
    constructor
    · split
      · rename_i h; subst h; rfl
      · exact Int.sign_eq_neg_one_of_neg (by omega)
    · omega
def MadePost (x : Int) (w : World) (e : Ending) (w' : World) : Prop := ∃ v, e = .returned v ∧ NumV w' v x ∧ Below w.heap.size w w'
theorem made_any (s : Int) (A : Option Addr) (l : List Nat) (c : Nat) (w : World) (hA : Sz w A l) (ol : Ok l) (nl : Norm l) (hs : s = 1 ∨ s = -1 ∨ l = []) (hl : l.length ≤ 1000) :
    Calls Tryd.prog 44 #[.int .i64 s, .slice A l.length c] w (MadePost (s * (val l : Int)) w) := by
  by_cases hne : l = []
  · subst hne
    have hz : (((([] : List Nat).length : Nat) : Int) == 0) = true := by rfl
    go_enter Tryd.func44, Tryd.ntmps44
    go_wp2_with fail
    exact bodyPost_ret (v := .agg #[.int .i64 0, .slice none 0 0]) (by simp [results, Tryd.results44, go_sem]) rfl ⟨_, rfl, ⟨none, [], 0, by rw [val_nil]; simp, .inl ⟨rfl, rfl⟩, ok_nil, norm_nil, by rw [val_nil]; simp⟩, (Below.refl _ _).alloc (Nat.le_refl _) _⟩
  · have h1 : 1 ≤ l.length := List.length_pos_iff.2 hne
    have hz : (((l.length : Nat) : Int) == 0) = false := by simp; omega
    have hs2 : s = 1 ∨ s = -1 := hs.elim .inl fun h => h.elim .inr fun h => absurd h hne
    obtain ⟨e1, e2⟩ := sign_mul_val (n := val l) hs2
    rw [if_neg (fun h => hne ((norm_val_zero nl).1 h))] at e1
    go_enter Tryd.func44, Tryd.ntmps44
    go_wp2_with fail
    exact bodyPost_ret (v := .agg #[.int .i64 s, .slice A l.length c]) (by simp [results, Tryd.results44, go_sem]) rfl ⟨_, rfl, ⟨A, l, c, by rw [e1], hA.below ((Below.refl _ _).alloc (Nat.le_refl _) _), ol, nl, e2.symm⟩, (Below.refl _ _).alloc (Nat.le_refl _) _⟩
open Go.RowKit
theorem cmp_signs (x y : Int) (h : cmpI x.sign y.sign ≠ 0) : cmpI x.sign y.sign = cmpI x y := by
  unfold cmpI at *
  rcases Int.lt_trichotomy x 0 with hx | hx | hx <;> rcases Int.lt_trichotomy y 0 with hy | hy | hy
  all_goals first
    | rw [Int.sign_eq_neg_one_of_neg hx] at *
    | rw [Int.sign_eq_one_of_pos hx] at *
    | (rw [hx] at *; rw [Int.sign_zero] at *)
  all_goals first
    | rw [Int.sign_eq_neg_one_of_neg hy] at *
    | rw [Int.sign_eq_one_of_pos hy] at *
    | (rw [hy] at *; rw [Int.sign_zero] at *)
  all_goals first
    | (exfalso; exact h (by decide))
    | (rw [if_pos (by decide), if_pos (by omega)])
    | (rw [if_neg (by decide), if_pos (by decide), if_neg (by omega), if_pos (by omega)])
end
section
open Go.RowKit
theorem cmp_same_sign {x y : Int} (h : cmpI x.sign y.sign = 0) : x.sign * cmpN x.natAbs y.natAbs = cmpI x y := by
  have hs : x.sign = y.sign := by
    unfold cmpI at h
    split at h
    · cases h
    · split at h
      · cases h
      · omega
  unfold cmpN cmpI
  rcases Int.lt_trichotomy x 0 with hx | hx | hx
  · have hy : y < 0 := by rw [Int.sign_eq_neg_one_of_neg hx] at hs; exact Int.neg_of_sign_eq_neg_one hs.symm
    rw [Int.sign_eq_neg_one_of_neg hx]
    rcases Nat.lt_trichotomy x.natAbs y.natAbs with a | a | a
    · rw [if_pos a, if_neg (by omega), if_pos (by omega)]; rfl
    · rw [if_neg (by omega), if_neg (by omega), if_neg (by omega), if_neg (by omega)]; rfl
    · rw [if_neg (by omega), if_pos a, if_pos (by omega)]; rfl
  · subst hx
    have hy : y = 0 := Int.eq_zero_of_sign_eq_zero hs.symm
    subst hy; rfl
  · have hy : 0 < y := by rw [Int.sign_eq_one_of_pos hx] at hs; exact Int.pos_of_sign_eq_one hs.symm
    rw [Int.sign_eq_one_of_pos hx, Int.one_mul]
    rcases Nat.lt_trichotomy x.natAbs y.natAbs with a | a | a
    · rw [if_pos a, if_pos (by omega)]
    · rw [if_neg (by omega), if_neg (by omega), if_neg (by omega), if_neg (by omega)]
    · rw [if_neg (by omega), if_pos a, if_neg (by omega), if_pos (by omega)]
theorem cmpI_bd (a b : Int) : -1 ≤ cmpI a b ∧ cmpI a b ≤ 1 := by unfold cmpI; split <;> (try split) <;> omega
theorem cmps_at {a b z : Int} (h : cmpI a b = z) (w : World) : Calls Tryd.prog 46 #[.int .i64 a, .int .i64 b] w fun e w' => e = .returned (.int .i64 z) ∧ w = w' := by
  rw [← h]; exact cmps_any a b w
def CmpPost (z : Int) (w : World) (e : Ending) (w' : World) : Prop := e = .returned (.int .i64 z) ∧ Below w.heap.size w w'
theorem compared_q {A B : Option Addr} {l m : List Nat} {c d : Nat} {w : World} (hA : Sz w A l) (hB : Sz w B m) (ol : Ok l) (om : Ok m) (nl : Norm l) (nm : Norm m) (hc : l.length ≤ maxLen) (hd : m.length ≤ maxLen) {z : Int} (hz : CmpVal l m = z) (n : Nat) :
    Calls Tryd.prog 47 #[.slice A l.length c, .slice B m.length d] (w.drewN n) fun e w'' => e = .returned (.int .i64 z) ∧ ∃ k, w'' = w.drewN k := by
  subst hz
  refine (compared_any A B l m c d (w.drewN n) hA hB ol om nl nm hc hd).mono ?_
  rintro e w' ⟨rfl, k, rfl⟩
  exact ⟨rfl, n + k, by rw [World.drewN_drewN]⟩
set_option maxRecDepth 10000 in
set_option maxHeartbeats 800000 in
theorem against_any (x y : Int) (A B : Option Addr) (l m : List Nat) (c d : Nat) (w : World) (hA : Sz w A l) (hB : Sz w B m) (ol : Ok l) (om : Ok m) (nl : Norm l) (nm : Norm m) (hv : val l = x.natAbs) (hv' : val m = y.natAbs) (hl : l.length ≤ 1000) (hm : m.length ≤ 1000) :
    Calls Tryd.prog 28 #[.agg #[.int .i64 x.sign, .slice A l.length c], .agg #[.int .i64 y.sign, .slice B m.length d]] w (CmpPost (cmpI x y) w) := by
  by_cases hz : cmpI x.sign y.sign = 0
  · have h1 := cmps_at hz
    have e1 := cmp_same_sign hz
    have hcv : CmpVal l m = cmpN x.natAbs y.natAbs := by unfold CmpVal; rw [hv, hv']
    have hq := fun (w1 : World) (h1 : Below w.heap.size w w1) => compared_q (c := c) (d := d) (hA.below h1) (hB.below h1) ol om nl nm (by unfold maxLen; omega) (by unfold maxLen; omega) hcv
    obtain ⟨r, hr⟩ : ∃ r, r = cmpI x y := ⟨_, rfl⟩
    have hr1 := cmpI_bd x y
    rw [← hr] at e1 hr1 ⊢
    generalize cmpN x.natAbs y.natAbs = cv at hq e1
    generalize x.sign = sx at h1 e1 ⊢
    generalize y.sign = sy at h1 ⊢
    have hw : IntKind.i64.wrap (sx * cv) = r := by rw [e1]; exact IntWalk.i64_in _ (by omega)
    have H1 := Lib.hid h1
    have HQ := Lib.hid hq
    clear h1 hq hr e1 hz hcv hv hv'
    go_enter Tryd.func28, Tryd.ntmps28
    go_wp2_with fail
    refine (H1.out _).mono ?_
    rintro e w1 ⟨rfl, rfl⟩
    go_wp2_with fail
    go_quiet ((go_at_call 47; exact HQ.out _ (((Below.refl _ _).alloc (Nat.le_refl _) _).alloc (by simp) _) _))
    go_wp2_with fail
    go_ret
    exact ⟨rfl, Below.trans (((Below.refl _ _).alloc (Nat.le_refl _) _).alloc (by simp) _) (Drawn.below ⟨_, rfl⟩)⟩
  · have e1 := cmp_signs x y hz
    obtain ⟨r, hr⟩ : ∃ r, r = cmpI x y := ⟨_, rfl⟩
    rw [← hr] at e1 ⊢
    have h1 := cmps_at e1
    have hr1 : (r != 0) = true := by rw [bne_iff_ne, ← e1]; exact hz
    have H1 := Lib.hid h1
    clear h1 hr e1 hz hv hv'
    go_enter Tryd.func28, Tryd.ntmps28
    go_wp2_with fail
    refine (H1.out _).mono ?_
    rintro e w1 ⟨rfl, rfl⟩
    go_wp2_with fail
    go_ret
    exact ⟨rfl, ((Below.refl _ _).alloc (Nat.le_refl _) _).alloc (by simp) _⟩
end
section
open Go.RowKit
theorem len_of_val {l : List Nat} (nl : Norm l) {n k : Nat} (h : val l = n) (hn : n < 1000000000 ^ k) : l.length ≤ k := len_le_of_lt nl (by rw [h]; exact hn)
def MadeRes (z sz : Int) (w : World) (e : Ending) (w' : World) : Prop := ∃ P l c, e = .returned (.agg #[.int .i64 sz, .slice P l.length c]) ∧ Sz w' P l ∧ Ok l ∧ Norm l ∧ val l = z.natAbs ∧ Below w.heap.size w w'
theorem made_to (s : Int) (A : Option Addr) (l : List Nat) (c : Nat) (w : World) (hA : Sz w A l) (ol : Ok l) (nl : Norm l) (hs : s = 1 ∨ s = -1 ∨ l = []) (hl : l.length ≤ 1000) {z sz : Int} (hz : s * (val l : Int) = z) (hsz : z.sign = sz) :
    Calls Tryd.prog 44 #[.int .i64 s, .slice A l.length c] w (MadeRes z sz w) := by
  subst hz hsz
  refine (made_any s A l c w hA ol nl hs hl).mono ?_
  rintro e w' ⟨v, rfl, ⟨A', l', c', rfl, h1, h2, h3, h4⟩, hb⟩
  exact ⟨A', l', c', rfl, h1, h2, h3, h4, hb⟩
end
section
open Go.RowKit
section
variable {W W' : World} {g : Nat} {s : Int} {P : Option Addr} {n c : Nat}
theorem Nb.c0 (h : Nb W g s P n c) : W.cell? ⟨g, 0, none⟩ = some (.int .i64 s) := by rw [cell_of_row _ _ 0 _ _ _ h]; rfl
theorem Nb.c1 (h : Nb W g s P n c) : W.cell? ⟨g, 1, none⟩ = some (.slice P n c) := by rw [cell_of_row _ _ 1 _ _ _ h]; rfl
theorem Nb.alloc (h : Nb W g s P n c) (o : Obj) : Nb (W.alloc o) g s P n c := (Below.heap_alloc W o g h.lt).trans h
theorem Nb.new (W : World) (s : Int) (P : Option Addr) (n c : Nat) : Nb (W.alloc (.cells #[.int .i64 s, .slice P n c] 54)) W.heap.size s P n c := heap_alloc_new W _
theorem Nb.set (h : Nb W g s P n c) (s' : Int) (P' : Option Addr) (n' c' : Nat) : Nb ((W.setCell ⟨g, 0, none⟩ (.int .i64 s')).setCell ⟨g, 1, none⟩ (.slice P' n' c')) g s' P' n' c' := by
  unfold Nb at *
  simp [World.setCell, Array.getElem?_modify, h]
end
theorem Only.two (g : Nat) (W : World) (u v : Value) : Only g W ((W.setCell ⟨g, 0, none⟩ u).setCell ⟨g, 1, none⟩ v) := ((Only.refl g W).setCell 0 u).setCell 1 v
end
section
open Go.RowKit
def ReadPost (x : Int) (w : World) (e : Ending) (w' : World) : Prop := ∃ P l c, e = .returned (.tuple #[.agg #[.int .i64 x.sign, .slice P (List.length l) c], .bool true]) ∧ (Sz w' P l ∧ Ok l ∧ Norm l ∧ val l = x.natAbs) ∧ Below w.heap.size w w'
def ReadNo (w : World) (e : Ending) (w' : World) : Prop := e = .returned (.tuple #[.agg #[.int .i64 0, .slice none 0 0], .bool false]) ∧ Below w.heap.size w w'
theorem lim_lt : lim ≤ 1000000000 ^ 12 := by
  unfold lim; decide
theorem vals_len {l : List Nat} {n : Nat} (nl : Norm l) (h : val l = n) (hn : n < lim) : l.length ≤ 12 := len_of_val nl h (Nat.lt_of_lt_of_le hn lim_lt)
set_option maxRecDepth 10000 in
set_option maxHeartbeats 12800000 in
theorem read_yes (x : Int) (w : World) (h : x.natAbs < lim) : Calls Tryd.prog 27 #[.string (S x)] w (ReadPost x w) := by
  have hM := fun w => may_yes h w
  have hC := fun w => Tryd.strings_CutPrefix (S x) ⟨#[45]⟩ w
  rw [show (⟨#[45]⟩ : ByteArray).data.toList = [45] from rfl, S_toList] at hC
  have hf := figs_itoa x
  unfold figs at hf
  rw [hf] at hC
  obtain ⟨f, hfe⟩ : ∃ f : ByteArray, f = ⟨(Lib.decDigits x.natAbs).toArray⟩ := ⟨_, rfl⟩
  rw [← hfe] at hC
  have hfd : f.data.toList = Lib.decDigits x.natAbs := by rw [hfe]
  have hfs : f.size = (Lib.decDigits x.natAbs).length := by rw [← hfd]; simp
  have h1 := lim_digs h
  have h2 := decDigits_len_pos x.natAbs
  have hr := fun w => readSize_any f w (by omega) (by omega) (by rw [hfd]; exact decDigits_dig _)
  rw [hfd, dval_decDigits] at hr
  have HR := Lib.hid hr
  have HM := Lib.hid hM
  have HL := Lib.hid h
  obtain ⟨q, hq⟩ : ∃ q, q = x.sign := ⟨_, rfl⟩
  by_cases hx : x < 0
  · have hb : Lib.hasPrefix (Lib.itoa x) [45] = true := by rw [itoa_neg hx]; rfl
    rw [hb] at hC
    have HC := Lib.hid hC
    have hmade := fun w1 P l' c' hP ok nm (hvP : val l' = x.natAbs) => made_to (-1) P l' c' w1 hP ok nm (.inr (.inl rfl)) (Nat.le_trans (vals_len nm hvP h) (by decide)) (z := x) (sz := q) (by rw [hvP]; omega) hq.symm
    have HD := Lib.hid hmade
    have HQ := Lib.hid hq
    clear hr hM hC hf hfe hfd hfs hb hmade h hq
    go_enter Tryd.func27, Tryd.ntmps27
    go_wp2_with fail
    refine (HM.out _).mono ?_
    rintro e w1 ⟨rfl, rfl⟩
    go_wp2_with fail
    refine (HC.out _).mono ?_
    rintro e w1 ⟨rfl, rfl⟩
    go_wp2_with fail
    refine (HR.out _).mono ?_
    rintro e w2 ⟨_, rfl, ⟨P, l, c, rfl, hP, okP, nmP, hvP⟩, hb2⟩
    go_wp2_with fail
    refine (HD.out _ P l c hP okP nmP hvP).mono ?_
    rintro e w3 ⟨P3, l3, c3, rfl, hP3, ok3, nm3, hv3, hb3⟩
    have hB := ((Nb.new w 0 none 0 0).below hb2 (by simp)).below hb3 (Nat.lt_of_lt_of_le (by simp) hb2.size)
    have k0 := hB.c0
    have k1 := hB.c1
    have f0 := hB.f 0
    have f1 := hB.f 1
    have hN := hB.set q P3 l3.length c3
    have hS := hP3.far hB.far (Only.two w.heap.size w3 (.int .i64 q) (.slice P3 l3.length c3))
    have hb : Below w.heap.size w w3 := (((Below.refl _ _).alloc (Nat.le_refl _) _).trans (hb2.mono (by simp))).trans (hb3.mono (Nat.le_trans (by simp) hb2.size))
    have hb' := hb.trans ((Only.two w.heap.size w3 (.int .i64 q) (.slice P3 l3.length c3)).to_below (Nat.le_refl _) hb.size)
    have r0 := hN.c0
    have r1 := hN.c1
    go_wp2_with fail
    exact bodyPost_ret (v := .tuple #[.agg #[.int .i64 q, .slice P3 l3.length c3], .bool true]) (by simp [results, Tryd.results27, go_sem, r0, r1]) rfl ⟨P3, l3, c3, by rw [HQ.out], ⟨hS, ok3, nm3, hv3⟩, hb'⟩
  · have hnb : Lib.hasPrefix (Lib.itoa x) [45] = false := by
      cases hh : Lib.hasPrefix (Lib.itoa x) [45] with
      | false => rfl
      | true =>
        exfalso
        have hl := congrArg List.length hf
        rw [itoa_pos (by omega)] at hh hl
        unfold Lib.trimPrefix at hl
        rw [if_pos hh, List.length_drop] at hl
        simp at hl
        omega
    rw [hnb] at hC
    have HC := Lib.hid hC
    have hSf : S x = f := by rw [hfe]; exact S_pos rfl (by omega)
    rw [← hSf] at HR
    have hmade := fun w1 P l' c' hP ok nm (hvP : val l' = x.natAbs) => made_to 1 P l' c' w1 hP ok nm (.inl rfl) (Nat.le_trans (vals_len nm hvP h) (by decide)) (z := x) (sz := q) (by rw [hvP]; omega) hq.symm
    have HD := Lib.hid hmade
    have HQ := Lib.hid hq
    clear hr hM hC hf hfe hfd hfs hnb hmade h hq hSf
    go_enter Tryd.func27, Tryd.ntmps27
    go_wp2_with fail
    refine (HM.out _).mono ?_
    rintro e w1 ⟨rfl, rfl⟩
    go_wp2_with fail
    refine (HC.out _).mono ?_
    rintro e w1 ⟨rfl, rfl⟩
    go_wp2_with fail
    refine (HR.out _).mono ?_
    rintro e w2 ⟨_, rfl, ⟨P, l, c, rfl, hP, okP, nmP, hvP⟩, hb2⟩
    go_wp2_with fail
    refine (HD.out _ P l c hP okP nmP hvP).mono ?_
    rintro e w3 ⟨P3, l3, c3, rfl, hP3, ok3, nm3, hv3, hb3⟩
    have hB := ((Nb.new w 0 none 0 0).below hb2 (by simp)).below hb3 (Nat.lt_of_lt_of_le (by simp) hb2.size)
    have k0 := hB.c0
    have k1 := hB.c1
    have f0 := hB.f 0
    have f1 := hB.f 1
    have hN := hB.set q P3 l3.length c3
    have hS := hP3.far hB.far (Only.two w.heap.size w3 (.int .i64 q) (.slice P3 l3.length c3))
    have hb : Below w.heap.size w w3 := (((Below.refl _ _).alloc (Nat.le_refl _) _).trans (hb2.mono (by simp))).trans (hb3.mono (Nat.le_trans (by simp) hb2.size))
    have hb' := hb.trans ((Only.two w.heap.size w3 (.int .i64 q) (.slice P3 l3.length c3)).to_below (Nat.le_refl _) hb.size)
    have r0 := hN.c0
    have r1 := hN.c1
    go_wp2_with fail
    exact bodyPost_ret (v := .tuple #[.agg #[.int .i64 q, .slice P3 l3.length c3], .bool true]) (by simp [results, Tryd.results27, go_sem, r0, r1]) rfl ⟨P3, l3, c3, by rw [HQ.out], ⟨hS, ok3, nm3, hv3⟩, hb'⟩
theorem read_no (s : ByteArray) (w : World) (hs : s.size ≤ maxLen) (h : mayL s.data.toList = false) : Calls Tryd.prog 27 #[.string s] w (ReadNo w) := by
  have hM := fun w => may_any s w hs
  rw [h] at hM
  have HM := Lib.hid hM
  clear hM h
  go_enter Tryd.func27, Tryd.ntmps27
  go_wp2_with fail
  refine (HM.out _).mono ?_
  rintro e w1 ⟨rfl, rfl⟩
  have hN := Nb.new w 0 none 0 0
  have r0 := hN.c0
  have r1 := hN.c1
  go_wp2_with fail
  exact bodyPost_ret (v := .tuple #[.agg #[.int .i64 0, .slice none 0 0], .bool false]) (by simp [results, Tryd.results27, go_sem]) rfl ⟨rfl, (Below.refl _ _).alloc (Nat.le_refl _) _⟩
end
section
open Go.RowKit
open Go.RowKit
def ReadAny (ok : Bool) (w : World) (e : Ending) (w' : World) : Prop := ∃ q P n c, e = .returned (.tuple #[.agg #[.int .i64 q, .slice P n c], .bool ok]) ∧ Below w.heap.size w w'
theorem read_any (s : ByteArray) (w : World) (hs : s.size ≤ maxLen) : Calls Tryd.prog 27 #[.string s] w (ReadAny (mayL s.data.toList) w) := by
  cases h : mayL s.data.toList with
  | false =>
    refine (read_no s w hs h).mono ?_
    rintro e w' ⟨rfl, hb⟩
    exact ⟨_, _, _, _, rfl, hb⟩
  | true =>
    obtain ⟨x, hx, hl⟩ := mayL_is h
    have e1 : s = S x := ByteArray.ext (Array.toList_inj.1 hx)
    subst e1
    refine (read_yes x w hl).mono ?_
    rintro e w' ⟨P, l, c, rfl, _, hb⟩
    exact ⟨_, _, _, _, rfl, hb⟩
end
section
open Go.RowKit
set_option maxRecDepth 10000 in
set_option maxHeartbeats 800000 in
theorem Cmp_yes (x y : Int) (w : World) (hx : x.natAbs < lim) (hy : y.natAbs < lim) : Calls Tryd.prog 13 #[.string (S x), .string (S y)] w (CmpPost (cmpI x y) w) := by
  have hR := fun w => read_yes x w hx
  have hR' := fun w => read_yes y w hy
  have HR := Lib.hid hR
  have HR' := Lib.hid hR'
  obtain ⟨q, hq⟩ : ∃ q, q = x.sign := ⟨_, rfl⟩
  obtain ⟨q', hq'⟩ : ∃ q, q = y.sign := ⟨_, rfl⟩
  obtain ⟨z, hz⟩ : ∃ z, z = cmpI x y := ⟨_, rfl⟩
  have HQ := Lib.hid (And.intro hq hq')
  have hF := fun P P' l l' c c' w1 hA hB ol om nl nm (hv : val l = x.natAbs) (hv' : val l' = y.natAbs) => against_any x y P P' l l' c c' w1 hA hB ol om nl nm hv hv' (Nat.le_trans (vals_len nl hv hx) (by decide)) (Nat.le_trans (vals_len nm hv' hy) (by decide))
  rw [← hq, ← hq', ← hz] at hF
  have HF := Lib.hid hF
  have HZ := Lib.hid hz
  clear hR hR' hF hq hq' hx hy hz
  go_enter Tryd.func13, Tryd.ntmps13
  go_wp2_with fail
  refine (HR.out _).mono ?_
  rintro e w1 ⟨P, l, c, rfl, ⟨hP, ok, nm, hv⟩, hb⟩
  rw [← HQ.out.1]
  have hN := Nb.new w1 q P l.length c
  have hb1 := hb.alloc hb.size (.cells #[.int .i64 q, .slice P l.length c] 54)
  have hP1 := hP.below ((Below.refl _ _).alloc (Nat.le_refl _) (.cells #[.int .i64 q, .slice P l.length c] 54))
  go_wp2_with fail
  refine (HR'.out _).mono ?_
  rintro e w2 ⟨P', l', c', rfl, ⟨hP', ok', nm', hv'⟩, hb'⟩
  rw [← HQ.out.2]
  have hN2 := hN.below hb' hN.lt
  have hP2 := hP1.below hb'
  have hb2 := hb1.trans (hb'.mono hb1.size)
  have k0 := hN2.c0
  have k1 := hN2.c1
  have hb3 := hb2.alloc hb2.size (.cells #[.int .i64 q', .slice P' l'.length c'] 54)
  have hP3 := hP2.below ((Below.refl _ _).alloc (Nat.le_refl _) (.cells #[.int .i64 q', .slice P' l'.length c'] 54))
  have hP3' := hP'.below ((Below.refl _ _).alloc (Nat.le_refl _) (.cells #[.int .i64 q', .slice P' l'.length c'] 54))
  have hN3 := hN2.alloc (.cells #[.int .i64 q', .slice P' l'.length c'] 54)
  have m0 := hN3.c0
  have m1 := hN3.c1
  clear hN hN2 hb hb' hb1
  go_wp2_with fail
  refine (HF.out P P' l l' c c' _ hP3 hP3' ok ok' nm nm' hv hv').mono ?_
  rintro e w4 ⟨rfl, hb4⟩
  go_wp2_with fail
  go_ret
  exact ⟨ret_int HZ.out, hb3.trans (hb4.mono hb3.size)⟩
set_option maxRecDepth 10000 in
set_option maxHeartbeats 800000 in
theorem Cmp_no (s t : ByteArray) (w : World) (hs : s.size ≤ maxLen) (ht : t.size ≤ maxLen) (h : (mayL s.data.toList && mayL t.data.toList) = false) : Calls Tryd.prog 13 #[.string s, .string t] w (CmpPost 0 w) := by
  have hR := fun w => read_any s w hs
  have hR' := fun w => read_any t w ht
  obtain ⟨b1, hb1⟩ : ∃ b, b = mayL s.data.toList := ⟨_, rfl⟩
  obtain ⟨b2, hb2⟩ : ∃ b, b = mayL t.data.toList := ⟨_, rfl⟩
  rw [← hb1] at hR h
  rw [← hb2] at hR' h
  have HR := Lib.hid hR
  have HR' := Lib.hid hR'
  clear hR hR' hb1 hb2
  cases b1
  · clear h
    go_enter Tryd.func13, Tryd.ntmps13
    go_wp2_with fail
    refine (HR.out _).mono ?_
    rintro e w1 ⟨q, P, n, c, rfl, hb⟩
    have hb1 := hb.alloc hb.size (.cells #[.int .i64 q, .slice P n c] 54)
    go_wp2_with fail
    refine (HR'.out _).mono ?_
    rintro e w2 ⟨q', P', n', c', rfl, hb'⟩
    have hb2 := hb1.trans (hb'.mono hb1.size)
    go_wp2_with fail
    go_ret
    exact ⟨rfl, hb2.alloc hb2.size _⟩
  · have h2 : b2 = false := by simpa using h
    subst h2
    clear h
    go_enter Tryd.func13, Tryd.ntmps13
    go_wp2_with fail
    refine (HR.out _).mono ?_
    rintro e w1 ⟨q, P, n, c, rfl, hb⟩
    have hb1 := hb.alloc hb.size (.cells #[.int .i64 q, .slice P n c] 54)
    go_wp2_with fail
    refine (HR'.out _).mono ?_
    rintro e w2 ⟨q', P', n', c', rfl, hb'⟩
    have hb2 := hb1.trans (hb'.mono hb1.size)
    go_wp2_with fail
    go_ret
    exact ⟨rfl, hb2.alloc hb2.size _⟩
end
section
open Go.RowKit
theorem two_no {s t : ByteArray} {o p : Option Int} (hs : Is s o) (ht : Is t p) (hn : (o.isSome && p.isSome) = false) : (mayL s.data.toList && mayL t.data.toList) = false := by rw [hs.may, ht.may]; exact hn
def cmpO : Option Int → Option Int → Int
  | some x, some y => cmpI x y
  | _, _ => 0
theorem Cmp_opt {s t : ByteArray} {o p : Option Int} (w : World) (hs : Is s o) (ht : Is t p) : Calls Tryd.prog 13 #[.string s, .string t] w (CmpPost (cmpO o p) w) := by
  cases hn : (o.isSome && p.isSome)
  · refine (Cmp_no s t w hs.size ht.size (two_no hs ht hn)).mono fun e w' h => ?_
    cases o <;> cases p <;> first | exact h | exact absurd hn (by simp)
  · cases o <;> cases p <;> simp at hn
    rw [hs.1, ht.1]
    exact Cmp_yes _ _ w hs.2 ht.2
end
end Go.Proofs.YtpledghphljfkaaDoor

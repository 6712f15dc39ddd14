import Derived.Test.YtogphdflgcdiiaaDoorMab
import Derived.BigQuiet
import Derived.Deep.QuietTactic
namespace Go.Proofs.YtogphdflgcdiiaaDoor
set_option linter.unusedVariables false
set_option linter.unusedSimpArgs false
open Go.RowKit

set_option maxHeartbeats 400000 in
theorem cmp32_any (a b : Int) (w : World) : Calls Tryd.prog 65 #[.int .u32 a, .int .u32 b] w fun e w' => e = .returned (.int .i64 (cmpI a b)) ∧ w = w' := by
  unfold cmpI
  rcases Int.lt_trichotomy a b with h | rfl | h
  · rw [if_pos h]
    go_enter Tryd.func65, Tryd.ntmps65
    go_wp2
    go_ret
    exact ⟨rfl, rfl⟩
  · rw [if_neg (by omega), if_neg (by omega)]
    go_enter Tryd.func65, Tryd.ntmps65
    go_wp2
    go_ret
    exact ⟨rfl, rfl⟩
  · rw [if_neg (by omega), if_pos h]
    have h' : ¬ a < b := by omega
    go_enter Tryd.func65, Tryd.ntmps65
    go_wp2
    go_ret
    exact ⟨rfl, rfl⟩
set_option maxHeartbeats 400000 in
theorem cmpi_any (a b : Int) (w : World) : Calls Tryd.prog 64 #[.int .i64 a, .int .i64 b] w fun e w' => e = .returned (.int .i64 (cmpI a b)) ∧ w = w' := by
  unfold cmpI
  rcases Int.lt_trichotomy a b with h | rfl | h
  · rw [if_pos h]
    go_enter Tryd.func64, Tryd.ntmps64
    go_wp2
    go_ret
    exact ⟨rfl, rfl⟩
  · rw [if_neg (by omega), if_neg (by omega)]
    go_enter Tryd.func64, Tryd.ntmps64
    go_wp2
    go_ret
    exact ⟨rfl, rfl⟩
  · rw [if_neg (by omega), if_pos h]
    have h' : ¬ a < b := by omega
    go_enter Tryd.func64, Tryd.ntmps64
    go_wp2
    go_ret
    exact ⟨rfl, rfl⟩
set_option maxHeartbeats 400000 in
theorem cmps_any (a b : Int) (w : World) : Calls Tryd.prog 40 #[.int .i64 a, .int .i64 b] w fun e w' => e = .returned (.int .i64 (cmpI a b)) ∧ w = w' := by
  unfold cmpI
  rcases Int.lt_trichotomy a b with h | rfl | h
  · rw [if_pos h]
    go_enter Tryd.func40, Tryd.ntmps40
    go_wp2
    go_ret
    exact ⟨rfl, rfl⟩
  · rw [if_neg (by omega), if_neg (by omega)]
    go_enter Tryd.func40, Tryd.ntmps40
    go_wp2
    go_ret
    exact ⟨rfl, rfl⟩
  · rw [if_neg (by omega), if_pos h]
    have h' : ¬ a < b := by omega
    go_enter Tryd.func40, Tryd.ntmps40
    go_wp2
    go_ret
    exact ⟨rfl, rfl⟩

theorem cmpI_nat (a b : Nat) : cmpI (a : Int) (b : Int) = cmpN a b := by unfold cmpI cmpN; simp only [Int.ofNat_lt]
theorem cmpN_eq {a b : Nat} : cmpN a b = 0 ↔ a = b := by unfold cmpN; split <;> (try split) <;> omega
theorem cmpN_lt {a b : Nat} (h : a < b) : cmpN a b = -1 := by unfold cmpN; rw [if_pos h]
theorem cmpN_gt {a b : Nat} (h : b < a) : cmpN a b = 1 := by unfold cmpN; rw [if_neg (by omega), if_pos h]
theorem cmpN_self (a : Nat) : cmpN a a = 0 := cmpN_eq.2 rfl
theorem cmp_of_drop {l m : List Nat} (ol : Ok l) (om : Ok m) (hlen : l.length = m.length) {k : Nat} (hk : k < l.length) (hk' : k < m.length) (he : l.drop (k + 1) = m.drop (k + 1)) (hne : l[k] ≠ m[k]) :
    cmpN l[k] m[k] = cmpN (val l) (val m) := by
  rcases Nat.lt_or_gt_of_ne hne with h | h
  · rw [cmpN_lt h, cmpN_lt (cmp_drop ol om hlen hk he h)]
  · rw [cmpN_gt h, cmpN_gt (cmp_drop om ol hlen.symm hk' he.symm h)]

/-- Two sizes without zeros at their ends. -/
def CmpVal (l m : List Nat) : Int := cmpN (val l) (val m)
theorem cmp_len {l m : List Nat} (ol : Ok l) (om : Ok m) (nl : Norm l) (nm : Norm m) (h : l.length ≠ m.length) : cmpN l.length m.length = CmpVal l m := by
  unfold CmpVal
  rcases Nat.lt_or_gt_of_ne h with h | h
  · rw [cmpN_lt h, cmpN_lt (norm_len_lt ol nm h)]
  · rw [cmpN_gt h, cmpN_gt (norm_len_lt om nl h)]

def Same (l m : List Nat) (k : Nat) : Prop := l.drop k = m.drop k
theorem same_down {l m : List Nat} {k : Nat} (hk : k < l.length) (hk' : k < m.length) (h : Same l m (k + 1)) (he : l[k] = m[k]) : Same l m k := by
  unfold Same at *
  rw [List.drop_eq_getElem_cons hk, List.drop_eq_getElem_cons hk', h, he]

def Drawn (w w' : World) : Prop := ∃ n, w' = w.drewN n
theorem Drawn.refl (w : World) : Drawn w w := ⟨0, rfl⟩
theorem Drawn.cell {w w' : World} (h : Drawn w w') (a : Addr) : w'.cell? a = w.cell? a := by obtain ⟨n, rfl⟩ := h; rfl
theorem Drawn.more {w w' : World} (h : Drawn w w') (n : Nat) : Drawn w (w'.drewN n) := by
  obtain ⟨m, rfl⟩ := h
  exact ⟨m + n, by rw [World.drewN_drewN]⟩
theorem Drawn.heap {w w' : World} (h : Drawn w w') : w'.heap = w.heap := by obtain ⟨n, rfl⟩ := h; rfl
theorem cmp_at {a b z : Int} (h : cmpI a b = z) (w : World) : Calls Tryd.prog 64 #[.int .i64 a, .int .i64 b] w fun e w' => e = .returned (.int .i64 z) ∧ w = w' := by
  rw [← h]; exact cmpi_any a b w
theorem cmp32_q {a b z : Int} (h : cmpI a b = z) (w : World) : Calls Tryd.prog 65 #[.int .u32 a, .int .u32 b] w fun e w' => e = .returned (.int .i64 z) ∧ w' = w := by
  rw [← h]; exact (cmp32_any a b w).mono fun _ _ h => ⟨h.1, h.2.symm⟩

set_option maxHeartbeats 800000 in
theorem compared_any (A B : Option Addr) (l m : List Nat) (c d : Nat) (w : World) (hA : Sz w A l) (hB : Sz w B m) (ol : Ok l) (om : Ok m) (nl : Norm l) (nm : Norm m) (hc : l.length ≤ maxLen) (hd : m.length ≤ maxLen) :
    Calls Tryd.prog 41 #[.slice A l.length c, .slice B m.length d] w fun e w' => e = .returned (.int .i64 (CmpVal l m)) ∧ Drawn w w' := by
  unfold maxLen at hc hd
  by_cases hlen : l.length = m.length
  · have hz : cmpI (l.length : Int) (m.length : Int) = 0 := by rw [cmpI_nat, cmpN_eq.2 hlen]
    by_cases hne : l = []
    · subst hne
      have hm0 : m = [] := List.eq_nil_of_length_eq_zero hlen.symm
      subst hm0
      have H1 := Lib.hid (cmp_at hz w)
      clear hz
      go_enter Tryd.func41, Tryd.ntmps41
      go_wp2_with fail
      refine H1.out.mono ?_
      rintro e w1 ⟨rfl, rfl⟩
      go_wp2_with fail
      go_loop [6] (fun i => i = .int .i64 (-1)) (fun _ => 0)
      case atStart => rfl
      case round =>
        subst hrel
        go_wp2_with fail
        go_ret
        exact ⟨rfl, Drawn.refl _⟩
    · obtain ⟨b, o, rfl, hlt, hcell⟩ := hA.at_ hne
      obtain ⟨b', o', rfl, hlt', hcell'⟩ := hB.at_ (by rintro rfl; exact hne (List.eq_nil_of_length_eq_zero hlen))
      have H1 := Lib.hid (cmp_at hz w)
      have HL := Lib.hid hlen
      have h1 : 1 ≤ l.length := by cases l with
        | nil => exact absurd rfl hne
        | cons a r => simp
      have h2 : l.length ≤ m.length ∧ m.length ≤ l.length := by omega
      clear hz hlen hA hB
      go_enter Tryd.func41, Tryd.ntmps41
      go_wp2_with fail
      refine H1.out.mono ?_
      rintro e w1 ⟨rfl, rfl⟩
      go_wp2_with fail
      go_loopw [6] (fun i wr => ∃ k : Nat, k ≤ l.length ∧ i = .int .i64 ((k : Int) - 1) ∧ Same l m k ∧ Drawn w wr) (fun i _ => (intOf i + 1).toNat)
      case atStart => exact ⟨l.length, Nat.le_refl _, rfl, by unfold Same; rw [List.drop_length, HL.out, List.drop_length], Drawn.refl _⟩
      case round =>
        obtain ⟨k, hk, rfl, hS, hW⟩ := hrel
        rcases k with _ | k
        · go_wp2_with fail
          go_ret
          have hv : l = m := by simpa [Same] using hS
          exact ⟨ret_int (by unfold CmpVal; rw [hv, cmpN_self]), hW⟩
        · have hcl := (hW.cell ⟨b, o + k, none⟩).trans (hcell k (by omega))
          have hcm := (hW.cell ⟨b', o' + k, none⟩).trans (hcell' k (by omega))
          have e1 : ((k + 1 : Nat) : Int) - 1 = (k : Int) := by omega
          rw [e1]
          by_cases he : l[k] = m[k]
          · have hq := cmp32_q (show cmpI (l[k] : Int) (m[k] : Int) = 0 by rw [cmpI_nat, cmpN_eq.2 he])
            have HQ := Lib.hid hq
            have HE := Lib.hid he
            clear hq he
            go_wp2_with fail
            go_quiet ((go_at_call 65; exact Calls.quiet_of_same (HQ.out _)))
            go_wp2_with fail
            go_roundw
            case rel => exact ⟨k, by omega, rfl, same_down (by omega) (by omega) hS HE.out, hW.more _⟩
            case measure => simp [intOf]
          · obtain ⟨z, hzz⟩ : ∃ z, z = CmpVal l m := ⟨_, rfl⟩
            have hv : cmpN l[k] m[k] = z := by rw [hzz]; exact cmp_of_drop ol om HL.out (by omega) (by omega) hS he
            have hz1 : (z != 0) = true := by rw [bne_iff_ne, ← hv]; exact fun h => he (cmpN_eq.1 h)
            have hq := cmp32_q (show cmpI (l[k] : Int) (m[k] : Int) = z by rw [cmpI_nat, hv])
            have HQ := Lib.hid hq
            have HZ := Lib.hid hzz
            clear hq hv hzz he
            go_wp2_with fail
            go_quiet ((go_at_call 65; exact Calls.quiet_of_same (HQ.out _)))
            go_wp2_with fail
            go_ret
            exact ⟨ret_int HZ.out, hW.more _⟩
  · have hz := cmp_len ol om nl nm hlen
    have hn : cmpI (l.length : Int) (m.length : Int) ≠ 0 := by rw [cmpI_nat]; intro h; exact hlen (cmpN_eq.1 h)
    rw [← cmpI_nat] at hz
    rw [hz] at hn
    have hn' : (CmpVal l m != 0) = true := by rw [bne_iff_ne]; exact hn
    have H1 := Lib.hid (cmp_at hz w)
    clear hz hn
    go_enter Tryd.func41, Tryd.ntmps41
    go_wp2_with fail
    refine H1.out.mono ?_
    rintro e w1 ⟨rfl, rfl⟩
    go_wp2_with fail
    go_ret
    exact ⟨rfl, Drawn.refl _⟩
end Go.Proofs.YtogphdflgcdiiaaDoor

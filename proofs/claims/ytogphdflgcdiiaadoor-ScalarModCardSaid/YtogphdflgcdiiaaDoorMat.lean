import Derived.Test.YtogphdflgcdiiaaDoorMar
namespace Go.Proofs.YtogphdflgcdiiaaDoor
set_option linter.unusedVariables false
set_option linter.unusedSimpArgs false
open Go.RowKit

theorem cmp_same_sign {x y : Int} (h : cmpI x.sign y.sign = 0) : x.sign * cmpN x.natAbs y.natAbs = cmpI x y := by
  have hs : x.sign = y.sign := by
    unfold cmpI at h
    split at h
    · cases h
    · split at h
      · cases h
      · omega
  unfold cmpN cmpI
  rcases Int.lt_trichotomy x 0 with hx | hx | hx
  · have hy : y < 0 := by rw [Int.sign_eq_neg_one_of_neg hx] at hs; exact Int.neg_of_sign_eq_neg_one hs.symm
    rw [Int.sign_eq_neg_one_of_neg hx]
    rcases Nat.lt_trichotomy x.natAbs y.natAbs with a | a | a
    · rw [if_pos a, if_neg (by omega), if_pos (by omega)]; rfl
    · rw [if_neg (by omega), if_neg (by omega), if_neg (by omega), if_neg (by omega)]; rfl
    · rw [if_neg (by omega), if_pos a, if_pos (by omega)]; rfl
  · subst hx
    have hy : y = 0 := Int.eq_zero_of_sign_eq_zero hs.symm
    subst hy; rfl
  · have hy : 0 < y := by rw [Int.sign_eq_one_of_pos hx] at hs; exact Int.pos_of_sign_eq_one hs.symm
    rw [Int.sign_eq_one_of_pos hx, Int.one_mul]
    rcases Nat.lt_trichotomy x.natAbs y.natAbs with a | a | a
    · rw [if_pos a, if_pos (by omega)]
    · rw [if_neg (by omega), if_neg (by omega), if_neg (by omega), if_neg (by omega)]
    · rw [if_neg (by omega), if_pos a, if_neg (by omega), if_pos (by omega)]
theorem cmpI_bd (a b : Int) : -1 ≤ cmpI a b ∧ cmpI a b ≤ 1 := by unfold cmpI; split <;> (try split) <;> omega
theorem cmps_at {a b z : Int} (h : cmpI a b = z) (w : World) : Calls Tryd.prog 40 #[.int .i64 a, .int .i64 b] w fun e w' => e = .returned (.int .i64 z) ∧ w = w' := by
  rw [← h]; exact cmps_any a b w
def CmpPost (z : Int) (w : World) (e : Ending) (w' : World) : Prop := e = .returned (.int .i64 z) ∧ Below w.heap.size w w'
theorem compared_q {A B : Option Addr} {l m : List Nat} {c d : Nat} {w : World} (hA : Sz w A l) (hB : Sz w B m) (ol : Ok l) (om : Ok m) (nl : Norm l) (nm : Norm m) (hc : l.length ≤ maxLen) (hd : m.length ≤ maxLen) {z : Int} (hz : CmpVal l m = z) (n : Nat) :
    Calls Tryd.prog 41 #[.slice A l.length c, .slice B m.length d] (w.drewN n) fun e w'' => e = .returned (.int .i64 z) ∧ ∃ k, w'' = w.drewN k := by
  subst hz
  refine (compared_any A B l m c d (w.drewN n) hA hB ol om nl nm hc hd).mono ?_
  rintro e w' ⟨rfl, k, rfl⟩
  exact ⟨rfl, n + k, by rw [World.drewN_drewN]⟩

set_option maxRecDepth 10000 in
set_option maxHeartbeats 800000 in
theorem against_any (x y : Int) (A B : Option Addr) (l m : List Nat) (c d : Nat) (w : World) (hA : Sz w A l) (hB : Sz w B m) (ol : Ok l) (om : Ok m) (nl : Norm l) (nm : Norm m) (hv : val l = x.natAbs) (hv' : val m = y.natAbs) (hl : l.length ≤ 1000) (hm : m.length ≤ 1000) :
    Calls Tryd.prog 21 #[.agg #[.int .i64 x.sign, .slice A l.length c], .agg #[.int .i64 y.sign, .slice B m.length d]] w (CmpPost (cmpI x y) w) := by
  by_cases hz : cmpI x.sign y.sign = 0
  · have h1 := cmps_at hz
    have e1 := cmp_same_sign hz
    have hcv : CmpVal l m = cmpN x.natAbs y.natAbs := by unfold CmpVal; rw [hv, hv']
    have hq := fun (w1 : World) (h1 : Below w.heap.size w w1) => compared_q (c := c) (d := d) (hA.below h1) (hB.below h1) ol om nl nm (by unfold maxLen; omega) (by unfold maxLen; omega) hcv
    obtain ⟨r, hr⟩ : ∃ r, r = cmpI x y := ⟨_, rfl⟩
    have hr1 := cmpI_bd x y
    rw [← hr] at e1 hr1 ⊢
    generalize cmpN x.natAbs y.natAbs = cv at hq e1
    generalize x.sign = sx at h1 e1 ⊢
    generalize y.sign = sy at h1 ⊢
    have hw : IntKind.i64.wrap (sx * cv) = r := by rw [e1]; exact IntWalk.i64_in _ (by omega)
    have H1 := Lib.hid h1
    have HQ := Lib.hid hq
    clear h1 hq hr e1 hz hcv hv hv'
    go_enter Tryd.func21, Tryd.ntmps21
    go_wp2_with fail
    refine (H1.out _).mono ?_
    rintro e w1 ⟨rfl, rfl⟩
    go_wp2_with fail
    go_quiet ((go_at_call 41; exact HQ.out _ (((Below.refl _ _).alloc (Nat.le_refl _) _).alloc (by simp) _) _))
    go_wp2_with fail
    go_ret
    exact ⟨rfl, Below.trans (((Below.refl _ _).alloc (Nat.le_refl _) _).alloc (by simp) _) (Drawn.below ⟨_, rfl⟩)⟩
  · have e1 := cmp_signs x y hz
    obtain ⟨r, hr⟩ : ∃ r, r = cmpI x y := ⟨_, rfl⟩
    rw [← hr] at e1 ⊢
    have h1 := cmps_at e1
    have hr1 : (r != 0) = true := by rw [bne_iff_ne, ← e1]; exact hz
    have H1 := Lib.hid h1
    clear h1 hr e1 hz hv hv'
    go_enter Tryd.func21, Tryd.ntmps21
    go_wp2_with fail
    refine (H1.out _).mono ?_
    rintro e w1 ⟨rfl, rfl⟩
    go_wp2_with fail
    go_ret
    exact ⟨rfl, ((Below.refl _ _).alloc (Nat.le_refl _) _).alloc (by simp) _⟩
end Go.Proofs.YtogphdflgcdiiaaDoor

import Derived.Test.YtinhbmjfeabecaaDoorNum2
namespace Go.Proofs.YtinhbmjfeabecaaDoor
open Go.RowKit

theorem cmp_same_sign {x y : Int} (h : cmpI x.sign y.sign = 0) : x.sign * cmpN x.natAbs y.natAbs = cmpI x y := by
  have hs : x.sign = y.sign := by
    unfold cmpI at h
    split at h
    · cases h
    · split at h
      · cases h
      · omega
  unfold cmpN cmpI
  rcases Int.lt_trichotomy x 0 with hx | hx | hx
  · have hy : y < 0 := by rw [Int.sign_eq_neg_one_of_neg hx] at hs; exact Int.neg_of_sign_eq_neg_one hs.symm
    rw [Int.sign_eq_neg_one_of_neg hx]
    rcases Nat.lt_trichotomy x.natAbs y.natAbs with a | a | a
    · rw [if_pos a, if_neg (by omega), if_pos (by omega)]; rfl
    · rw [if_neg (by omega), if_neg (by omega), if_neg (by omega), if_neg (by omega)]; rfl
    · rw [if_neg (by omega), if_pos a, if_pos (by omega)]; rfl
  · subst hx
    have hy : y = 0 := Int.eq_zero_of_sign_eq_zero hs.symm
    subst hy; rfl
  · have hy : 0 < y := by rw [Int.sign_eq_one_of_pos hx] at hs; exact Int.pos_of_sign_eq_one hs.symm
    rw [Int.sign_eq_one_of_pos hx, Int.one_mul]
    rcases Nat.lt_trichotomy x.natAbs y.natAbs with a | a | a
    · rw [if_pos a, if_pos (by omega)]
    · rw [if_neg (by omega), if_neg (by omega), if_neg (by omega), if_neg (by omega)]
    · rw [if_neg (by omega), if_pos a, if_neg (by omega), if_pos (by omega)]
theorem cmpI_bd (a b : Int) : -1 ≤ cmpI a b ∧ cmpI a b ≤ 1 := by unfold cmpI; split <;> (try split) <;> omega
def CmpPost (z : Int) (w : World) (e : Ending) (w' : World) : Prop := e = .returned (.int .i64 z) ∧ Below w.heap.size w w'
theorem compared_q {A B : Option Addr} {l m : List Nat} {c d : Nat} {w : World} (hA : Sz w A l) (hB : Sz w B m) (ol : Ok l) (om : Ok m) (nl : Norm l) (nm : Norm m) (hc : l.length ≤ maxLen) (hd : m.length ≤ maxLen) {z : Int} (hz : CmpVal l m = z) (n : Nat) :
    Calls Tryd.prog 62 #[.slice A l.length c, .slice B m.length d] (w.drewN n) fun e w'' => e = .returned (.int .i64 z) ∧ ∃ k, w'' = w.drewN k := by
  subst hz
  refine (compared_any A B l m c d (w.drewN n) hA hB ol om nl nm hc hd).mono ?_
  rintro e w' ⟨rfl, k, rfl⟩
  exact ⟨rfl, n + k, by rw [World.drewN_drewN]⟩

end Go.Proofs.YtinhbmjfeabecaaDoor

import Derived.Test.YtogphdflgcdiiaaGreatDoorMbm
import Derived.Test.YtogphdflgcdiiaaGreatDoorMbr
import Derived.Test.YtogphdflgcdiiaaGreatDoorMbs
/-
  The reference's num of any two texts, as the document tells of signs.
-/
namespace Go.Proofs.YtogphdflgcdiiaaGreatDoor
set_option linter.unusedVariables false
set_option linter.unusedSimpArgs false
open Go.RowKit

theorem rAdd_dy {s t : ByteArray} {o p : Option Int} (w : World) (hs : Is s o) (ht : Is t p) : Calls Tryz.prog 18 #[.string s, .string t] w (OptPost (dyO 0 o p).1 (dyO 0 o p).2 w) := by
  rw [dyO_0]; exact rAdd_opt w hs ht
theorem rSub_dy {s t : ByteArray} {o p : Option Int} (w : World) (hs : Is s o) (ht : Is t p) : Calls Tryz.prog 19 #[.string s, .string t] w (OptPost (dyO 1 o p).1 (dyO 1 o p).2 w) := by
  rw [dyO_1]; exact rSub_opt w hs ht
theorem rMul_dy {s t : ByteArray} {o p : Option Int} (w : World) (hs : Is s o) (ht : Is t p) : Calls Tryz.prog 20 #[.string s, .string t] w (OptPost (dyO 2 o p).1 (dyO 2 o p).2 w) := by
  rw [dyO_2]; exact rMul_opt w hs ht
theorem rDiv_dy {s t : ByteArray} {x y : Int} (w : World) (hs : Is s (some x)) (ht : Is t (some y)) : Calls Tryz.prog 21 #[.string s, .string t] w (OptPost (dyO 3 (some x) (some y)).1 (dyO 3 (some x) (some y)).2 w) := by
  rw [hs.1, ht.1]
  by_cases hy : y = 0
  · subst hy
    rw [dyO_by0 (.inl rfl)]
    exact rDiv_zero _ _ (by rw [S_zero_list]; rfl) (rMay_S hs.2) (rMay_S ht.2) w
  · rw [dyO_3 hy]
    have hq : (fq x y).natAbs < lim := Nat.lt_of_le_of_lt (fq_abs x y hy) hs.2
    have h := rDiv_yes x y hy (figs_lim hs.2) (figs_lim ht.2) (by rw [S_zero_list]; exact decide_eq_false hy) (rMay_S hs.2) (rMay_S ht.2) w
    unfold OpPost at h
    rw [toldR_yes hq, toldE_yes hq] at h
    exact h
theorem rMod_dy {s t : ByteArray} {x y : Int} (w : World) (hs : Is s (some x)) (ht : Is t (some y)) : Calls Tryz.prog 22 #[.string s, .string t] w (OptPost (dyO 4 (some x) (some y)).1 (dyO 4 (some x) (some y)).2 w) := by
  rw [hs.1, ht.1]
  by_cases hy : y = 0
  · subst hy
    rw [dyO_by0 (.inr rfl)]
    exact rMod_zero _ _ (by rw [S_zero_list]; rfl) (rMay_S hs.2) (rMay_S ht.2) w
  · rw [dyO_4 hy]
    have hq : (fr x y).natAbs < lim := Nat.lt_of_le_of_lt (fr_abs x y hy) ht.2
    have h := rMod_yes x y hy (figs_lim hs.2) (figs_lim ht.2) (by rw [S_zero_list]; exact decide_eq_false hy) (rMay_S hs.2) (rMay_S ht.2) w
    unfold OpPost at h
    rw [toldR_yes hq, toldE_yes hq] at h
    exact h
end Go.Proofs.YtogphdflgcdiiaaGreatDoor

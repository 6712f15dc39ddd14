import Derived.Test.YtogphdflgcdiiaaDoorMbh
/-
  num's calls of any two texts, as the document tells of signs.
-/
namespace Go.Proofs.YtogphdflgcdiiaaDoor
set_option linter.unusedVariables false
set_option linter.unusedSimpArgs false
open Go.RowKit

theorem dyO_0 (o p : Option Int) : dyO 0 o p = (op (fun x y => x + y) o p, opE (fun x y => x + y) o p) := by
  cases o <;> cases p <;> simp only [dyO, dyI, tlI, op, opE, toldE] <;> split <;> rfl
theorem dyO_1 (o p : Option Int) : dyO 1 o p = (op (fun x y => x - y) o p, opE (fun x y => x - y) o p) := by
  cases o <;> cases p <;> simp only [dyO, dyI, tlI, op, opE, toldE] <;> split <;> rfl
theorem dyO_2 (o p : Option Int) : dyO 2 o p = (op (fun x y => x * y) o p, opE (fun x y => x * y) o p) := by
  cases o <;> cases p <;> simp only [dyO, dyI, tlI, op, opE, toldE] <;> split <;> rfl
theorem dyO_arg {k : Nat} {o p : Option Int} (hn : (o.isSome && p.isSome) = false) : dyO k o p = (none, 1) := by
  cases o <;> cases p <;> first | rfl | exact absurd hn (by simp)
theorem dyO_by0 {k : Nat} (hk : k = 3 ∨ k = 4) (x : Int) : dyO k (some x) (some 0) = (none, 5) := by
  rcases hk with h | h <;> subst h <;> rfl
theorem dyO_3 {x y : Int} (hy : y ≠ 0) : dyO 3 (some x) (some y) = (some (fq x y), 0) := by
  simp only [dyO, dyI]; rw [if_neg hy]
theorem dyO_4 {x y : Int} (hy : y ≠ 0) : dyO 4 (some x) (some y) = (some (fr x y), 0) := by
  simp only [dyO, dyI]; rw [if_neg hy]
theorem Add_dy {s t : ByteArray} {o p : Option Int} (w : World) (hs : Is s o) (ht : Is t p) (htab : Tab w) : Calls Tryd.prog 25 #[.string s, .string t] w (OptPost (dyO 0 o p).1 (dyO 0 o p).2 w) := by
  rw [dyO_0]; exact Add_opt w hs ht htab
theorem Sub_dy {s t : ByteArray} {o p : Option Int} (w : World) (hs : Is s o) (ht : Is t p) (htab : Tab w) : Calls Tryd.prog 26 #[.string s, .string t] w (OptPost (dyO 1 o p).1 (dyO 1 o p).2 w) := by
  rw [dyO_1]; exact Sub_opt w hs ht htab
theorem Mul_dy {s t : ByteArray} {o p : Option Int} (w : World) (hs : Is s o) (ht : Is t p) (htab : Tab w) : Calls Tryd.prog 27 #[.string s, .string t] w (OptPost (dyO 2 o p).1 (dyO 2 o p).2 w) := by
  rw [dyO_2]; exact Mul_opt w hs ht htab
theorem Div_dy {s t : ByteArray} {o p : Option Int} (w : World) (hs : Is s o) (ht : Is t p) (htab : Tab w) : Calls Tryd.prog 28 #[.string s, .string t] w (OptPost (dyO 3 o p).1 (dyO 3 o p).2 w) := by
  cases hn : (o.isSome && p.isSome)
  · rw [dyO_arg hn]
    exact Div_no s t w hs.size ht.size (two_no hs ht hn)
  · cases o <;> cases p <;> simp at hn
    rename_i x y
    rw [hs.1, ht.1]
    by_cases hy : y = 0
    · subst hy
      rw [dyO_by0 (.inl rfl)]
      exact Div_zero x w hs.2 htab
    · rw [dyO_3 hy]
      have hq : (fq x y).natAbs < lim := Nat.lt_of_le_of_lt (fq_abs x y hy) hs.2
      have h := Div_yes x y w hs.2 ht.2 hy htab
      unfold OpPost at h
      rw [toldR_yes hq, toldE_yes hq] at h
      exact h
theorem Mod_dy {s t : ByteArray} {o p : Option Int} (w : World) (hs : Is s o) (ht : Is t p) (htab : Tab w) : Calls Tryd.prog 29 #[.string s, .string t] w (OptPost (dyO 4 o p).1 (dyO 4 o p).2 w) := by
  cases hn : (o.isSome && p.isSome)
  · rw [dyO_arg hn]
    exact Mod_no s t w hs.size ht.size (two_no hs ht hn)
  · cases o <;> cases p <;> simp at hn
    rename_i x y
    rw [hs.1, ht.1]
    by_cases hy : y = 0
    · subst hy
      rw [dyO_by0 (.inr rfl)]
      exact Mod_zero x w hs.2 htab
    · rw [dyO_4 hy]
      have hq : (fr x y).natAbs < lim := Nat.lt_of_le_of_lt (fr_abs x y hy) ht.2
      have h := Mod_yes x y w hs.2 ht.2 hy htab
      unfold OpPost at h
      rw [toldR_yes hq, toldE_yes hq] at h
      exact h
end Go.Proofs.YtogphdflgcdiiaaDoor

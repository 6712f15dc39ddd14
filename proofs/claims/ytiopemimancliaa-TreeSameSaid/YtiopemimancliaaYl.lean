/-
  Whether a node may be: plainly, and of the program, at every node.
-/
import Derived.Test.YtiopemimancliaaYk
namespace Go.Proofs.Ytiopemimancliaa
open Go.RowKit

def emp (s : ByteArray) : Bool := s.toList.isEmpty
/-- May a node be? -/
noncomputable def okN (d : Nd) : Bool :=
  if d.k = 1 then numsB d.ns && (emp d.v && (emp d.a && emp d.x))
  else if 0 < d.ns.length then false
  else if d.k = 3 then emp d.x && (verbB d.v && advB d.a [39, 47, 92, 96])
  else if d.k = 4 then emp d.x && (verbB d.v && advB d.a [39, 46])
  else if !(emp d.v && emp d.a) then false
  else if d.k = 2 ∨ d.k = 5 ∨ d.k = 6 then prt d.x 2
  else if d.k = 7 then prt d.x 3
  else if d.k = 8 then emp d.x
  else false
theorem dec_emp (s : ByteArray) : decide (s.toList = (⟨#[]⟩ : ByteArray).toList) = emp s := by
  unfold emp
  rw [show (⟨#[]⟩ : ByteArray).toList = [] from by rw [str_tl]]
  cases s.toList <;> simp
theorem dec_nil (l : List ByteArray) : decide (l = []) = !decide (0 < l.length) := by
  cases l <;> simp
theorem dec_self {α : Type} [DecidableEq α] (a : α) : decide (a = a) = true := decide_eq_true rfl
theorem mayBe_is (d : Nd) (W : World) (hd : d.on W) : Calls Try.prog 25 #[d.val] W (ValEnd (.bool (okN d)) W) := by
  obtain ⟨k, v, a, x, g, m, c, ns⟩ := d
  show Calls _ _ #[.agg #[.int .i64 k, .string v, .string a, .string x, .slice g m c]] W _
  by_cases h : k < 1 ∨ 8 < k
  · rw [show okN ⟨k, v, a, x, g, m, c, ns⟩ = false by
      unfold okN
      simp only
      rw [if_neg (by omega), if_neg (show ¬ k = 3 by omega), if_neg (show ¬ k = 4 by omega), if_neg (show ¬ (k = 2 ∨ k = 5 ∨ k = 6) by omega), if_neg (show ¬ k = 7 by omega), if_neg (show ¬ k = 8 by omega)]
      repeat' split
      all_goals rfl]
    exact mayBe_none k v a x g m c W h
  have hk : k = 1 ∨ k = 2 ∨ k = 3 ∨ k = 4 ∨ k = 5 ∨ k = 6 ∨ k = 7 ∨ k = 8 := by omega
  clear h
  rcases hk with rfl | rfl | rfl | rfl | rfl | rfl | rfl | rfl
  · have e : (numsB ns && smN ⟨1, v, a, x, g, m, c, ns⟩ ⟨1, ⟨#[]⟩, ⟨#[]⟩, ⟨#[]⟩, g, m, c, ns⟩) = okN ⟨1, v, a, x, g, m, c, ns⟩ := by
      unfold okN smN
      simp only [dec_emp, dec_self, dec_nil]
      generalize emp v = p1
      generalize emp a = p2
      generalize emp x = p3
      generalize numsB ns = p4
      by_cases hl : 0 < ns.length <;> cases p1 <;> cases p2 <;> cases p3 <;> simp [hl]
    rw [← e]
    exact mayBe_lit v a x g m c ns W hd
  · have e : (prt x 2 && smN ⟨2, v, a, x, g, m, c, ns⟩ ⟨2, ⟨#[]⟩, ⟨#[]⟩, x, none, 0, 0, []⟩) = okN ⟨2, v, a, x, g, m, c, ns⟩ := by
      unfold okN smN
      simp only [dec_emp, dec_self, dec_nil]
      generalize emp v = p1
      generalize emp a = p2
      generalize emp x = p3
      generalize prt x _ = p6
      by_cases hl : 0 < ns.length <;> cases p1 <;> cases p2 <;> cases p3 <;> simp [hl]
    rw [← e]
    exact mayBe_name v a x g m c ns W hd
  · have e : ((verbB v && advB a [39, 47, 92, 96]) && smN ⟨3, v, a, x, g, m, c, ns⟩ ⟨3, v, a, ⟨#[]⟩, none, 0, 0, []⟩) = okN ⟨3, v, a, x, g, m, c, ns⟩ := by
      unfold okN smN
      simp only [dec_emp, dec_self, dec_nil]
      generalize emp v = p1
      generalize emp a = p2
      generalize emp x = p3
      generalize verbB v = p4
      generalize advB a _ = p5
      by_cases hl : 0 < ns.length <;> cases p1 <;> cases p2 <;> cases p3 <;> simp [hl]
    rw [← e]
    exact mayBe_monad v a x g m c ns W hd
  · have e : ((verbB v && advB a [39, 46]) && smN ⟨4, v, a, x, g, m, c, ns⟩ ⟨4, v, a, ⟨#[]⟩, none, 0, 0, []⟩) = okN ⟨4, v, a, x, g, m, c, ns⟩ := by
      unfold okN smN
      simp only [dec_emp, dec_self, dec_nil]
      generalize emp v = p1
      generalize emp a = p2
      generalize emp x = p3
      generalize verbB v = p4
      generalize advB a _ = p5
      by_cases hl : 0 < ns.length <;> cases p1 <;> cases p2 <;> cases p3 <;> simp [hl]
    rw [← e]
    exact mayBe_dyad v a x g m c ns W hd
  · have e : (prt x 2 && smN ⟨5, v, a, x, g, m, c, ns⟩ ⟨5, ⟨#[]⟩, ⟨#[]⟩, x, none, 0, 0, []⟩) = okN ⟨5, v, a, x, g, m, c, ns⟩ := by
      unfold okN smN
      simp only [dec_emp, dec_self, dec_nil]
      generalize emp v = p1
      generalize emp a = p2
      generalize emp x = p3
      generalize prt x _ = p6
      by_cases hl : 0 < ns.length <;> cases p1 <;> cases p2 <;> cases p3 <;> simp [hl]
    rw [← e]
    exact mayBe_assign v a x g m c ns W hd
  · have e : (prt x 2 && smN ⟨6, v, a, x, g, m, c, ns⟩ ⟨6, ⟨#[]⟩, ⟨#[]⟩, x, none, 0, 0, []⟩) = okN ⟨6, v, a, x, g, m, c, ns⟩ := by
      unfold okN smN
      simp only [dec_emp, dec_self, dec_nil]
      generalize emp v = p1
      generalize emp a = p2
      generalize emp x = p3
      generalize prt x _ = p6
      by_cases hl : 0 < ns.length <;> cases p1 <;> cases p2 <;> cases p3 <;> simp [hl]
    rw [← e]
    exact mayBe_amend v a x g m c ns W hd
  · have e : (prt x 3 && smN ⟨7, v, a, x, g, m, c, ns⟩ ⟨7, ⟨#[]⟩, ⟨#[]⟩, x, none, 0, 0, []⟩) = okN ⟨7, v, a, x, g, m, c, ns⟩ := by
      unfold okN smN
      simp only [dec_emp, dec_self, dec_nil]
      generalize emp v = p1
      generalize emp a = p2
      generalize emp x = p3
      generalize prt x _ = p6
      by_cases hl : 0 < ns.length <;> cases p1 <;> cases p2 <;> cases p3 <;> simp [hl]
    rw [← e]
    exact mayBe_define v a x g m c ns W hd
  · have e : (true && smN ⟨8, v, a, x, g, m, c, ns⟩ ⟨8, ⟨#[]⟩, ⟨#[]⟩, ⟨#[]⟩, none, 0, 0, []⟩) = okN ⟨8, v, a, x, g, m, c, ns⟩ := by
      unfold okN smN
      simp only [dec_emp, dec_self, dec_nil]
      generalize emp v = p1
      generalize emp a = p2
      generalize emp x = p3
      by_cases hl : 0 < ns.length <;> cases p1 <;> cases p2 <;> cases p3 <;> simp [hl]
    rw [← e]
    exact mayBe_index v a x g m c ns W hd
end Go.Proofs.Ytiopemimancliaa

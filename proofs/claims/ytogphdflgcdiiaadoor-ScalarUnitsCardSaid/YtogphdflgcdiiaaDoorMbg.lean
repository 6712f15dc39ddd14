import Derived.Test.YtogphdflgcdiiaaDoorMbc
namespace Go.Proofs.YtogphdflgcdiiaaDoor
set_option linter.unusedVariables false
set_option linter.unusedSimpArgs false
open Go.RowKit

theorem dig_lit {l : List UInt8} (ha : AllDig l) (hc : ∃ c r, l = c :: r ∧ c.toNat ≠ 48) : Lib.decDigits (dval l) = l := by
  have hne : l ≠ [] := by obtain ⟨c, r, rfl, _⟩ := hc; simp
  exact (decDigits_of l ha hne (.inr hc)).symm
theorem S_lit {l : List UInt8} {n : Nat} (hn : dval l = n) (ha : AllDig l) (hc : ∃ c r, l = c :: r ∧ c.toNat ≠ 48) : S (n : Int) = ⟨l.toArray⟩ := by
  rw [S_pos (n := n) (by omega) (by omega), ← hn, dig_lit ha hc]
theorem S_nlit {l : List UInt8} {n : Nat} (hn : dval l = n) (h0 : 0 < n) (ha : AllDig l) (hc : ∃ c r, l = c :: r ∧ c.toNat ≠ 48) : S (-(n : Int)) = ⟨(45 :: l).toArray⟩ := by
  rw [S_neg (n := n) (by omega) (by omega), ← hn, dig_lit ha hc]
theorem lim_big : 10000000000000000000000 ≤ lim := by unfold lim; decide +kernel
theorem toldR_yes {z : Int} (h : z.natAbs < lim) : toldR z = S z := by unfold toldR; rw [if_pos h]
theorem toldE_yes {z : Int} (h : z.natAbs < lim) : toldE z = 0 := by unfold toldE; rw [if_pos h]
def TrueEnd (w : World) (e : Ending) (w' : World) : Prop := e = .returned (.bool true) ∧ Below w.heap.size w w'
def MayIs (a : ByteArray) (v : Bool) : Prop := ∀ w, Calls Tryd.prog 9 #[.string a] w (MayPost v w)
def CmpIs (a b : ByteArray) (z : Int) : Prop := ∀ w, Calls Tryd.prog 11 #[.string a, .string b] w (CmpPost z w)
def SubIs (a b d : ByteArray) (ec : Int) : Prop := ∀ w, Tab w → Calls Tryd.prog 26 #[.string a, .string b] w fun e w' => e = .returned (.tuple #[.string d, .int .i64 ec]) ∧ Below w.heap.size w w'
def SignIs (a : ByteArray) (z : Int) : Prop := ∀ w, Calls Tryd.prog 44 #[.string a] w (CmpPost z w)
end Go.Proofs.YtogphdflgcdiiaaDoor

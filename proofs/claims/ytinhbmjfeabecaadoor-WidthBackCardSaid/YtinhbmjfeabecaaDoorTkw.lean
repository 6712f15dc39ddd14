import Derived.Test.YtinhbmjfeabecaaDoorTk
namespace Go.Proofs.YtinhbmjfeabecaaDoor
open Go.RowKit

theorem two_int (a b v : Nat) : (((a * 1000000000 + b) / v : Nat) : Int) = ((a : Int) * 1000000000 + (b : Int)) / (v : Int) := quo_int a b v

def TkPost (w : World) (g o N n : Nat) (F : Nat → Nat) (V : Nat) (e : Ending) (w' : World) : Prop :=
  ∃ F', e = .returned (.int .u32 (vf F o (n + 2) / V : Nat)) ∧ (∀ j, j < o ∨ o + (n + 2) ≤ j → F' j = F j) ∧ (∀ j, o ≤ j → j < o + (n + 2) → F' j < 1000000000) ∧ vf F' o (n + 2) = vf F o (n + 2) % V ∧ Rw w' g N F' ∧ Only g w w'

theorem lower_len (g o n ca N : Nat) (F : Nat → Nat) (B : Option Addr) (m : List Nat) (ml cb : Nat) (q : Nat) (w : World) (hlen : m.length = ml) (hR : Rw w g N F) (hF : ∀ j, o ≤ j → j < o + n → F j < 1000000000) (hn : o + n ≤ N) (hN : N ≤ maxLen)
    (hB : Sz w B m) (hO : Off B g) (om : Ok m) (hm : ml ≤ maxLen) (hq : q ≤ 2000000000) :
    Calls Tryd.prog 87 #[.slice (some ⟨g, o, none⟩) n ca, .slice B ml cb, .int .u64 q] w fun e w' => ∃ c F', e = .returned (.bool (decide (0 < c))) ∧ LowerInv F m q o n c F' ∧ Rw w' g N F' ∧ Only g w w' := by
  subst hlen; exact lower_any g o n ca N F B m cb q w hR hF hn hN hB hO om hm hq
theorem raise_len (g o n ca N : Nat) (F : Nat → Nat) (B : Option Addr) (m : List Nat) (ml cb : Nat) (w : World) (hlen : m.length = ml) (hR : Rw w g N F) (hF : ∀ j, o ≤ j → j < o + n → F j < 1000000000) (hn : o + n ≤ N) (hN : N ≤ maxLen)
    (hB : Sz w B m) (hO : Off B g) (om : Ok m) (hm : ml ≤ maxLen) :
    Calls Tryd.prog 84 #[.slice (some ⟨g, o, none⟩) n ca, .slice B ml cb] w fun e w' => ∃ c F', e = .returned (.bool (decide (0 < c))) ∧ RaiseInv F m o n c F' ∧ Rw w' g N F' ∧ Only g w w' := by
  subst hlen; exact raise_any g o n ca N F B m cb w hR hF hn hN hB hO om hm
structure TkFacts (A V P q : Nat) : Prop where
  lo : A < (q + 1) * V
  hi : q * V ≤ A + P
  lt : A < P
  pos : 0 < P
  few : A < 1000000000 * V
end Go.Proofs.YtinhbmjfeabecaaDoor

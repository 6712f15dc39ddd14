import Derived.Test.YtogphdflgcdiiaaDoorProg
import Derived.Test.YtogphdflgcdiiaaDoorMaa
import Derived.WalkKit
import Derived.WalkSpells
import Derived.WalkLawsBesides
import Derived.Lib.Hide
namespace Go.Proofs.YtogphdflgcdiiaaDoor
set_option linter.unusedVariables false
set_option linter.unusedSimpArgs false
open Go.RowKit

/-- A slice of parts that is only read: nil, or at an address whose cells are the parts. -/
def Sz (w : World) (A : Option Addr) (l : List Nat) : Prop :=
  (A = none ∧ l = []) ∨ ∃ b o, A = some ⟨b, o, none⟩ ∧ b < w.heap.size ∧ ∀ i (h : i < l.length), w.cell? ⟨b, o + i, none⟩ = some (.int .u32 l[i])

theorem Sz.at_ {w : World} {A : Option Addr} {l : List Nat} (h : Sz w A l) (hne : l ≠ []) :
    ∃ b o, A = some ⟨b, o, none⟩ ∧ b < w.heap.size ∧ ∀ i (h : i < l.length), w.cell? ⟨b, o + i, none⟩ = some (.int .u32 l[i]) := by
  rcases h with ⟨_, e⟩ | h
  · exact absurd e hne
  · exact h
theorem Sz.below {w w' : World} {A : Option Addr} {l : List Nat} (h : Sz w A l) (hb : Below w.heap.size w w') : Sz w' A l := by
  rcases h with h | ⟨b, o, e, hlt, hc⟩
  · exact .inl h
  · exact .inr ⟨b, o, e, Nat.lt_of_lt_of_le hlt hb.size, fun i hi => (hb.cell (p := ⟨b, o + i, none⟩) hlt).trans (hc i hi)⟩

theorem ret_slice {A : Option Addr} {n m c : Nat} (h : n = m) : Ending.returned (.slice A n c) = .returned (.slice A m c) := by rw [h]
theorem ret_int {k : IntKind} {a b : Int} (h : a = b) : Ending.returned (.int k a) = .returned (.int k b) := by rw [h]
theorem ret_str {a b : ByteArray} (h : a = b) : Ending.returned (.string a) = .returned (.string b) := by rw [h]
theorem trim_take_succ {l : List Nat} {m : Nat} (h : m < l.length) (h0 : l[m] = 0) : trim (l.take (m + 1)) = trim (l.take m) := by
  rw [List.take_succ_eq_append_getElem h, h0, trim_snoc_zero]
theorem trim_take_stop {l : List Nat} {m : Nat} (h : m < l.length) (h0 : l[m] ≠ 0) : (trim (l.take (m + 1))).length = m + 1 := by
  rw [List.take_succ_eq_append_getElem h, trim_snoc h0]
  simp; omega

set_option maxHeartbeats 400000 in
theorem trimmed_any (A : Option Addr) (l : List Nat) (c : Nat) (w : World) (hs : Sz w A l) (hc : l.length ≤ c) (hm : c ≤ maxLen) :
    Calls Tryd.prog 62 #[.slice A l.length c] w fun e w' => e = .returned (.slice A (trim l).length c) ∧ w = w' := by
  unfold maxLen at hm
  rcases hs with ⟨rfl, rfl⟩ | ⟨b, o, rfl, hlt, hcell⟩
  · go_enter Tryd.func62, Tryd.ntmps62
    go_wp2
    go_loop [0] (fun v => v = .slice none 0 c) (fun _ => 0)
    case atStart => rfl
    case round =>
      subst hrel
      go_wp2
      go_ret
      exact ⟨rfl, rfl⟩
  · go_enter Tryd.func62, Tryd.ntmps62
    go_wp2
    go_loop [0] (fun v => ∃ m : Nat, m ≤ l.length ∧ v = .slice (some ⟨b, o, none⟩) m c ∧ trim (l.take m) = trim l) (fun v => match v with | .slice _ n _ => n | _ => 0)
    case atStart => exact ⟨l.length, Nat.le_refl _, rfl, by simp⟩
    case round =>
      obtain ⟨m, hml, rfl, hE⟩ := hrel
      have HE := Lib.hid hE
      clear hE
      rcases m with _ | m
      · go_wp2
        go_ret
        have h1 := HE.out
        simp [trim] at h1
        exact ⟨ret_slice (by rw [h1]; rfl), rfl⟩
      · have hcm := hcell m (by omega)
        by_cases h0 : l[m] = 0
        · rw [h0] at hcm
          go_wp2
          go_round
          case rel => exact ⟨m, by omega, rfl, by rw [← trim_take_succ (by omega) h0]; exact HE.out⟩
          case measure => simp
        · have hne : (((l[m] : Nat) : Int) == 0) = false := by simp; omega
          go_wp2
          go_ret
          exact ⟨ret_slice (by rw [← HE.out, trim_take_stop (by omega) h0]), rfl⟩
end Go.Proofs.YtogphdflgcdiiaaDoor

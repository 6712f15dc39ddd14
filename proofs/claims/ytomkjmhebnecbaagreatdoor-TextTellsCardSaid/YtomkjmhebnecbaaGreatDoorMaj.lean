import Derived.Test.YtomkjmhebnecbaaGreatDoorMai
/-
  The document's example at the head of all statements of layer 4.
-/
namespace Go.Proofs.YtomkjmhebnecbaaGreatDoor
set_option linter.unusedVariables false
set_option linter.unusedSimpArgs false
open Go.RowKit

def six : List ByteArray := [⟨#[49]⟩, ⟨#[50]⟩, ⟨#[51]⟩, ⟨#[52]⟩, ⟨#[53]⟩, ⟨#[54]⟩]
theorem six_is (j : Nat) (hj : j < 6) : ∃ x : Int, six.getD j ByteArray.empty = S x ∧ I64 x ∧ leastW x = 8 := by
  have h : ∀ (c : UInt8) (n : Nat), dval [c] = n → 48 ≤ c.toNat ∧ c.toNat ≤ 57 → c.toNat ≠ 48 → S (n : Int) = ⟨#[c]⟩ := fun c n hn hd hz => S_lit (l := [c]) hn (by intro x hx; rw [List.mem_singleton] at hx; rw [hx]; exact hd) ⟨c, [], rfl, hz⟩
  rcases j with _ | _ | _ | _ | _ | _ | j
  · exact ⟨1, (h 49 1 rfl (by decide) (by decide)).symm, by decide, by decide⟩
  · exact ⟨2, (h 50 2 rfl (by decide) (by decide)).symm, by decide, by decide⟩
  · exact ⟨3, (h 51 3 rfl (by decide) (by decide)).symm, by decide, by decide⟩
  · exact ⟨4, (h 52 4 rfl (by decide) (by decide)).symm, by decide, by decide⟩
  · exact ⟨5, (h 53 5 rfl (by decide) (by decide)).symm, by decide, by decide⟩
  · exact ⟨6, (h 54 6 rfl (by decide) (by decide)).symm, by decide, by decide⟩
  · omega
theorem six_small : ∀ j, j < 6 → (six.getD j ByteArray.empty).size ≤ maxLen := by
  intro j hj
  rcases j with _ | _ | _ | _ | _ | _ | j
  all_goals first | omega | (unfold maxLen; decide)
theorem six_may : mayV [2, 3] six = true := by decide
theorem six_part : part six 3 1 = [⟨#[52]⟩, ⟨#[53]⟩, ⟨#[54]⟩] := rfl
theorem wmax_eight : wmax (fun _ => 8) 6 = 8 := by decide
theorem alloc2 (W : World) (o1 o2 : Obj) : ((W.alloc o1).alloc o2).heap[W.heap.size]? = some o1 ∧ ((W.alloc o1).alloc o2).heap[W.heap.size + 1]? = some o2 ∧ Below W.heap.size W ((W.alloc o1).alloc o2) := by
  have s1 : (W.alloc o1).heap.size = W.heap.size + 1 := by simp
  have h1 := heap_alloc_new W o1
  have h2 := heap_alloc_new (W.alloc o1) o2
  rw [s1] at h2
  exact ⟨(Below.heap_alloc _ o2 _ (by omega)).trans h1, h2, ((Below.refl _ _).alloc (Nat.le_refl _) _).alloc (by omega) _⟩
theorem alloc3 (W : World) (o1 o2 o3 : Obj) : (((W.alloc o1).alloc o2).alloc o3).heap[W.heap.size]? = some o1 ∧ (((W.alloc o1).alloc o2).alloc o3).heap[W.heap.size + 1]? = some o2 ∧ (((W.alloc o1).alloc o2).alloc o3).heap[W.heap.size + 1 + 1]? = some o3 ∧ Below W.heap.size W (((W.alloc o1).alloc o2).alloc o3) := by
  have s1 : (W.alloc o1).heap.size = W.heap.size + 1 := by simp
  have s2 : ((W.alloc o1).alloc o2).heap.size = W.heap.size + 1 + 1 := by simp
  have h1 := heap_alloc_new W o1
  have h2 := heap_alloc_new (W.alloc o1) o2
  have h3 := heap_alloc_new ((W.alloc o1).alloc o2) o3
  rw [s1] at h2
  rw [s2] at h3
  exact ⟨(Below.heap_alloc _ o3 _ (by omega)).trans ((Below.heap_alloc _ o2 _ (by omega)).trans h1), (Below.heap_alloc _ o3 _ (by omega)).trans h2, h3, (((Below.refl _ _).alloc (Nat.le_refl _) _).alloc (by omega) _).alloc (by omega) _⟩
end Go.Proofs.YtomkjmhebnecbaaGreatDoor

/-
  The document's example at the head of all statements of layer 4.
-/
import Derived.Test.YtpnedgldnndnjaaDoorVd
namespace Go.Proofs.YtpnedgldnndnjaaDoor
open Go.RowKit

def six : List ByteArray := [⟨#[49]⟩, ⟨#[50]⟩, ⟨#[51]⟩, ⟨#[52]⟩, ⟨#[53]⟩, ⟨#[54]⟩]
theorem six_is (j : Nat) (hj : j < 6) : ∃ x : Int, six.getD j ByteArray.empty = S x ∧ I64 x ∧ leastW x = 8 := by
  have h : ∀ (c : UInt8) (n : Nat), dval [c] = n → 48 ≤ c.toNat ∧ c.toNat ≤ 57 → c.toNat ≠ 48 → S (n : Int) = ⟨#[c]⟩ := fun c n hn hd hz => S_lit (l := [c]) hn (by intro x hx; rw [List.mem_singleton] at hx; rw [hx]; exact hd) ⟨c, [], rfl, hz⟩
  rcases j with _ | _ | _ | _ | _ | _ | j
  · exact ⟨1, (h 49 1 rfl (by decide) (by decide)).symm, by decide, by decide⟩
  · exact ⟨2, (h 50 2 rfl (by decide) (by decide)).symm, by decide, by decide⟩
  · exact ⟨3, (h 51 3 rfl (by decide) (by decide)).symm, by decide, by decide⟩
  · exact ⟨4, (h 52 4 rfl (by decide) (by decide)).symm, by decide, by decide⟩
  · exact ⟨5, (h 53 5 rfl (by decide) (by decide)).symm, by decide, by decide⟩
  · exact ⟨6, (h 54 6 rfl (by decide) (by decide)).symm, by decide, by decide⟩
  · omega
theorem six_small : ∀ j, j < 6 → (six.getD j ByteArray.empty).size ≤ maxLen := by
  intro j hj
  rcases j with _ | _ | _ | _ | _ | _ | j
  all_goals first | omega | (unfold maxLen; decide)
theorem six_may : mayV [2, 3] six = true := by decide
theorem six_part : part six 3 1 = [⟨#[52]⟩, ⟨#[53]⟩, ⟨#[54]⟩] := rfl
theorem wmax_eight : wmax (fun _ => 8) 6 = 8 := by decide
theorem alloc2 (W : World) (o1 o2 : Obj) : ((W.alloc o1).alloc o2).heap[W.heap.size]? = some o1 ∧ ((W.alloc o1).alloc o2).heap[W.heap.size + 1]? = some o2 ∧ Below W.heap.size W ((W.alloc o1).alloc o2) := by
  have s1 : (W.alloc o1).heap.size = W.heap.size + 1 := by simp
  have h1 := heap_alloc_new W o1
  have h2 := heap_alloc_new (W.alloc o1) o2
  rw [s1] at h2
  exact ⟨(Below.heap_alloc _ o2 _ (by omega)).trans h1, h2, ((Below.refl _ _).alloc (Nat.le_refl _) _).alloc (by omega) _⟩
theorem alloc3 (W : World) (o1 o2 o3 : Obj) : (((W.alloc o1).alloc o2).alloc o3).heap[W.heap.size]? = some o1 ∧ (((W.alloc o1).alloc o2).alloc o3).heap[W.heap.size + 1]? = some o2 ∧ (((W.alloc o1).alloc o2).alloc o3).heap[W.heap.size + 1 + 1]? = some o3 ∧ Below W.heap.size W (((W.alloc o1).alloc o2).alloc o3) := by
  have s1 : (W.alloc o1).heap.size = W.heap.size + 1 := by simp
  have s2 : ((W.alloc o1).alloc o2).heap.size = W.heap.size + 1 + 1 := by simp
  have h1 := heap_alloc_new W o1
  have h2 := heap_alloc_new (W.alloc o1) o2
  have h3 := heap_alloc_new ((W.alloc o1).alloc o2) o3
  rw [s1] at h2
  rw [s2] at h3
  exact ⟨(Below.heap_alloc _ o3 _ (by omega)).trans ((Below.heap_alloc _ o2 _ (by omega)).trans h1), (Below.heap_alloc _ o3 _ (by omega)).trans h2, h3, (((Below.refl _ _).alloc (Nat.le_refl _) _).alloc (by omega) _).alloc (by omega) _⟩
set_option maxRecDepth 10000 in
set_option maxHeartbeats 800000 in
theorem shown_is (W : World) (ht : WT W) : Calls Tryd.prog 7 #[] W (TrueEnd W) := by
  have KI := Lib.hid (fun w (hb : Below W.heap.size W w) a b (h : Vl w a 2 b 6 [2, 3] six) => Item_yes (c := 2) (d := 6) w h ⟨by omega, by unfold maxLen; omega, by omega, by unfold maxLen; omega⟩ (by omega) (by omega) six_small six_may 2 3 1 rfl (by omega) rfl)
  have KM := fun w (hb : Below W.heap.size W w) a b (h : Vl w a 2 b 6 [2, 3] six) => VMay_is (c := 2) (d := 6) w h six_small
  rw [six_may] at KM
  have KY := Lib.hid (fun w (hb : Below W.heap.size W w) a b (h : Vl w a 2 b 6 [2, 3] six) => VMany_is (c := 2) (d := 6) w h (by omega) (by omega) (by unfold maxLen; omega))
  have KW := fun w (hb : Below W.heap.size W w) a b (h : Vl w a 2 b 6 [2, 3] six) => Width_is (c := 2) (d := 6) w h (ht.below hb) (fun _ => 8) (fun j hj w2 hw2 => by obtain ⟨x, e, hx, hl⟩ := six_is j hj; rw [e, ← hl]; exact Of_yes (S x) x hx.1 hx.2 w2 (Int_ok x hx.1 hx.2 w2) hw2.wid)
  rw [wmax_eight] at KW
  replace KM := Lib.hid KM
  replace KW := Lib.hid KW
  go_enter Tryd.func7, Tryd.ntmps7
  go_wp2_with fail
  obtain ⟨h1, h2, h3, hb0⟩ := alloc3 W (.cells #[.int .i64 2, .int .i64 3] 3) (.cells #[.string ⟨#[49]⟩, .string ⟨#[50]⟩, .string ⟨#[51]⟩, .string ⟨#[52]⟩, .string ⟨#[53]⟩, .string ⟨#[54]⟩] 9) (.cells #[.slice (some ⟨W.heap.size, 0, none⟩) 2 2, .slice (some ⟨W.heap.size + 1, 0, none⟩) 6 6] 25)
  have hV : Vl _ (some ⟨W.heap.size, 0, none⟩) 2 (some ⟨W.heap.size + 1, 0, none⟩) 6 [2, 3] six := ⟨Sl.row (l := [2, 3]) h1, St.row (l := six) h2, by omega⟩
  have hA : Bx _ (W.heap.size + 1 + 1) (some ⟨W.heap.size, 0, none⟩) 2 2 (some ⟨W.heap.size + 1, 0, none⟩) 6 6 := h3
  clear h1 h2 h3
  refine (KI.out _ hb0 _ _ hV).mono ?_
  rintro x w1 ⟨a', n', c', b', m', d', rfl, hI, hn', hb1⟩
  have hV1 := hV.below hb1
  have hA1 := hA.below hb1 hA.lt
  have hb2 := hb0.trans (hb1.mono hb0.size)
  clear hV hA hb0 hb1
  have x0 := (hA1.alloc (.cells #[.slice a' n' c', .slice b' m' d'] 25)).c0
  have x1 := (hA1.alloc (.cells #[.slice a' n' c', .slice b' m' d'] 25)).c1
  go_wp2_with fail
  have hA2 := hA1.alloc (.cells #[.slice a' n' c', .slice b' m' d'] 25)
  have hX2 := Bx.new w1 a' n' c' b' m' d'
  have hr : Below w1.heap.size w1 (w1.alloc (.cells #[.slice a' n' c', .slice b' m' d'] 25)) := (Below.refl _ _).alloc (Nat.le_refl _) _
  have hV2 := hV1.below hr
  have hI2 := hI.below hr
  have hb3 := hb2.trans (hr.mono hb2.size)
  clear hA1 hV1 hI hr hb2 x0 x1
  generalize w1.alloc (.cells #[.slice a' n' c', .slice b' m' d'] 25) = w2 at *
  refine (KM.out _ hb3 _ _ hV2).mono ?_
  rintro x w3 ⟨rfl, hb⟩
  have hA3 := hA2.below hb hA2.lt
  have hX3 := hX2.below hb hX2.lt
  have hV3 := hV2.below hb
  have hI3 := hI2.below hb
  have hb4 := hb3.trans (hb.mono hb3.size)
  clear hA2 hX2 hV2 hI2 hb3 hb
  have x0 := hA3.c0
  have x1 := hA3.c1
  go_wp2_with fail
  refine (KY.out _ hb4 _ _ hV3).mono ?_
  rintro x w4 ⟨rfl, hb⟩
  rw [show itV [2, 3] = 2 from rfl]
  clear x0 x1
  have hA4 := hA3.below hb hA3.lt
  have hX4 := hX3.below hb hX3.lt
  have hV4 := hV3.below hb
  have hI4 := hI3.below hb
  have hb5 := hb4.trans (hb.mono hb4.size)
  clear hA3 hX3 hV3 hI3 hb4 hb
  have x0 := hX4.c0
  have x1 := hX4.c1
  go_wp2_with fail
  obtain ⟨h1, h2, hb⟩ := alloc2 w4 (.cells #[.int .i64 3] 3) (.cells #[.string ⟨#[52]⟩, .string ⟨#[53]⟩, .string ⟨#[54]⟩] 9)
  obtain rfl : 1 = n' := hI4.s.1
  obtain rfl : 3 = m' := hI4.t.1
  have hL : Vl _ (some ⟨w4.heap.size, 0, none⟩) 1 (some ⟨w4.heap.size + 1, 0, none⟩) 3 [3] (part six 3 1) := ⟨Sl.row (l := [3]) h1, St.row (l := part six 3 1) h2, by omega⟩
  have hA5 := hA4.below hb hA4.lt
  have hV5 := hV4.below hb
  have hI5 := hI4.below hb
  have hb6 := hb5.trans (hb.mono hb5.size)
  clear hA4 hX4 hV4 hI4 hb5 hb x0 x1 h1 h2
  refine (rVSame_yes _ hI5 hL (by omega)).mono ?_
  rintro x w5 ⟨rfl, hb⟩
  have hA6 := hA5.below hb hA5.lt
  have hV6 := hV5.below hb
  have hb7 := hb6.trans (hb.mono hb6.size)
  clear hA5 hV5 hI5 hb6 hb hL
  have x0 := hA6.c0
  have x1 := hA6.c1
  go_wp2_with fail
  refine (KW.out _ hb7 _ _ hV6).mono ?_
  rintro x w6 ⟨rfl, hb⟩
  go_wp2_with fail
  go_ret
  exact ⟨rfl, hb7.trans (hb.mono hb7.size)⟩
end Go.Proofs.YtpnedgldnndnjaaDoor

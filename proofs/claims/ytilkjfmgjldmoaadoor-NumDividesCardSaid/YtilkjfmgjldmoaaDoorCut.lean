import Derived.Test.YtilkjfmgjldmoaaDoorClw
namespace Go.Proofs.YtilkjfmgjldmoaaDoor
open Go.RowKit

theorem SzN.nil (w : World) (c : Nat) : SzN w (.slice none 0 c) 0 := ⟨none, [], c, rfl, .inl ⟨rfl, rfl⟩, ok_nil, norm_nil, rfl⟩
theorem SzN.below {w w' : World} {v : Value} {x : Nat} (h : SzN w v x) (hb : Below w.heap.size w w') : SzN w' v x := by
  obtain ⟨A, l, c, e, h1, h2⟩ := h
  exact ⟨A, l, c, e, h1.below hb, h2⟩
theorem SzN.drawn {w w' : World} {v : Value} {x : Nat} (h : SzN w v x) (hb : Drawn w w') : SzN w' v x := by obtain ⟨n, rfl⟩ := hb; exact h
theorem Drawn.below {B : Nat} {w w' : World} (h : Drawn w w') : Below B w w' := by obtain ⟨n, rfl⟩ := h; exact ⟨rfl, rfl, rfl, Nat.le_refl _, fun _ _ => rfl⟩
theorem Rw.one (w : World) (v : Nat) : Rw (w.alloc (.cells #[.int .u32 (v : Int)] 67)) w.heap.size 1 (fun _ => v) :=
  World.rowIs_alloc w #[.int .u32 (v : Int)] _ _ fun i hi => by
    have : i = 0 := by simp at hi; exact hi
    subst this; rfl

set_option maxRecDepth 10000 in
set_option maxHeartbeats 1600000 in
theorem cut_any (A B : Option Addr) (l m : List Nat) (c d : Nat) (w : World) (hA : Sz w A l) (hB : Sz w B m) (ol : Ok l) (om : Ok m) (nl : Norm l) (nm : Norm m) (hl : l.length ≤ 900) (hm : m.length ≤ 900) (hne : m ≠ []) :
    Calls Tryd.prog 64 #[.slice A l.length c, .slice B m.length d] w (ClPost (val l) (val m) w) := by
  have hcmp := compared_any A B l m c d w hA hB ol om nl nm (by unfold maxLen; omega) (by unfold maxLen; omega)
  have hV : 0 < val m := Nat.pos_of_ne_zero fun h => hne ((norm_val_zero nm).1 h)
  by_cases hlt : val l < val m
  · have hz : CmpVal l m = -1 := cmpN_lt hlt
    rw [hz] at hcmp
    have HC := Lib.hid hcmp
    clear hcmp hz
    go_enter Tryd.func64, Tryd.ntmps64
    go_wp2_with fail
    refine HC.out.mono ?_
    rintro e w1 ⟨rfl, hD⟩
    go_wp2_with fail
    go_ret2
    exact ⟨_, _, rfl, (SzN.nil _ _).conv (Nat.div_eq_of_lt hlt).symm, ⟨A, l, c, rfl, hA.drawn hD, ol, nl, (Nat.mod_eq_of_lt hlt).symm⟩, hD.below⟩
  · have hz : ¬ (CmpVal l m < 0) := by
      unfold CmpVal cmpN; split
      · omega
      · split <;> omega
    obtain ⟨z, hzz⟩ : ∃ z, z = CmpVal l m := ⟨_, rfl⟩
    rw [← hzz] at hcmp hz
    have HC := Lib.hid hcmp
    clear hcmp hzz
    have hml : m.length ≤ l.length := by
      rcases Nat.lt_or_ge l.length m.length with h | h
      · exact absurd (norm_len_lt ol nm h) hlt
      · exact h
    by_cases h2 : 1 < m.length
    · obtain ⟨n, hn⟩ : ∃ n, m.length = n + 1 := ⟨m.length - 1, by omega⟩
      have hcl := fun (w1 : World) (hA1 : Sz w1 A l) (hB1 : Sz w1 B m) => cutLong_any A B l m l.length n c d w1 hA1 hB1 ol om nm rfl hn hl (by omega)
      rw [← hn] at hcl
      have HCL := Lib.hid hcl
      clear hcl hn
      go_enter Tryd.func64, Tryd.ntmps64
      go_wp2_with fail
      refine HC.out.mono ?_
      rintro e w1 ⟨rfl, hD⟩
      go_wp2_with fail
      refine (HCL.out _ (hA.drawn hD) (hB.drawn hD)).mono ?_
      rintro e w2 ⟨v, u, rfl, hv, hu, hb⟩
      go_wp2_with fail
      go_ret2
      exact ⟨_, _, rfl, hv, hu, (hD.below (B := w.heap.size)).trans (hb.mono (by rw [hD.heap]; exact Nat.le_refl _))⟩
    · have h1 : m.length = 1 := by
        have : 0 < m.length := List.length_pos_iff.2 hne
        omega
      obtain ⟨p, rfl⟩ := List.length_eq_one_iff.1 h1
      obtain ⟨b, o, rfl, hblt, hcell⟩ := hB.at_ hne
      have hp0 : 0 < p := by simpa [val] using hV
      have hpB : p < 1000000000 := om p (by simp)
      have hcp : ∀ w1, Drawn w w1 → w1.cell? ⟨b, o, none⟩ = some (.int .u32 (p : Int)) := fun w1 h => (h.cell _).trans (by simpa using hcell 0 (by simp))
      have HCP := Lib.hid hcp
      clear hcp hcell h2 hV hne h1
      have hlen1 : [p].length = 1 := rfl
      go_enter Tryd.func64, Tryd.ntmps64
      go_wp2_with fail
      refine HC.out.mono ?_
      rintro e w1 ⟨rfl, hD⟩
      have hc1 := HCP.out w1 hD
      go_wp2_with fail
      refine (cutByPart_any A l c p _ (hA.drawn hD) ol (by omega) hp0 hpB).mono ?_
      rintro e w2 ⟨v, rfl, hv, hb⟩
      go_wp2_with fail
      have hR := Rw.one w2 (val l % p)
      have hlt2 : ∀ j, 0 ≤ j → j < 0 + 1 → (fun _ : Nat => val l % p) j < 1000000000 := fun j _ _ => Nat.lt_trans (Nat.mod_lt _ hp0) hpB
      refine (trimmed_row w2.heap.size 0 1 1 1 _ _ hR (by omega) hlt2 (by omega) (by unfold maxLen; omega)).mono ?_
      rintro e w3 ⟨rfl, rfl⟩
      go_wp2_with fail
      go_ret2
      have hb2 : Below w.heap.size w w2 := (hD.below (B := w.heap.size)).trans (hb.mono (by rw [hD.heap]; exact Nat.le_refl _))
      have ev : val [p] = p := by simp [val]
      rw [ClPost, ev]
      exact ⟨_, _, rfl, hv.below ((Below.refl _ _).alloc (Nat.le_refl _) _), (SzN.of_row hR 0 1 1 (by omega) hlt2).conv (by simp [vf]), hb2.alloc hb2.size _⟩
end Go.Proofs.YtilkjfmgjldmoaaDoor

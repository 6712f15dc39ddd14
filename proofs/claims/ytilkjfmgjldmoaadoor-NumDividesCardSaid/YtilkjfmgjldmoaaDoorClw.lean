import Derived.Test.YtilkjfmgjldmoaaDoorCl
namespace Go.Proofs.YtilkjfmgjldmoaaDoor
open Go.RowKit

theorem Rw.only {w w' : World} {g g' N : Nat} {F : Nat → Nat} (h : Rw w g N F) (ho : Only g' w w') (hne : g ≠ g') : Rw w' g N F :=
  h.of_block (ho.block g h.lt (by intro e; injection e with e; exact hne e))
theorem Rw.below {w w' : World} {g N : Nat} {F : Nat → Nat} (h : Rw w g N F) {B : Nat} (hb : Below B w w') (hg : g < B) : Rw w' g N F := h.of_block (hb.block g hg)

/-- size{s}: one part in a new block. -/
theorem sz_one {w : World} {g s : Nat} (hc : w.cell? ⟨g, 0, none⟩ = some (.int .u32 (s : Int))) (hg : g < w.heap.size) : Sz w (some ⟨g, 0, none⟩) [s] :=
  .inr ⟨g, 0, rfl, hg, fun i hi => by
    have : i = 0 := by simp at hi; exact hi
    subst this; exact hc⟩
theorem mul_part (A : Option Addr) (l : List Nat) (L c s g : Nat) (w : World) (hL : l.length = L) (hA : Sz w A l) (ol : Ok l) (hl : L ≤ 1000) (hs : s < 1000000000) (hc : w.cell? ⟨g, 0, none⟩ = some (.int .u32 (s : Int))) (hg : g < w.heap.size) :
    Calls Tryd.prog 62 #[.slice A L c, .slice (some ⟨g, 0, none⟩) 1 1] w fun e w' => ∃ A' l' c', e = .returned (.slice A' l'.length c') ∧ Sz w' A' l' ∧ Ok l' ∧ Norm l' ∧ val l' = val l * s ∧ Below w.heap.size w w' := by
  subst hL
  refine (multiplied_any A (some ⟨g, 0, none⟩) l [s] c 1 w hA (sz_one hc hg) ol (by simpa [Ok] using hs) hl (by simp)).mono ?_
  rintro e w' ⟨v, rfl, ⟨A', l', c', rfl, h1, h2, h3, h4⟩, hb⟩
  exact ⟨A', l', c', rfl, h1, h2, h3, by rw [h4]; simp [val], hb⟩
theorem mul_part_len (A : Option Addr) (l : List Nat) (L c s g K : Nat) (w : World) (hL : l.length = L) (hA : Sz w A l) (ol : Ok l) (hl : L ≤ 1000) (hs : s < 1000000000) (hc : w.cell? ⟨g, 0, none⟩ = some (.int .u32 (s : Int))) (hg : g < w.heap.size)
    (h1 : 1000000000 ^ K ≤ val l * s) (h2 : val l * s < 1000000000 ^ (K + 1)) :
    Calls Tryd.prog 62 #[.slice A L c, .slice (some ⟨g, 0, none⟩) 1 1] w fun e w' => ∃ A' l' c', e = .returned (.slice A' (K + 1) c') ∧ l'.length = K + 1 ∧ Sz w' A' l' ∧ Ok l' ∧ val l' = val l * s ∧ Below w.heap.size w w' := by
  refine (mul_part A l L c s g w hL hA ol hl hs hc hg).mono ?_
  rintro e w' ⟨A', l', c', rfl, h3, h4, h5, h6, hb⟩
  have := len_of_bounds h4 h5 (by rw [h6]; exact h1) (by rw [h6]; exact h2)
  exact ⟨A', l', c', by rw [this], this, h3, h4, h6, hb⟩

theorem cell_new1 (w : World) (v : Value) : (w.alloc (.cells #[v] 67)).cell? ⟨w.heap.size, 0, none⟩ = some v := cell_of_one (heap_alloc_new w _)
theorem cell_new1' (w : World) (g : Nat) (v : Value) (hg : g = w.heap.size) : (w.alloc (.cells #[v] 67)).cell? ⟨g, 0, none⟩ = some v := by subst hg; exact cell_new1 w v
theorem Rw.sz_trim {w : World} {g N : Nat} {F : Nat → Nat} (h : Rw w g N F) (o n : Nat) (hn : o + n ≤ N) (hF : ∀ j, o ≤ j → j < o + n → F j < 1000000000) : Sz w (some ⟨g, o, none⟩) (trim (lst F o n)) := by
  obtain ⟨A, l, c, e, h1, h2, h3, h4⟩ := SzN.of_row h o n 0 hn hF
  have h5 := trim_le (lst F o n)
  refine .inr ⟨g, o, rfl, h.lt, fun i hi => ?_⟩
  rw [lst_length] at h5
  rw [h.cell (i := o + i) (by omega)]
  have h3 : (trim (lst F o n))[i]? = ((lst F o n).take (trim (lst F o n)).length)[i]? := by rw [← trim_take]
  rw [List.getElem?_take_of_lt hi, List.getElem?_eq_getElem hi, List.getElem?_eq_getElem (by rw [lst_length]; omega), lst_get] at h3
  rw [Option.some.inj h3]
def ClPost (x y : Nat) (w : World) (e : Ending) (w' : World) : Prop := ∃ v u, e = .returned (.tuple #[v, u]) ∧ SzN w' v (x / y) ∧ SzN w' u (x % y) ∧ Below w.heap.size w w'
set_option maxRecDepth 10000 in
set_option maxHeartbeats 1600000 in
theorem cutLong_any (A B : Option Addr) (l m : List Nat) (L n c d : Nat) (w : World) (hA : Sz w A l) (hB : Sz w B m) (ol : Ok l) (om : Ok m) (nm : Norm m) (hL : l.length = L) (hm : m.length = n + 1) (hl : L ≤ 900) (hnL : n < L) :
    Calls Tryd.prog 82 #[.slice A L c, .slice B (n + 1) d] w (ClPost (val l) (val m) w) := by
  obtain ⟨b, o', hBa, hlt', hcell'⟩ := hB.at_ (by rintro rfl; simp at hm)
  have hcm := hcell' n (by omega)
  have em : m.getD n 0 = m[n] := by rw [List.getD_eq_getElem?_getD, List.getElem?_eq_getElem (by omega)]; rfl
  have hv := norm_top nm hm
  obtain ⟨s, hs⟩ : ∃ s, s = 1000000000 / (m.getD n 0 + 1) := ⟨_, rfl⟩
  have hb := scaled_bounds om hm hv hs
  have hvB := ok_getD om n
  have hs0 : 0 < s := by rw [hs]; exact scale_pos hvB
  have hs1 : s < 1000000000 := by rw [hs]; exact scale_lt hv
  rw [em] at hs hv hvB
  have hs2 : (1000000000 : Int) / ((m[n] : Int) + 1) = (s : Int) := by rw [hs, Int.natCast_ediv]; rfl
  have HB := Lib.hid hb
  subst hBa
  clear hb em hs hcell'
  go_enter Tryd.func82, Tryd.ntmps82
  go_wp2_with fail
  refine (mul_part_len _ m (n + 1) d s w.heap.size n _ hm (hB.below ((Below.refl _ _).alloc (Nat.le_refl _) _)) om (by omega) hs1 (cell_new1 _ _) (by simp) (by have := HB.out; omega) (by have := HB.out; omega)).mono ?_
  rintro e w1 ⟨D, m', dc, rfl, hm', hD, okD, hvD, hb1⟩
  have hB1 : Below w.heap.size w w1 := ((Below.refl _ _).alloc (Nat.le_refl _) _).trans (hb1.mono (by simp))
  have hA1 := hA.below hB1
  have hmk := run_mkz (L + 1) ((L : Int) + 1) (by omega) (by omega)
  have HVD := Lib.hid hvD
  clear hb1 hB hA hvD
  go_wp2_with fail
  refine (mul_part _ l L c s (w1.heap.size + 1) _ hL (hA1.below (((Below.refl _ _).alloc (Nat.le_refl _) _).alloc (by simp) _)) ol (by omega) hs1 (cell_new1' _ _ _ (by simp)) (by simp)).mono ?_
  rintro e w2 ⟨E, l', ec, rfl, hE, okE, nmE, hvE, hb2⟩
  have hR0 : Rw w2 w1.heap.size (L + 1) (fun _ => 0) := ((Rw.made w1 (L + 1)).of_block (Below.heap_alloc _ _ _ (by simp))).below hb2 (by simp; omega)
  have hb3 : Below w1.heap.size w1 w2 := (((Below.refl _ _).alloc (Nat.le_refl _) _).alloc (by simp) _).trans (hb2.mono (by simp; omega))
  have hD2 := hD.below hb3
  have hDo := hD.off (Nat.le_refl _)
  have hB2 : Below w.heap.size w w2 := hB1.trans (hb3.mono hB1.size)
  have hls : val l' < 1000000000 ^ L * s := by
    rw [hvE, ← hL]; exact Nat.mul_lt_mul_of_pos_right (val_lt ol) hs0
  have hlE : l'.length ≤ L + 1 := len_le_of_lt nmE (by
    have : 1000000000 ^ L * s ≤ 1000000000 ^ L * 1000000000 := Nat.mul_le_mul_left _ (by omega)
    rw [Nat.pow_succ]; omega)
  have hst := ClInv.start (V := val m * s) hlE okE hnL hvE (by rw [← hvE]; exact hls) HB.out.2.2
  have hg1 := hB1.size
  obtain ⟨g1, hg⟩ : ∃ g, g = w1.heap.size := ⟨_, rfl⟩
  rw [← hg] at hR0 hDo hg1 hb3 ⊢
  have HG := Lib.hid hg
  clear hb2 hD hg hvE hls hmk hcm
  have hmk2 := run_mkz (L - n) ((L : Int) - ((n : Int) + 1) + 1) (by omega) (by omega)
  go_wp2_with ((with_reducible refine wpList_copy_sz rfl (.tmp 26) (.tmp 30) rfl g1 (L + 1) (L + 1) (fun _ => 0) E l' ec rfl rfl hR0 hE hlE ?_); intro w3 hR3 hO3)
  go_wp2_with fail
  have hQ4 := Rw.made w3 (L - n)
  have hR4 : Rw (w3.alloc (.cells (madeCells #[.int .u32 0] (L - n)) 67)) g1 (L + 1) (over l' (fun _ => 0)) := hR3.of_block (Below.heap_alloc _ _ _ hR3.lt)
  have hD3 := hD2.only hDo hO3
  have hD4 := hD3.below ((Below.refl _ _).alloc (Nat.le_refl _) (.cells (madeCells #[.int .u32 0] (L - n)) 67))
  have hDo2 := hD3.off (Nat.le_refl _)
  have hB3 : Below w.heap.size w w3 := hB2.trans (hO3.to_below hg1 hB2.size)
  have hB4 := hB3.alloc hB3.size (.cells (madeCells #[.int .u32 0] (L - n)) 67)
  have hne : g1 ≠ w3.heap.size := Nat.ne_of_lt hR3.lt
  have hg2 := hB3.size
  obtain ⟨g2, hgg⟩ : ∃ g, g = w3.heap.size := ⟨_, rfl⟩
  generalize w3.alloc (.cells (madeCells #[.int .u32 0] (L - n)) 67) = w4 at hQ4 hR4 hD4 hB4 ⊢
  rw [← hgg] at hQ4 hDo2 hne hg2 ⊢
  clear hgg hmk2 hR3 hO3 hD3 hB3 hR0 hD2 hE hA1 hB1 hB2 hb3 HG
  have hVD := HVD.out
  obtain ⟨V, hV⟩ : ∃ V, V = val m * s := ⟨_, rfl⟩
  obtain ⟨U, hU⟩ : ∃ U, U = val l * s := ⟨_, rfl⟩
  rw [← hV, ← hU] at hst
  rw [← hV] at hVD
  have hV1 : V < 1000000000 ^ (n + 1) := by rw [hV]; exact HB.out.2.1
  have hV0 : 0 < V := by
    have : 0 < 500000000 * 1000000000 ^ n := Nat.mul_pos (by decide) (Nat.pow_pos (by decide))
    have := HB.out.1
    omega
  have hV2 : 500000000 ≤ m'.getD n 0 := top_half okD hm' (by rw [hVD, hV]; exact HB.out.1)
  have HVD2 := Lib.hid hVD
  have HUV := Lib.hid (And.intro hU hV)
  clear hVD hU hV HVD
  go_loopw [9] (fun i wr => ∃ (k : Nat) (R Q : Nat → Nat), k ≤ L - n ∧ i = .int .i64 ((k : Int) - 1) ∧ ClInv U V L n k R Q ∧ Rw wr g1 (L + 1) R ∧ Rw wr g2 (L - n) Q ∧ Sz wr D m' ∧ Below w.heap.size w wr) (fun i _ => (intOf i + 1).toNat)
  case atStart => exact ⟨L - n, _, _, Nat.le_refl _, by rfl, hst, hR4, hQ4, hD4, hB4⟩
  case round =>
    clear hst hR4 hQ4 hD4 hB4
    obtain ⟨k, R, Q, hk, rfl, hI, hR, hQ, hD, hB⟩ := hrel
    rcases k with _ | k
    · go_wp2_with fail
      refine (trimmed_row g1 0 (L + 1) (L + 1) (L + 1) R _ hR (by omega) (fun j _ _ => hI.okR j) (by omega) (by unfold maxLen; omega)).mono ?_
      rintro e wx ⟨rfl, rfl⟩
      go_wp2_with fail
      have htl := trim_le (lst R 0 (L + 1))
      rw [lst_length] at htl
      refine (cutByPart_any _ _ (L + 1) s _ (hR.sz_trim 0 (L + 1) (by omega) (fun j _ _ => hI.okR j)) (ok_trim (lst_ok (fun j _ _ => hI.okR j))) (by omega) hs0 hs1).mono ?_
      rintro e w5 ⟨v5, rfl, hv5, hb5⟩
      go_wp2_with fail
      refine (trimmed_row g2 0 (L - n) (L - n) (L - n) Q _ (hQ.below hb5 hQ.lt) (by omega) (fun j _ _ => hI.okQ j) (by omega) (by unfold maxLen; omega)).mono ?_
      rintro e w6 ⟨rfl, rfl⟩
      go_wp2_with fail
      go_ret2
      obtain ⟨hU, hV⟩ := HUV.out
      subst hU hV
      obtain ⟨f1, f2⟩ := hI.fin hs0
      rw [val_trim, val_lst, f2, Nat.mul_div_cancel _ hs0] at hv5
      exact ⟨_, _, rfl, (SzN.of_row (hQ.below hb5 hQ.lt) 0 _ _ (by omega) (fun j _ _ => hI.okQ j)).conv f1, hv5, hB.trans (hb5.mono hB.size)⟩
    · have e1 : ((k + 1 : Nat) : Int) - 1 = (k : Int) := by omega
      rw [e1]
      clear e1
      obtain ⟨x1, x2, x3⟩ := hI.window hk hV1
      have htk := takeOut_any g1 k (L + 1 - k) (L + 1) n R D m' dc wr hR (fun j _ _ => hI.okR j) (by omega) (by omega) hD hDo okD hm' hV2 (by rw [HVD2.out]; exact x2)
      rw [HVD2.out] at htk
      have HTK := Lib.hid htk
      clear htk x1 x2 x3
      go_wp2_with fail
      rw [show k + (n + 1) + 1 - k = n + 2 by omega]
      refine HTK.out.mono ?_
      rintro e w5 ⟨R', rfl, hout, hok, hmod, hR5, hO5⟩
      have hst := hI.step hk hV1 hV0 hout hok hmod
      have hQ5 := hQ.only hO5 (Ne.symm hne)
      have hD5 := hD.only hDo hO5
      have hB5 := hB.trans (hO5.to_below hg1 hB.size)
      generalize vf R k (n + 2) / V = q at hst ⊢
      have hcell := hQ5.cell (i := k) (by omega)
      have hfz := hQ5.frozen k
      clear hI hR hQ hD hB hO5 hout hok hmod HTK
      go_wp2_with fail
      go_roundw
      case rel =>
        have hO6 := (Only.refl g2 w5).setCell k (.int .u32 (q : Int))
        exact ⟨k, R', _, by omega, rfl, hst, hR5.only hO6 hne, hQ5.set k q rfl, hD5.only hDo2 hO6, hB5.trans (hO6.to_below hg2 hB5.size)⟩
      case measure => simp [intOf]
end Go.Proofs.YtilkjfmgjldmoaaDoor

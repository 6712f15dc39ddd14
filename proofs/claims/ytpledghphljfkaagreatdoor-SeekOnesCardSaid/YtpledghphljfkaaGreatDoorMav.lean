import Derived.Test.YtpledghphljfkaaGreatDoorMau
import Derived.Test.YtpledghphljfkaaGreatDoorMat
/-
  The reference's first, vector, ints, by their contracts.
-/
namespace Go.Proofs.YtpledghphljfkaaGreatDoor
set_option linter.unusedVariables false
set_option linter.unusedSimpArgs false
open Go.RowKit

theorem fp_none {l : List ByteArray} {x : ByteArray} (h : ∀ j, j < l.length → l.getD j ByteArray.empty ≠ x) : fpS l x = l.length := by
  rcases Nat.lt_or_ge (fpS l x) l.length with h1 | h1
  · have := fp_at h1
    exact absurd (by rw [List.getD_eq_getElem?_getD, this]; rfl) (h _ h1)
  · have := fp_le l x; omega
set_option maxRecDepth 10000 in
theorem rfirst_is (a : Option Addr) (n c : Nat) (es : List ByteArray) (s : ByteArray) (W : World) (h : St W a n es) (hn : n ≤ 1000000) :
    Calls Tryz.prog 33 #[.slice a n c, .string s] W fun e W' => e = .returned (.int .i64 (fpS es s : Nat)) ∧ W = W' := by
  have hl := h.1
  have HS := Lib.hid h
  have HL := Lib.hid hl
  clear h hl
  go_enter Tryz.func33, Tryz.ntmps33
  go_wp2_with fail
  go_loop [5] (fun iv => ∃ i : Nat, iv = .int .i64 i ∧ i ≤ n ∧ Hid (∀ j, j < i → es.getD j ByteArray.empty ≠ s)) (fun iv => n - (intOf iv).toNat)
  case atStart => exact ⟨0, rfl, Nat.zero_le _, Lib.hid fun j hj => by omega⟩
  case round =>
    obtain ⟨i, rfl, hi, HF⟩ := hrel
    by_cases hlt : i < n
    · have e2 : (i : Int) < (n : Int) := by omega
      obtain ⟨bb, off, rfl, hc⟩ := HS.out.2 (by omega)
      have hck := hc i hlt
      obtain ⟨x, hx⟩ : ∃ x, x = es.getD i ByteArray.empty := ⟨_, rfl⟩
      rw [← hx] at hck
      have HX := Lib.hid hx
      clear hc hx
      by_cases hs : x = s
      · subst hs
        have HR := Lib.hid (show fpS es x = i from fp_one (by rw [HL.out]; exact hlt) (by
          have := HX.out
          rw [List.getD_eq_getElem?_getD, List.getElem?_eq_getElem (by rw [HL.out]; exact hlt), Option.getD_some] at this
          rw [List.getElem?_eq_getElem (by rw [HL.out]; exact hlt), this]) (fun j hj e => HF.out j hj (by rw [List.getD_eq_getElem?_getD, e]; rfl)))
        go_wp2_with fail
        go_ret
        exact ⟨by rw [HR.out]; rfl, rfl⟩
      · have hne : (x.toList == s.toList) = false := beq_eq_false_iff_ne.2 fun e => hs (by
          rw [str_tl, str_tl] at e
          exact ByteArray.ext (Array.toList_inj.1 e))
        go_wp2_with fail
        go_round
        case rel => exact ⟨i + 1, by go_num, by omega, Lib.hid fun j hj => by
          by_cases e : j = i
          · rw [e, ← HX.out]; exact hs
          · exact HF.out j (by omega)⟩
        case measure => simp [intOf]; omega
    · have e2 : ¬ (i : Int) < (n : Int) := by omega
      obtain rfl : i = n := by omega
      have HR := Lib.hid (show fpS es s = i from (fp_none fun j hj => HF.out j (by rw [HL.out] at hj; exact hj)).trans HL.out)
      go_wp2_with fail
      go_ret
      exact ⟨by rw [HR.out]; rfl, rfl⟩
theorem Sl.blk {w w' : World} {a : Option Addr} {n B : Nat} {l : List Int} (h : Sl w a n l) (hb : Below B w w') (hB : ∀ p, a = some p → 0 < n → p.block < B) : Sl w' a n l :=
  ⟨h.1, fun h0 => by
    obtain ⟨bb, off, e, hc⟩ := h.2 h0
    exact ⟨bb, off, e, fun j hj => (hb.cell (p := ⟨bb, off + j, none⟩) (show bb < B from hB _ e h0)).trans (hc j hj)⟩⟩
def vcE : Option Ar → Int
  | none => 1
  | some v => if v.1.length ≠ 1 then 3 else 0
set_option maxRecDepth 100000 in
set_option maxHeartbeats 3200000 in
theorem rvec_no {a1 b1 : Option Addr} {n1 c1 m1 d1 : Nat} {l : List Int} {es : List ByteArray} {W : World} (h1 : Av W a1 n1 c1 b1 m1 d1 l es none) :
    Calls Tryz.prog 28 #[.agg #[.slice a1 n1 c1, .slice b1 m1 d1]] W (IntEnd 1 W) := by
  have KV := Lib.hid (fun w (hb : Below W.heap.size W w) => rMay_av (h1.below hb))
  clear h1
  have h := live10 W a1 n1 c1 b1 m1 d1
  go_enter Tryz.func28, Tryz.ntmps28
  have x1 := h.out.1.c0
  have y1 := h.out.1.c1
  go_wp2_with fail
  with_reducible refine (live h (KV.out _ h.out.2)).mono ?_
  clear h x1 y1
  rintro e w ⟨rfl, h⟩
  go_wp2_with fail
  go_ret
  exact ⟨rfl, h.out.2⟩
set_option maxRecDepth 100000 in
set_option maxHeartbeats 3200000 in
theorem rvec_3 {a1 b1 : Option Addr} {n1 c1 m1 d1 : Nat} {l : List Int} {es : List ByteArray} {W : World} {q : Ar} (h1 : Av W a1 n1 c1 b1 m1 d1 l es (some q)) (hc : n1 ≠ 1) :
    Calls Tryz.prog 28 #[.agg #[.slice a1 n1 c1, .slice b1 m1 d1]] W (IntEnd 3 W) := by
  have KV := Lib.hid (fun w (hb : Below W.heap.size W w) => rMay_av (h1.below hb))
  have hn : (n1 : Int) ≠ 1 := by omega
  clear h1
  have h := live10 W a1 n1 c1 b1 m1 d1
  go_enter Tryz.func28, Tryz.ntmps28
  have x1 := h.out.1.c0
  have y1 := h.out.1.c1
  go_wp2_with fail
  with_reducible refine (live h (KV.out _ h.out.2)).mono ?_
  clear h x1 y1
  rintro e w ⟨rfl, h⟩
  have x1 := h.out.1.c0
  have y1 := h.out.1.c1
  go_wp2_with fail
  go_ret
  exact ⟨rfl, h.out.2⟩
set_option maxRecDepth 100000 in
set_option maxHeartbeats 3200000 in
theorem rvec_0 {a1 b1 : Option Addr} {n1 c1 m1 d1 : Nat} {l : List Int} {es : List ByteArray} {W : World} {q : Ar} (h1 : Av W a1 n1 c1 b1 m1 d1 l es (some q)) (hc : n1 = 1) :
    Calls Tryz.prog 28 #[.agg #[.slice a1 n1 c1, .slice b1 m1 d1]] W (IntEnd 0 W) := by
  have KV := Lib.hid (fun w (hb : Below W.heap.size W w) => rMay_av (h1.below hb))
  clear h1
  subst hc
  have h := live10 W a1 1 c1 b1 m1 d1
  go_enter Tryz.func28, Tryz.ntmps28
  have x1 := h.out.1.c0
  have y1 := h.out.1.c1
  go_wp2_with fail
  with_reducible refine (live h (KV.out _ h.out.2)).mono ?_
  clear h x1 y1
  rintro e w ⟨rfl, h⟩
  have x1 := h.out.1.c0
  have y1 := h.out.1.c1
  go_wp2_with fail
  go_ret
  exact ⟨rfl, h.out.2⟩
theorem rvec_is {a1 b1 : Option Addr} {n1 c1 m1 d1 : Nat} {l : List Int} {es : List ByteArray} {W : World} {o : Option Ar} (h1 : Av W a1 n1 c1 b1 m1 d1 l es o) : Calls Tryz.prog 28 #[.agg #[.slice a1 n1 c1, .slice b1 m1 d1]] W (IntEnd (vcE o) W) := by
  cases o with
  | none => exact rvec_no h1
  | some q =>
    have hl : q.1.length = n1 := by rw [h1.fst]; exact h1.v.s.1
    by_cases h : n1 = 1
    · have e : vcE (some q) = 0 := by unfold vcE; dsimp only; rw [if_neg (by omega)]
      rw [e]; exact rvec_0 h1 h
    · have e : vcE (some q) = 3 := by unfold vcE; dsimp only; rw [if_pos (by omega)]
      rw [e]; exact rvec_3 h1 h
set_option maxRecDepth 100000 in
set_option maxHeartbeats 3200000 in
theorem rints_is (a : Option Addr) (n c : Nat) (l : List Int) (W : World) (h : Sl W a n l) (hi : ∀ j, j < n → I64 (l.getD j 0)) (hn : n ≤ 100000) :
    Calls Tryz.prog 30 #[.slice a n c] W (PtEnd [(n : Int)] (l.map S) W) := by
  have HL := Lib.hid h.1
  have HV := Lib.hid h
  have KT := Lib.hid (fun (k : Nat) (hk : k < n) w => rOf_any (hi k hk) w)
  clear h hi
  have hR0 := Bx.new W none 0 0 none 0 0
  have hb0 : Below W.heap.size W (W.alloc (.cells #[.slice none 0 0, .slice none 0 0] 25)) := (Below.refl _ _).alloc (Nat.le_refl _) _
  go_enter Tryz.func30, Tryz.ntmps30
  go_wp2_with fail
  obtain ⟨w1, hw1⟩ : ∃ z, z = W.alloc (.cells #[.slice none 0 0, .slice none 0 0] 25) := ⟨_, rfl⟩
  have hs1 : w1.heap.size = W.heap.size + 1 := by rw [hw1]; simp
  rw [← hw1] at hR0 hb0 ⊢
  have hS0 := (sl_new1 w1 (n : Int)).below (((Below.refl _ _).alloc (Nat.le_refl _) _) : Below (w1.alloc (.cells #[.int .i64 (n : Int)] 3)).heap.size _ ((w1.alloc (.cells #[.int .i64 (n : Int)] 3)).alloc (.cells #[.slice (some ⟨w1.heap.size, 0, none⟩) 1 1, .slice none 0 0] 25)))
  have hO0 := Bx.newG (w1.alloc (.cells #[.int .i64 (n : Int)] 3)) (W.heap.size + 2) (by simp [hs1]) (some ⟨w1.heap.size, 0, none⟩) 1 1 none 0 0
  have hb1 : Below W.heap.size W ((w1.alloc (.cells #[.int .i64 (n : Int)] 3)).alloc (.cells #[.slice (some ⟨w1.heap.size, 0, none⟩) 1 1, .slice none 0 0] 25)) := (hb0.alloc hb0.size _).alloc (by simp [hs1]; omega) _
  replace hR0 := (hR0.alloc (.cells #[.int .i64 (n : Int)] 3)).alloc (.cells #[.slice (some ⟨w1.heap.size, 0, none⟩) 1 1, .slice none 0 0] 25)
  have hz1 : W.heap.size + 2 + 1 ≤ ((w1.alloc (.cells #[.int .i64 (n : Int)] 3)).alloc (.cells #[.slice (some ⟨w1.heap.size, 0, none⟩) 1 1, .slice none 0 0] 25)).heap.size := by simp [hs1]
  clear hb0 hw1
  rw [hs1] at *
  go_loopw [4] (fun iv wr => ∃ (k : Nat) (bv : Option Addr) (dv : Nat), iv = .int .i64 k ∧ k ≤ n ∧ Bx wr (W.heap.size + 2) (some ⟨W.heap.size + 1, 0, none⟩) 1 1 bv k dv ∧ wr.ownsRow (W.heap.size + 2 + 1) 9 1 (.slice bv k dv) k (valsS ((l.take k).map S)) ∧ Bx wr W.heap.size none 0 0 none 0 0 ∧ Sl wr (some ⟨W.heap.size + 1, 0, none⟩) 1 [(n : Int)] ∧ Below W.heap.size W wr ∧ W.heap.size + 2 + 1 ≤ wr.heap.size) (fun iv _ => n - (intOf iv).toNat)
  case atStart => exact ⟨0, none, 0, rfl, Nat.zero_le _, hO0, World.ownsRow_nil _ _ _ _, hR0, hS0, hb1, hz1⟩
  case round =>
    obtain ⟨k, bv, dv, rfl, hk, hO, ho, hR, hS, hb, hz⟩ := hrel
    clear hR0 hO0 hS0 hb1 hz1
    by_cases hlt : k < n
    · have e2 : (k : Int) < (n : Int) := by omega
      obtain ⟨bb, off, rfl, hc⟩ := HV.out.2 (by omega)
      have hck := (hb.cell (p := ⟨bb, off + k, none⟩) (World.block_lt_of_cell? W _ (hc k hlt))).trans (hc k hlt)
      have lck := World.block_lt_of_cell? wr _ hck
      have Q0 := KT.out k hlt
      have HN := Lib.hid (show valsS ((l.take (k + 1)).map S) = valsS ((l.take k).map S) ++ [.string (S (l.getD k 0))] by rw [takeI_snoc (by rw [HL.out]; exact hlt)]; exact valsS_map_snoc _ _)
      generalize S (l.getD k 0) = tx at *
      generalize l.getD k 0 = x at *
      have HQ : Hid (∀ z, Below wr.heap.size wr z → Calls Tryz.prog 55 #[.int .i64 x] z fun e w' => e = .returned (.string tx) ∧ Below wr.heap.size wr w') := Lib.hid fun z hzz => (Q0 z).mono fun e w' h => ⟨h.1, hzz.trans (h.2.mono hzz.size)⟩
      have u1 := hO.c1
      have lO := hO.lt
      have HO := Lib.hid hO
      have HR := Lib.hid hR
      have HW := Lib.hid ho
      have HS := Lib.hid hS
      have HB := Lib.hid hb
      have hq : Below wr.heap.size wr wr := Below.refl _ _
      have hqz := hq.size
      obtain ⟨wq, hwq⟩ : ∃ z, z = wr := ⟨_, rfl⟩
      clear hO hR ho hS hb hc Q0
      go_wp2_with fail
      go_region_law (first | (go_simp; go_at_call 55; refine (HQ.out _ (by repeat' (first | exact hq | refine Below.drew ?_ | refine below_drewN ?_ _ | refine Below.alloc ?_ ?_ _ | exact hqz | exact Nat.le_refl _ | omega | (simp; done) | (simp; omega)))).mono ?_; rintro e wq ⟨rfl, hq⟩; have hqz := hq.size; have u2 := (HO.out.below hq lO).c1; have l2 := (HO.out.below hq lO).lt; have u3 := ((HO.out.below hq lO).alloc (.cells #[.string tx] 9)).c1; have hck2 := (hq.cell (p := ⟨bb, off + k, none⟩) lck).trans hck) | (refine step_pushS wq (W.heap.size + 2 + 1) (.tmp 16) (.tmp 22) bv k dv _ tx rfl rfl rfl rfl rfl rfl rfl rfl (own_below HW.out hq) (by omega) (by omega) ?_; intro av' cv' w9 hown9 hb9; have hO9 := HO.out.below ((hq.mono (by omega)).trans hb9) (by omega); have z1 := hO9.c1; have g2 := hO9.f 1))
      all_goals
        rw [← HN.out] at hown9
        have hbq := (hq.mono (show W.heap.size + 2 + 1 ≤ wr.heap.size by omega)).trans hb9
        have hb10 := HB.out.trans (hbq.mono (by omega))
        have hO11 := Lib.hid (hO9.set1 av' (k + 1) cv')
        have hr11 := Lib.hid (own_set hown9 (p := ⟨W.heap.size + 2, 1, none⟩) (Nat.lt_succ_self _) (.slice av' (k + 1) cv'))
        have hR11 := Lib.hid ((HR.out.below hbq (by omega)).setOther (p := ⟨W.heap.size + 2, 1, none⟩) (by show W.heap.size ≠ W.heap.size + 2; omega) (.slice av' (k + 1) cv'))
        have hS11 := Lib.hid (hO9.sl1 (HS.out.blk hbq (fun p hp _ => by injection hp with hp; rw [← hp]; show W.heap.size + 1 < _; omega)) (.inr rfl) (.slice av' (k + 1) cv'))
        have hb11 := Lib.hid (hb10.setCell (p := ⟨W.heap.size + 2, 1, none⟩) (show W.heap.size ≤ W.heap.size + 2 by omega) (.slice av' (k + 1) cv'))
        have hz11 : W.heap.size + 2 + 1 ≤ w9.heap.size := by have := hbq.size; omega
        clear hO9 hb9 hown9 hb10 u1 z1 g2 hq HO HR HB HS HW hck lck hbq
        go_wp2_with fail
        go_roundw
        case rel => exact ⟨k + 1, av', cv', by go_num, by omega, hO11.out, hr11.out, hR11.out, hS11.out, hb11.out, by simpa using hz11⟩
        case measure => simp [intOf]; omega
    · have e2 : ¬ (k : Int) < (n : Int) := by omega
      obtain rfl : k = n := by omega
      rw [List.take_of_length_le (by rw [HL.out]; exact Nat.le_refl _)] at ho
      have x0 := hO.c0
      have x1 := hO.c1
      have y0 := hR.c0
      have y3 := hR.c1
      have f0 := hR.f 0
      have f1 := hR.f 1
      have hst := Lib.hid (own_st ho)
      have hcp := Lib.hid (own_caps ho)
      clear ho hO
      go_wp2_with fail
      have hS2 := hR.set (some ⟨W.heap.size + 1, 0, none⟩) 1 1 bv k dv
      have r0 := hS2.c0
      have r1 := hS2.c1
      exact bodyPost_ret (v := .agg #[.slice (some ⟨W.heap.size + 1, 0, none⟩) 1 1, .slice bv k dv]) (by simp [results, Tryz.results30, go_sem, r0, r1]) rfl ⟨_, _, _, _, _, _, rfl, ⟨hR.sl hS _ _, hR.st hst.out _ _, by omega⟩, ⟨Nat.le_refl _, by unfold maxLen; omega, hcp.out.1, hcp.out.2⟩, below_made hb (Nat.le_refl _) _ _⟩
end Go.Proofs.YtpledghphljfkaaGreatDoor

import Derived.Test.YtjpjccilnmlmnaaGreatDoorMbj
import Derived.Test.YtjpjccilnmlmnaaGreatDoorMbg
/-
  The reference's text, one, Int, All, run, turned and May, by their contracts.
-/
namespace Go.Proofs.YtjpjccilnmlmnaaGreatDoor
set_option linter.unusedVariables false
set_option linter.unusedSimpArgs false
open Go.RowKit

set_option maxRecDepth 10000 in
set_option maxHeartbeats 1600000 in
theorem rVMay_is {a b : Option Addr} {n c m d : Nat} {l : List Int} {es : List ByteArray} (W : World) (h : Vl W a n b m l es) (hz : ∀ j, j < m → (es.getD j ByteArray.empty).size ≤ maxLen) :
    Calls Tryz.prog 32 #[.agg #[.slice a n c, .slice b m d]] W (BoolEnd (mayV l es) W) := by
  have K1 := Lib.hid (fun w (hb : Below W.heap.size W w) => rSize_is a n c l w (h.s.below hb))
  have r2 := h.mm
  have HT := Lib.hid h.t
  have HZ := Lib.hid hz
  clear h hz
  have hb0 : Below W.heap.size W (W.alloc (.cells #[.slice a n c, .slice b m d] 25)) := (Below.refl _ _).alloc (Nat.le_refl _) _
  by_cases he : szE l = 0
  · by_cases hm : (m : Int) = szV l
    · have hmv : ∀ (h : ∀ j, j < m → mayL (es.getD j ByteArray.empty).data.toList = true), mayV l es = true := fun h => mayV_yes.2 ⟨he, by rw [HT.out.1, hm, szV_pr he], by rw [HT.out.1]; exact h⟩
      have hmn : ∀ j, j < m → mayL (es.getD j ByteArray.empty).data.toList = false → mayV l es = false := fun j hj h => mayV_at (by rw [HT.out.1]; exact hj) h
      have HM := Lib.hid (And.intro hmv hmn)
      clear hmv hmn
      rw [← hm, he] at K1
      clear hm he
      generalize mayV l es = v at HM ⊢
      go_enter Tryz.func32, Tryz.ntmps32
      go_wp2_with fail
      refine (K1.out _ hb0).mono ?_
      rintro x w1 ⟨rfl, rfl⟩
      go_wp2_with fail
      go_loop [5] (fun i => ∃ k : Nat, i = .int .i64 k ∧ k ≤ m ∧ Hid (∀ j, j < k → mayL (es.getD j ByteArray.empty).data.toList = true)) (fun i => m - (intOf i).toNat)
      case atStart => exact ⟨0, rfl, by omega, Lib.hid fun j hj => by omega⟩
      case round =>
        obtain ⟨k, rfl, hk, HI⟩ := hrel
        by_cases hlt : k < m
        · have e2 : (k : Int) < (m : Int) := by omega
          obtain ⟨bb, off, rfl, hc⟩ := HT.out.2 (by omega)
          have hck := (hb0.cell (p := ⟨bb, off + k, none⟩) (World.block_lt_of_cell? W _ (hc k hlt))).trans (hc k hlt)
          have hs := HZ.out k hlt
          clear hc
          obtain ⟨s, hse⟩ : ∃ s, s = es.getD k ByteArray.empty := ⟨_, rfl⟩
          rw [← hse] at hck hs
          have KM := Lib.hid (rMay_any s hs)
          have HE := Lib.hid hse
          clear hse hs
          cases hv : mayL s.data.toList
          · rw [hv] at KM
            obtain rfl : v = false := HM.out.2 k hlt (by rw [← HE.out]; exact hv)
            clear hv
            go_wp2_with fail
            refine (KM.out _).mono ?_
            rintro x w2 ⟨rfl, rfl⟩
            go_wp2_with fail
            go_ret
            exact ⟨rfl, hb0⟩
          · rw [hv] at KM
            have HV := Lib.hid hv
            clear hv
            go_wp2_with fail
            refine (KM.out _).mono ?_
            rintro x w2 ⟨rfl, rfl⟩
            go_wp2_with fail
            refine ⟨⟨k + 1, by go_num, by omega, Lib.hid fun j hj => ?_⟩, by simp [intOf]; omega⟩
            rcases Nat.lt_or_ge j k with h2 | h2
            · exact HI.out j h2
            · rw [show j = k by omega, ← HE.out]; exact HV.out
        · have e2 : ¬ (k : Int) < (m : Int) := by omega
          obtain rfl : v = true := HM.out.1 fun j hj => HI.out j (by omega)
          go_wp2_with fail
          go_ret
          exact ⟨rfl, hb0⟩
    · have hv := mayV_len (l := l) (es := es) (by rw [HT.out.1]; exact hm)
      rw [hv]
      rw [he] at K1
      clear hv he
      generalize szV l = P at *
      have hPm : (P != (m : Int)) = true := bne_iff_ne.2 fun e => hm e.symm
      go_enter Tryz.func32, Tryz.ntmps32
      go_wp2_with fail
      refine (K1.out _ hb0).mono ?_
      rintro x w1 ⟨rfl, rfl⟩
      go_wp2_with fail
      go_ret
      exact ⟨rfl, hb0⟩
  · have hv := mayV_e (es := es) he
    rw [hv]
    rw [szV_zero he] at K1
    clear hv
    generalize szE l = E at *
    have hE : (E != 0) = true := by simpa using he
    go_enter Tryz.func32, Tryz.ntmps32
    go_wp2_with fail
    refine (K1.out _ hb0).mono ?_
    rintro x w1 ⟨rfl, rfl⟩
    go_wp2_with fail
    all_goals
      go_ret
      exact ⟨rfl, hb0⟩
theorem rMay_av {W : World} {a b : Option Addr} {n c m d : Nat} {l : List Int} {es : List ByteArray} {o : Option Ar} (h : Av W a n c b m d l es o) : Calls Tryz.prog 32 #[.agg #[.slice a n c, .slice b m d]] W (BoolEnd o.isSome W) := by
  have e := rVMay_is (c := c) (d := d) W h.v h.z
  rwa [h.i.may] at e
set_option maxRecDepth 10000 in
theorem rtext_is {x : Int} (hx : I64 x) (W : World) : Calls Tryz.prog 34 #[.int .i64 x] W fun e w' => e = .returned (.string (S x)) ∧ Below W.heap.size W w' := by
  have K := Lib.hid (rOf_any hx W)
  clear hx
  go_enter Tryz.func34, Tryz.ntmps34
  go_wp2_with fail
  refine K.out.mono ?_
  rintro x w1 ⟨rfl, hb⟩
  go_wp2_with fail
  go_ret
  exact ⟨rfl, hb⟩
set_option maxRecDepth 10000 in
theorem rone_yes (s : ByteArray) (x : Int) (W : World) (hi : RIntIs s x true) (hf : nearM x = true) : Calls Tryz.prog 68 #[.string s] W (NearEnd x 0 W) := by
  obtain ⟨h0, h1⟩ := nearM_yes.1 hf
  have c1 : ¬ x < -1099511627776 := by omega
  have c2 : ¬ 1099511627776 < x := by omega
  have K := Lib.hid (hi W)
  clear hi hf h0 h1
  go_enter Tryz.func68, Tryz.ntmps68
  go_wp2_with fail
  refine K.out.mono ?_
  rintro x w1 ⟨rfl, hb⟩
  go_wp2_with fail
  go_ret2
  exact ⟨rfl, hb⟩
set_option maxRecDepth 10000 in
theorem rone_no (s : ByteArray) (x : Int) (v : Bool) (W : World) (hi : RIntIs s x v) (hf : v = false ∨ nearM x = false) : Calls Tryz.prog 68 #[.string s] W (NearEnd 0 5 W) := by
  have K := Lib.hid (hi W)
  clear hi
  rcases Bool.eq_false_or_eq_true v with rfl | rfl
  · have hf : nearM x = false := by rcases hf with h | h; cases h; exact h
    have hc : x < -1099511627776 ∨ 1099511627776 < x := by
      rw [← Bool.not_eq_true, nearM_yes] at hf; omega
    clear hf
    by_cases c1 : x < -1099511627776
    · have c2 : ¬ 1099511627776 < x := by omega
      clear hc
      go_enter Tryz.func68, Tryz.ntmps68
      go_wp2_with fail
      refine K.out.mono ?_
      rintro x w1 ⟨rfl, hb⟩
      go_wp2_with fail
      go_ret2
      exact ⟨rfl, hb⟩
    · have c2 : 1099511627776 < x := by omega
      clear hc
      go_enter Tryz.func68, Tryz.ntmps68
      go_wp2_with fail
      refine K.out.mono ?_
      rintro x w1 ⟨rfl, hb⟩
      go_wp2_with fail
      go_ret2
      exact ⟨rfl, hb⟩
  · clear hf
    go_enter Tryz.func68, Tryz.ntmps68
    go_wp2_with fail
    refine K.out.mono ?_
    rintro x w1 ⟨rfl, hb⟩
    go_wp2_with fail
    go_ret2
    exact ⟨rfl, hb⟩
theorem rone_is {x : Int} (hl : x.natAbs < lim) (W : World) : Calls Tryz.prog 68 #[.string (S x)] W (NearEnd (if nearM x then x else 0) (if nearM x then 0 else 5) W) := by
  have hi := rInt_opt (s := S x) (o := some x) ⟨rfl, hl⟩
  unfold intO at hi
  dsimp only at hi
  cases hf : nearM x
  · by_cases h : I64 x
    · rw [if_pos h] at hi
      exact rone_no (S x) _ _ W hi (.inr hf)
    · rw [if_neg h] at hi
      exact rone_no (S x) _ _ W hi (.inl rfl)
  · have h := nearM_yes.1 hf
    rw [if_pos (show I64 x by unfold I64; omega)] at hi
    exact rone_yes (S x) x W hi hf
set_option maxRecDepth 10000 in
theorem rVInt_bad {a b : Option Addr} {n c m d : Nat} (W : World) (hb : n ≠ 0 ∨ m ≠ 1) : Calls Tryz.prog 33 #[.agg #[.slice a n c, .slice b m d]] W (NearEnd 0 3 W) := by
  have hb0 : Below W.heap.size W (W.alloc (.cells #[.slice a n c, .slice b m d] 25)) := (Below.refl _ _).alloc (Nat.le_refl _) _
  by_cases h0 : n = 0
  · subst h0
    have h1 : (m : Int) ≠ 1 := by omega
    clear hb
    go_enter Tryz.func33, Tryz.ntmps33
    go_wp2_with fail
    go_ret2
    exact ⟨rfl, hb0⟩
  · have h1 : (0 : Int) < (n : Int) := by omega
    clear hb h0
    go_enter Tryz.func33, Tryz.ntmps33
    go_wp2_with fail
    go_ret2
    exact ⟨rfl, hb0⟩
set_option maxRecDepth 10000 in
theorem rVInt_at (a : Option Addr) (c g off d : Nat) (s : ByteArray) (x e : Int) (W : World) (hc : W.cell? ⟨g, off, none⟩ = some (.string s)) (hn : ∀ w, Below W.heap.size W w → Calls Tryz.prog 68 #[.string s] w (NearEnd x e w)) :
    Calls Tryz.prog 33 #[.agg #[.slice a 0 c, .slice (some ⟨g, off, none⟩) 1 d]] W (NearEnd x e W) := by
  have K := Lib.hid hn
  clear hn
  have hb0 : Below W.heap.size W (W.alloc (.cells #[.slice a 0 c, .slice (some ⟨g, off, none⟩) 1 d] 25)) := (Below.refl _ _).alloc (Nat.le_refl _) _
  have hc1 := (hb0.cell (p := ⟨g, off, none⟩) (World.block_lt_of_cell? W _ hc)).trans hc
  go_enter Tryz.func33, Tryz.ntmps33
  go_wp2_with fail
  refine (K.out _ hb0).mono ?_
  rintro x w1 ⟨rfl, hb⟩
  go_wp2_with fail
  go_ret2
  exact ⟨rfl, hb0.trans (hb.mono hb0.size)⟩
section
variable {W : World} {a b : Option Addr} {n c m d : Nat} {l : List Int} {es : List ByteArray} {q : Ar}
theorem rVInt_av (h : Av W a n c b m d l es (some q))  : Calls Tryz.prog 33 #[.agg #[.slice a n c, .slice b m d]] W (NearEnd (inM q).1 (inM q).2 W) := by
  have hl := h.v.s.1
  have hq := h.fst
  have hm := h.mlen.1
  by_cases hb : n = 0 ∧ m = 1
  · obtain ⟨rfl, rfl⟩ := hb
    obtain ⟨q1, q2⟩ := q
    simp only at hq hm
    obtain rfl : q1 = [] := by rw [hq]; exact List.length_eq_zero_iff.1 hl
    obtain ⟨x, rfl⟩ := List.length_eq_one_iff.1 hm.symm
    have hx := h.i.2.2.2 x (by simp)
    have he : es = [S x] := h.i.2.1
    subst he
    obtain ⟨g, off, rfl, hc⟩ := h.v.t.2 (by omega)
    have e : inM ([], [x]) = (if nearM x then x else 0, if nearM x then 0 else 5) := by
      unfold inM
      rw [if_neg (by simp)]
      show (if nearM x = true then (x, (0 : Int)) else (0, 5)) = _
      split <;> rfl
    rw [e]
    exact rVInt_at a c g off d (S x) _ _ W (hc 0 (by omega)) fun w hw => rone_is hx w
  · have e : inM q = (0, 3) := by
      unfold inM
      rw [if_pos]
      rcases Nat.eq_zero_or_pos n with h0 | h0
      · exact .inr (by omega)
      · refine .inl fun e => ?_
        rw [hq] at e
        rw [e] at hl
        simp at hl
        omega
    rw [e]
    exact rVInt_bad W (by omega)
end

/-! ### run, turned -/
/-- The numbers from one on, so many. -/
def fromM (f : Int) (k : Nat) : List Int := (List.range k).map fun i : Nat => f + (i : Int)
theorem from_succ (f : Int) (k : Nat) : valsI (fromM f (k + 1)) = valsI (fromM f k) ++ [.int .i64 (f + (k : Int))] := by simp [fromM, valsI, List.range_succ]
set_option maxRecDepth 10000 in
set_option maxHeartbeats 1600000 in
theorem rrun_is (f : Int) (N : Nat) (hN : N ≤ 1000000) (hf : -1099511627776 ≤ f) (hf2 : f ≤ 1099511627776) {t : Int} (ht : t = f + (N : Int)) (W : World) :
    Calls Tryz.prog 78 #[.int .i64 f, .int .i64 t] W (ClI N (fromM f N) W) := by
  have HT := Lib.hid ht
  clear ht
  go_enter Tryz.func78, Tryz.ntmps78
  go_wp2_with fail
  go_loopw [5, 6] (fun lv i wr => ∃ k : Nat, i = .int .i64 (f + (k : Int)) ∧ k ≤ N ∧ wr.ownsRow W.heap.size 3 1 lv k (valsI (fromM f k)) ∧ Below W.heap.size W wr) (fun _ i _ => (t - intOf i).toNat)
  case atStart => exact ⟨0, by simp, Nat.zero_le _, World.ownsRow_nil _ _ _ _, Below.refl _ _⟩
  case round =>
    obtain ⟨k, rfl, hk, hown, hbq⟩ := hrel
    by_cases hlt : k < N
    · have e2 : f + (k : Int) < t := by have := HT.out; omega
      have ho2 := Lib.hid (hown.alloc (.cells #[.int .i64 (f + (k : Int))] 3))
      have hs1 := Lib.hid (from_succ f k)
      have hnx := Lib.hid (show wrap64 (f + (k : Int) + 1) = f + ((k + 1 : Nat) : Int) by rw [show f + ((k + 1 : Nat) : Int) = f + (k : Int) + 1 by omega]; exact w64 (by omega) (by omega))
      have hbs := hbq.size
      have HB := Lib.hid hbq
      obtain ⟨x, hx⟩ : ∃ x, x = f + (k : Int) := ⟨_, rfl⟩
      rw [← hx] at e2 ho2 hs1 hnx ⊢
      have HX := Lib.hid hx
      clear hown hbq hx
      obtain ⟨i0, hi0, hz0, hz1, hz2⟩ := info_parts infoInt
      go_wp2_with (at_builtin; refine wpList_append_own _ rfl _ _ 22 rfl W.heap.size 3 i0 (.int .i64 0) 1 8 Tryz.underlying22 hi0 hz0 hz1 hz2 rfl (by decide) _ _ _ rfl ho2.out ⟨wr.heap.size, 0, none⟩ 1 1 [.int .i64 x] rfl rfl (cell_one_new _ _ _) (by simp [Value.oneCell']) (by unfold maxLen; omega) (by omega) (by simp; omega) ?_; intro av' w3 hown3 hg3 _)
      have hb4 : Below W.heap.size W w3 := (HB.out.alloc HB.out.size _).trans (grown_below' hg3 (fun g' hg' => (ho2.out.lt g' hg').1) (by simp; omega))
      rw [← hs1.out] at hown3
      clear hg3 ho2 hs1
      have hnx' := hnx.out
      go_wp2_with fail
      go_roundw
      case rel => exact ⟨k + 1, by rw [hnx.out], by omega, hown3, hb4⟩
      case measure => simp [intOf]; have := HX.out; rw [hnx']; omega
    · have e2 : ¬ f + (k : Int) < t := by have := HT.out; omega
      obtain rfl : k = N := by omega
      obtain ⟨ae, ce, rfl⟩ := own_form hown
      have HO := Lib.hid hown
      clear hown
      go_wp2_with fail
      go_ret
      exact ⟨ae, ce, rfl, HO.out, hbq⟩
/-- The last ones of a list, the last one first. -/
def backM (l : List Int) (k : Nat) : List Int := (List.range k).map fun i : Nat => l.getD (l.length - 1 - i) 0
theorem back_succ (l : List Int) (k : Nat) : valsI (backM l (k + 1)) = valsI (backM l k) ++ [.int .i64 (l.getD (l.length - 1 - k) 0)] := by simp [backM, valsI, List.range_succ]
theorem back_all (l : List Int) : backM l l.length = l.reverse := by
  apply List.ext_getElem?
  intro j
  by_cases hj : j < l.length
  · rw [backM, List.getElem?_map, List.getElem?_range hj, List.getElem?_reverse hj, Option.map_some, List.getD_eq_getElem?_getD, List.getElem?_eq_getElem (show l.length - 1 - j < l.length by omega)]
    rfl
  · rw [List.getElem?_eq_none (by simp [backM]; omega), List.getElem?_eq_none (by simp; omega)]
set_option maxRecDepth 10000 in
set_option maxHeartbeats 1600000 in
theorem rturned_is (a : Option Addr) (N c : Nat) (l : List Int) (W : World) (h : Sl W a N l) (hN : N ≤ 1000000) :
    Calls Tryz.prog 46 #[.slice a N c] W (ClI N l.reverse W) := by
  have hl := h.1
  have HS := Lib.hid h
  have HA := Lib.hid (back_all l)
  have hw0 : IntKind.i64.wrap ((N : Int) - 1) = (N : Int) - 1 := IntWalk.i64_in _ (by omega)
  rw [hl] at HA
  clear h
  go_enter Tryz.func46, Tryz.ntmps46
  go_wp2_with fail
  go_loopw [3, 4] (fun lv i wr => ∃ k : Nat, i = .int .i64 ((N : Int) - 1 - (k : Int)) ∧ k ≤ N ∧ wr.ownsRow W.heap.size 3 1 lv k (valsI (backM l k)) ∧ Below W.heap.size W wr) (fun _ i _ => (intOf i + 1).toNat)
  case atStart => exact ⟨0, by first | (simp; done) | (simp [hw0]), Nat.zero_le _, World.ownsRow_nil _ _ _ _, Below.refl _ _⟩
  case round =>
    obtain ⟨k, rfl, hk, hown, hbq⟩ := hrel
    by_cases hlt : k < N
    · have ho2 := Lib.hid (hown.alloc (.cells #[.int .i64 (l.getD (N - 1 - k) 0)] 3))
      have hs1 := Lib.hid (back_succ l k)
      rw [hl] at hs1
      obtain ⟨bb, off, rfl, hc⟩ := HS.out.2 (by omega)
      have hck := (hbq.cell (p := ⟨bb, off + (N - 1 - k), none⟩) (World.block_lt_of_cell? W _ (hc (N - 1 - k) (by omega)))).trans (hc (N - 1 - k) (by omega))
      obtain ⟨p, hp⟩ : ∃ p, p = N - 1 - k := ⟨_, rfl⟩
      rw [← hp] at hck ho2 hs1
      have hpp : (N : Int) - 1 - (k : Int) = (p : Int) := by omega
      have hpN : p < N := by omega
      have hnx := Lib.hid (show wrap64 ((p : Int) - 1) = (N : Int) - 1 - ((k + 1 : Nat) : Int) by rw [show (N : Int) - 1 - ((k + 1 : Nat) : Int) = (p : Int) - 1 by omega]; exact w64 (by omega) (by omega))
      rw [hpp]
      have e2 : (0 : Int) ≤ (p : Int) := by omega
      obtain ⟨x, hx⟩ : ∃ x, x = l.getD p 0 := ⟨_, rfl⟩
      rw [← hx] at hck ho2 hs1
      have hbs := hbq.size
      have HB := Lib.hid hbq
      have HP := Lib.hid hpp
      clear hown hbq hx hc hp hpp
      obtain ⟨i0, hi0, hz0, hz1, hz2⟩ := info_parts infoInt
      go_wp2_with (at_builtin; refine wpList_append_own _ rfl _ _ 22 rfl W.heap.size 3 i0 (.int .i64 0) 1 8 Tryz.underlying22 hi0 hz0 hz1 hz2 rfl (by decide) _ _ _ rfl ho2.out ⟨wr.heap.size, 0, none⟩ 1 1 [.int .i64 x] rfl rfl (cell_one_new _ _ _) (by simp [Value.oneCell']) (by unfold maxLen; omega) (by omega) (by simp; omega) ?_; intro av' w3 hown3 hg3 _)
      have hb4 : Below W.heap.size W w3 := (HB.out.alloc HB.out.size _).trans (grown_below' hg3 (fun g' hg' => (ho2.out.lt g' hg').1) (by simp; omega))
      rw [← hs1.out] at hown3
      clear hg3 ho2 hs1
      go_wp2_with fail
      go_roundw
      case rel => exact ⟨k + 1, congrArg (Value.int .i64) (by have := HP.out; omega), by omega, hown3, hb4⟩
      case measure => simp [intOf]
    · obtain rfl : k = N := by omega
      have e2 : ¬ (0 : Int) ≤ (k : Int) - 1 - (k : Int) := by omega
      obtain ⟨ae, ce, rfl⟩ := own_form hown
      rw [HA.out] at hown
      have HO := Lib.hid hown
      clear hown
      go_wp2_with fail
      go_ret
      exact ⟨ae, ce, rfl, HO.out, hbq⟩
/-! ### All -/
theorem pre_succ {l : List Int} {k : Nat} (hk : k < l.length) : valsI (l.take (k + 1)) = valsI (l.take k) ++ [.int .i64 (l.getD k 0)] := by
  have e : l.take (k + 1) = l.take k ++ [l.getD k 0] := by
    rw [List.take_add_one, List.getD_eq_getElem?_getD, List.getElem?_eq_getElem hk]; rfl
  rw [e]; simp [valsI]
set_option maxRecDepth 10000 in
set_option maxHeartbeats 1600000 in
theorem rAll_av {a b : Option Addr} {k c n d : Nat} {s l : List Int} (W : World) (h : Vl W a k b n s (l.map S)) (hl : ∀ x ∈ l, x.natAbs < lim) (hn : n ≤ 1000000) :
    Calls Tryz.prog 53 #[.agg #[.slice a k c, .slice b n d]] W (AlO l W) := by
  have hll : l.length = n := by have := h.t.1; rwa [List.length_map] at this
  have HL := Lib.hid hll
  have HT := Lib.hid h.t
  have HI := Lib.hid (fun j (hj : j < n) => hl (l.getD j 0) (by
    rw [List.getD_eq_getElem?_getD, List.getElem?_eq_getElem (by omega)]
    exact List.getElem_mem _))
  clear h hl hll
  go_enter Tryz.func53, Tryz.ntmps53
  have hA := Bx.new W a k c b n d
  have hb0 : Below W.heap.size W (W.alloc (.cells #[.slice a k c, .slice b n d] 25)) := (Below.refl _ _).alloc (Nat.le_refl _) _
  go_wp2_with fail
  go_loopw [4, 5] (fun lv i wr => ∃ q : Nat, i = .int .i64 (q : Int) ∧ q ≤ n ∧ Bx wr W.heap.size a k c b n d ∧ wr.ownsRow (W.heap.size + 1) 3 1 lv q (valsI (l.take q)) ∧ Hid (∀ j, j < q → nearM (l.getD j 0) = true) ∧ Below W.heap.size W wr) (fun _ i _ => n - (intOf i).toNat)
  case atStart => exact ⟨0, rfl, Nat.zero_le _, hA, World.ownsRow_nil _ _ _ _, Lib.hid (fun j hj => by omega), hb0⟩
  case round =>
    obtain ⟨q, rfl, hq, hA1, hown, HF, hb1⟩ := hrel
    clear hA hb0
    have x1 := hA1.c1
    by_cases hlt : q < n
    · have e2 : (q : Int) < (n : Int) := by omega
      obtain ⟨bb, off, rfl, hc⟩ := HT.out.2 (by omega)
      have hck := (hb1.cell (p := ⟨bb, off + q, none⟩) (World.block_lt_of_cell? W _ (hc q hlt))).trans (hc q hlt)
      rw [map_getD l (by rw [HL.out]; exact hlt)] at hck
      have hs1 := Lib.hid (pre_succ (l := l) (k := q) (by rw [HL.out]; exact hlt))
      obtain ⟨x, hx⟩ : ∃ x, x = l.getD q 0 := ⟨_, rfl⟩
      rw [← hx] at hck hs1
      have KN := Lib.hid (rone_is (x := x) (by rw [hx]; exact HI.out q hlt) wr)
      have HX := Lib.hid hx
      have HA := Lib.hid hA1
      have HO := Lib.hid hown
      have HB := Lib.hid hb1
      clear hc hx hA1 hown hb1
      generalize hs : S x = t at hck KN
      clear hs
      rcases Bool.eq_false_or_eq_true (nearM x) with hf | hf
      · have HFX := Lib.hid hf
        rw [hf] at KN
        simp only [if_true] at KN
        clear hf
        go_wp2_with fail
        refine KN.out.mono ?_
        rintro e w2 ⟨rfl, hb⟩
        have hA2 := Lib.hid (HA.out.below hb HA.out.lt)
        have hb2 := Lib.hid (HB.out.trans (hb.mono HB.out.size))
        have ho2 := Lib.hid ((own_below HO.out hb).alloc (.cells #[.int .i64 x] 3))
        have hlt2 : W.heap.size < w2.heap.size := hA2.out.lt
        clear HA HB HO hb hck x1
        obtain ⟨i0, hi0, hz0, hz1, hz2⟩ := info_parts infoInt
        go_wp2_with (at_builtin; refine wpList_append_own _ rfl _ _ 22 rfl (W.heap.size + 1) 3 i0 (.int .i64 0) 1 8 Tryz.underlying22 hi0 hz0 hz1 hz2 rfl (by decide) _ _ _ rfl ho2.out ⟨w2.heap.size, 0, none⟩ 1 1 [.int .i64 x] rfl rfl (cell_one_new _ _ _) (by simp [Value.oneCell']) (by unfold maxLen; omega) (by omega) (by simp; omega) ?_; intro av' w3 hown3 hg3 _)
        have hb4 : Below (W.heap.size + 1) w2 w3 := ((Below.refl _ _).alloc (by omega) _).trans (grown_below' hg3 (fun g' hg' => (ho2.out.lt g' hg').1) (by simp; omega))
        rw [← hs1.out] at hown3
        have hA3 := hA2.out.below hb4 (by omega)
        have hb5 := hb2.out.trans (hb4.mono (by omega))
        have HF2 : Hid (∀ j, j < q + 1 → nearM (l.getD j 0) = true) := Lib.hid fun j hj => by
          by_cases hjk : j = q
          · rw [hjk, ← HX.out]; exact HFX.out
          · exact HF.out j (by omega)
        clear hg3 ho2 hs1 hb4 hA2 hb2
        go_wp2_with fail
        go_roundw
        case rel => exact ⟨q + 1, by go_num, by omega, hA3, hown3, HF2, hb5⟩
        case measure => simp [intOf]; omega
      · have HN := Lib.hid (near_some (l := l) (j := q) (by rw [HL.out]; exact hlt) (by rw [← HX.out]; exact hf))
        rw [hf] at KN
        simp only [Bool.false_eq_true, if_false] at KN
        clear hf
        go_wp2_with fail
        refine KN.out.mono ?_
        rintro e w2 ⟨rfl, hb⟩
        have hb2 := HB.out.trans (hb.mono HB.out.size)
        go_wp2_with fail
        go_ret2
        exact ⟨none, 0, 0, 5, rfl, .inr ⟨HN.out, rfl⟩, hb2⟩
    · have e2 : ¬ (q : Int) < (n : Int) := by omega
      obtain rfl : q = n := by omega
      have HAll := Lib.hid (near_all.2 fun j hj => HF.out j (by rw [HL.out] at hj; exact hj))
      obtain ⟨ae, ce, rfl⟩ := own_form hown
      rw [List.take_of_length_le (by rw [HL.out]; exact Nat.le_refl _)] at hown
      have HO := Lib.hid hown
      clear hown
      go_wp2_with fail
      go_ret2
      exact ⟨_, _, _, 0, rfl, .inl ⟨HAll.out, rfl, HL.out.symm, own_sl HO.out, (own_caps HO.out).1, (own_caps HO.out).2⟩, hb1⟩
end Go.Proofs.YtjpjccilnmlmnaaGreatDoor

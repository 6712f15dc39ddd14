import Derived.Test.YtjpjccilnmlmnaaGreatDoorMai
/-
  The reference's Few; val.near, Int, Scalar, Width: their contracts.
-/
namespace Go.Proofs.YtjpjccilnmlmnaaGreatDoor
set_option linter.unusedVariables false
set_option linter.unusedSimpArgs false
open Go.RowKit

/-! ### Few -/
set_option maxRecDepth 10000 in
set_option maxHeartbeats 800000 in
theorem Few_is {a b : Option Addr} {n c m d : Nat} {l : List Int} {es : List ByteArray} (W : World) (h : Vl W a n b m l es) (hz : ∀ j, j < m → (es.getD j ByteArray.empty).size ≤ maxLen) :
    Calls Tryz.prog 6 #[.agg #[.slice a n c, .slice b m d]] W (BoolEnd (fewB l es) W) := by
  have r1 := h.mm
  have hl := h.s.1
  have HT := Lib.hid h.t
  have hno : ∀ j, j < m → j < 301 → 120 < (es.getD j ByteArray.empty).size → fewB l es = false := fun j hj h3 h4 => fewB_at (by rw [h.t.1]; exact hj) h3 h4
  have hyes : (∀ j, j < m → j < 301 → (es.getD j ByteArray.empty).size ≤ 120) → fewB l es = (decide (m ≤ 300) && decide (n ≤ 20)) := fun hh => by rw [fewB_all (by rw [h.t.1]; exact hh), h.t.1, hl]
  have HN := Lib.hid hno
  have HY := Lib.hid hyes
  have HZ := Lib.hid hz
  clear h hno hyes hl hz
  have hb0 : Below W.heap.size W (W.alloc (.cells #[.slice a n c, .slice b m d] 25)) := (Below.refl _ _).alloc (Nat.le_refl _) _
  generalize fewB l es = v at HN HY ⊢
  go_enter Tryz.func6, Tryz.ntmps6
  go_wp2_with fail
  go_loop [3] (fun i => ∃ k : Nat, i = .int .i64 k ∧ k ≤ m ∧ k ≤ 301 ∧ Hid (∀ j, j < k → (es.getD j ByteArray.empty).size ≤ 120)) (fun i => m - (intOf i).toNat)
  case atStart => exact ⟨0, rfl, by omega, by omega, Lib.hid fun j hj => by omega⟩
  case round =>
    obtain ⟨k, rfl, hk, hk3, HI⟩ := hrel
    by_cases hlt : k < m
    · by_cases h3 : k < 301
      · have e2 : (k : Int) < (m : Int) := by omega
        have e3 : (k : Int) < 301 := by omega
        obtain ⟨bb, off, rfl, hc⟩ := HT.out.2 (by omega)
        have hck := (hb0.cell (p := ⟨bb, off + k, none⟩) (World.block_lt_of_cell? W _ (hc k hlt))).trans (hc k hlt)
        clear hc
        obtain ⟨s, hse⟩ : ∃ s, s = es.getD k ByteArray.empty := ⟨_, rfl⟩
        have hsz : s.size ≤ 9223372036854775807 := by have := HZ.out k hlt; rw [← hse] at this; unfold maxLen at this; omega
        rw [← hse] at hck
        by_cases hs : 120 < s.size
        · obtain rfl : v = false := HN.out k hlt h3 (by rw [← hse]; exact hs)
          clear hse
          have e4 : (120 : Int) < (s.size : Int) := by omega
          go_wp2_with fail
          go_ret
          exact ⟨rfl, hb0⟩
        · have HE := Lib.hid hse
          clear hse
          have e4 : ¬ (120 : Int) < (s.size : Int) := by omega
          have HS : Hid (s.size ≤ 120) := Lib.hid (by omega)
          go_wp2_with fail
          go_round
          case rel =>
            refine ⟨k + 1, by go_num, by omega, by omega, Lib.hid fun j hj => ?_⟩
            rcases Nat.lt_or_ge j k with h2 | h2
            · exact HI.out j h2
            · rw [show j = k by omega, ← HE.out]; exact HS.out
          case measure => simp [intOf]; omega
      · obtain rfl : k = 301 := by omega
        obtain rfl : v = false := (HY.out fun j _ h4 => HI.out j h4).trans (by rw [decide_eq_false (by omega)]; rfl)
        have e2 : (301 : Int) < (m : Int) := by omega
        have e5 : ¬ (m : Int) ≤ 300 := by omega
        go_wp2_with fail
        go_ret
        exact ⟨rfl, hb0⟩
    · have e2 : ¬ (k : Int) < (m : Int) := by omega
      have hv := HY.out fun j hj _ => HI.out j (by omega)
      by_cases c1 : m ≤ 300
      · by_cases c2 : n ≤ 20
        · obtain rfl : v = true := hv.trans (by rw [decide_eq_true c1, decide_eq_true c2]; rfl)
          have e5 : (m : Int) ≤ 300 := by omega
          have e6 : (n : Int) ≤ 20 := by omega
          clear hv
          go_wp2_with fail
          go_ret
          exact ⟨rfl, hb0⟩
        · obtain rfl : v = false := hv.trans (by rw [decide_eq_false c2]; simp)
          have e5 : (m : Int) ≤ 300 := by omega
          have e6 : ¬ (n : Int) ≤ 20 := by omega
          clear hv
          go_wp2_with fail
          go_ret
          exact ⟨rfl, hb0⟩
      · obtain rfl : v = false := hv.trans (by rw [decide_eq_false c1]; rfl)
        have e5 : ¬ (m : Int) ≤ 300 := by omega
        clear hv
        go_wp2_with fail
        go_ret
        exact ⟨rfl, hb0⟩

/-! ### near, Int, Scalar -/
/-- Not too far from 0. -/
def fine (x : Int) : Bool := decide (-1099511627776 ≤ x) && decide (x ≤ 1099511627776)
def NearEnd (x e : Int) (W : World) (x' : Ending) (W' : World) : Prop := x' = .returned (.tuple #[.int .i64 x, .int .i64 e]) ∧ Below W.heap.size W W'
theorem fine_yes {x : Int} : fine x = true ↔ -1099511627776 ≤ x ∧ x ≤ 1099511627776 := by simp [fine]
theorem fine_no {x : Int} : fine x = false ↔ x < -1099511627776 ∨ 1099511627776 < x := by
  rw [← Bool.not_eq_true, fine_yes]; omega
set_option maxRecDepth 10000 in
theorem near_yes (s : ByteArray) (x : Int) (W : World) (hi : IntW s x true W) (hf : fine x = true) : Calls Tryz.prog 66 #[.string s] W (NearEnd x 0 W) := by
  obtain ⟨h0, h1⟩ := fine_yes.1 hf
  unfold IntW at hi
  have K := Lib.hid hi
  clear hi hf
  go_enter Tryz.func66, Tryz.ntmps66
  go_wp2_with fail
  refine K.out.mono ?_
  rintro x w1 ⟨rfl, hb⟩
  go_wp2_with fail
  go_ret2
  exact ⟨rfl, hb⟩
set_option maxRecDepth 10000 in
theorem near_no (s : ByteArray) (x : Int) (v : Bool) (W : World) (hi : IntW s x v W) (hf : v = false ∨ fine x = false) : Calls Tryz.prog 66 #[.string s] W (NearEnd 0 5 W) := by
  unfold IntW at hi
  have K := Lib.hid hi
  clear hi
  rcases Bool.eq_false_or_eq_true v with rfl | rfl
  · have hf : fine x = false := by rcases hf with h | h; cases h; exact h
    have hc := fine_no.1 hf
    clear hf
    by_cases c1 : x < -1099511627776
    · clear hc
      go_enter Tryz.func66, Tryz.ntmps66
      go_wp2_with fail
      refine K.out.mono ?_
      rintro x w1 ⟨rfl, hb⟩
      go_wp2_with fail
      go_ret2
      exact ⟨rfl, hb⟩
    · have c2 : 1099511627776 < x := by omega
      clear hc
      go_enter Tryz.func66, Tryz.ntmps66
      go_wp2_with fail
      refine K.out.mono ?_
      rintro x w1 ⟨rfl, hb⟩
      go_wp2_with fail
      go_ret2
      exact ⟨rfl, hb⟩
  · clear hf
    go_enter Tryz.func66, Tryz.ntmps66
    go_wp2_with fail
    refine K.out.mono ?_
    rintro x w1 ⟨rfl, hb⟩
    go_wp2_with fail
    go_ret2
    exact ⟨rfl, hb⟩
set_option maxRecDepth 10000 in
theorem VInt_one (a : Option Addr) (c g d : Nat) (s : ByteArray) (x e : Int) (W : World) (hc : W.cell? ⟨g, 0, none⟩ = some (.string s)) (hn : ∀ w, Below W.heap.size W w → Calls Tryz.prog 66 #[.string s] w (NearEnd x e w)) :
    Calls Tryz.prog 31 #[.agg #[.slice a 0 c, .slice (some ⟨g, 0, none⟩) 1 d]] W (NearEnd x e W) := by
  have K := Lib.hid hn
  clear hn
  have hb0 : Below W.heap.size W (W.alloc (.cells #[.slice a 0 c, .slice (some ⟨g, 0, none⟩) 1 d] 25)) := (Below.refl _ _).alloc (Nat.le_refl _) _
  have hc1 := (hb0.cell (p := ⟨g, 0, none⟩) (World.block_lt_of_cell? W _ hc)).trans hc
  go_enter Tryz.func31, Tryz.ntmps31
  go_wp2_with fail
  refine (K.out _ hb0).mono ?_
  rintro x w1 ⟨rfl, hb⟩
  go_wp2_with fail
  go_ret2
  exact ⟨rfl, hb0.trans (hb.mono hb0.size)⟩
def ScEnd (s : ByteArray) (W : World) (e : Ending) (W' : World) : Prop :=
  ∃ g, e = .returned (.agg #[.slice none 0 0, .slice (some ⟨g, 0, none⟩) 1 1]) ∧ W'.cell? ⟨g, 0, none⟩ = some (.string s) ∧ Below W.heap.size W W'
theorem St.one {W : World} {g : Nat} {s : ByteArray} (h : W.cell? ⟨g, 0, none⟩ = some (.string s)) : St W (some ⟨g, 0, none⟩) 1 [s] := by
  refine ⟨rfl, fun _ => ⟨g, 0, rfl, fun j hj => ?_⟩⟩
  obtain rfl : j = 0 := by omega
  exact h
theorem Vl.one {W : World} {g : Nat} {s : ByteArray} (h : W.cell? ⟨g, 0, none⟩ = some (.string s)) : Vl W none 0 (some ⟨g, 0, none⟩) 1 [] [s] := ⟨Sl.nil _ _, St.one h, by omega⟩
set_option maxRecDepth 10000 in
theorem Scalar_is (s : ByteArray) (W : World) : Calls Tryz.prog 28 #[.string s] W (ScEnd s W) := by
  go_enter Tryz.func28, Tryz.ntmps28
  go_wp2_with fail
  have hc := cell_of_row _ _ 0 _ _ _ (heap_alloc_new (W.alloc (.cells #[.slice none 0 0, .slice (some ⟨W.heap.size + 1, 0, none⟩) 1 1] 25)) (.cells #[.string s] 9))
  rw [show (W.alloc (.cells #[.slice none 0 0, .slice (some ⟨W.heap.size + 1, 0, none⟩) 1 1] 25)).heap.size = W.heap.size + 1 by simp] at hc
  exact bodyPost_ret (v := .agg #[.slice none 0 0, .slice (some ⟨W.heap.size + 1, 0, none⟩) 1 1]) (by simp [results, Tryz.results28, go_sem]) rfl ⟨_, rfl, hc, ((Below.refl _ _).alloc (Nat.le_refl _) _).alloc (by simp) _⟩

/-! ### Width -/
/-- The greatest one of the first k. -/
def wmax (f : Nat → Int) : Nat → Int
  | 0 => 8
  | k + 1 => max (wmax f k) (f k)
theorem wmax_ge (f : Nat → Int) : ∀ (m k : Nat), k < m → f k ≤ wmax f m
  | m + 1, k, h => by
    show f k ≤ max (wmax f m) (f m)
    rcases Nat.lt_or_ge k m with h1 | h1
    · have := wmax_ge f m k h1; omega
    · rw [show k = m by omega]; omega
theorem wmax_lo (f : Nat → Int) : ∀ m, 8 ≤ wmax f m
  | 0 => Int.le_refl _
  | m + 1 => by
    show 8 ≤ max (wmax f m) (f m)
    have := wmax_lo f m; omega
theorem wmax_is (f : Nat → Int) : ∀ m, wmax f m = 8 ∨ ∃ k, k < m ∧ wmax f m = f k
  | 0 => .inl rfl
  | m + 1 => by
    show max (wmax f m) (f m) = 8 ∨ ∃ k, k < m + 1 ∧ max (wmax f m) (f m) = f k
    rcases Int.le_total (wmax f m) (f m) with h | h
    · exact .inr ⟨m, by omega, Int.max_eq_right h⟩
    · rw [Int.max_eq_left h]
      rcases wmax_is f m with h1 | ⟨k, h1, h2⟩
      · exact .inl h1
      · exact .inr ⟨k, by omega, h2⟩
end Go.Proofs.YtjpjccilnmlmnaaGreatDoor

import Derived.Test.YtomkjmhebnecbaaGreatDoorMbi
import Derived.Test.YtomkjmhebnecbaaGreatDoorMaz
import Derived.RangeFuncBox
/-
  The reference's guess: the array that a text might tell.
-/
namespace Go.Proofs.YtomkjmhebnecbaaGreatDoor
set_option linter.unusedVariables false
set_option linter.unusedSimpArgs false
open Go.RowKit

theorem gs_free {un : List UInt8 → List UInt8} {fi : List UInt8 → Int} {s : List UInt8} (h : ∀ c ∈ s, c ≠ 35) (h0 : s ≠ [33, 48]) :
    gsT un fi s = if ((spW [] s).map un).length = 1 ∧ s.head? ≠ some 44 then ([], (spW [] s).map un) else ([((((spW [] s).map un).length : Nat) : Int)], (spW [] s).map un) := by
  unfold gsT
  rw [if_neg h0, if_pos (free_all h)]
theorem gs_cut {un : List UInt8 → List UInt8} {fi : List UInt8 → Int} {p r : List UInt8} (h : ∀ c ∈ p, c ≠ 35) :
    gsT un fi (p ++ 35 :: r) = ((spW [] p).map (fun w => fi (un w)), if r = [33, 48] then [] else (spW [] r).map un) := by
  obtain ⟨t1, t2⟩ := take_free (r := r) h
  unfold gsT
  rw [if_neg (fun g => by
    have : (35 : UInt8) ∈ ([33, 48] : List UInt8) := by rw [← g]; simp
    exact absurd this (by decide)), if_neg (fun g => by
    have := List.all_eq_true.1 g 35 (by simp)
    exact absurd this (by decide)), t1, t2]
  rfl
theorem b35_yes {c : UInt8} (h : c = 35) : ((c.toNat : Int) == 35) = true := by rw [h]; rfl
theorem b35_no {c : UInt8} (h : c ≠ 35) : ((c.toNat : Int) == 35) = false := beq_false_of_ne fun e => h (UInt8.toNat_inj.1 (show c.toNat = 35 by omega))
theorem at_mem {s : List UInt8} {k : Nat} (h : k < (tx s).size) : (tx s)[k] ∈ s := by
  have := byte_at s k h
  have h2 : (tx s)[k] ∈ s.drop k := by rw [this]; simp
  exact List.mem_of_mem_drop h2
theorem at_left {p r : List UInt8} {k : Nat} (h : k < (tx (p ++ 35 :: r)).size) (hk : k < p.length) : (tx (p ++ 35 :: r))[k] ∈ p := by
  have := byte_at (p ++ 35 :: r) k h
  rw [List.drop_append_of_le_length (by omega)] at this
  have h2 : (p.drop k).head? = some ((tx (p ++ 35 :: r))[k]) := by
    cases hd : p.drop k with
    | nil => have := congrArg List.length hd; simp at this; omega
    | cons x t =>
      rw [hd] at this
      injection this with h1 _
      rw [h1]; rfl
  exact List.mem_of_mem_drop (List.mem_of_mem_head? h2)
theorem at_sign {p r : List UInt8} (h : p.length < (tx (p ++ 35 :: r)).size) : (tx (p ++ 35 :: r))[p.length] = 35 := by
  have := byte_at (p ++ 35 :: r) p.length h
  rw [List.drop_left] at this
  injection this with h1 _
  exact h1.symm
theorem at_head {s : List UInt8} (h : 0 < (tx s).size) : s.head? = some ((tx s)[0]) := by
  cases s with
  | nil => exact absurd h (by decide)
  | cons c r => rfl
def GuEnd (x : List Int × List (List UInt8)) (W : World) (e : Ending) (W' : World) : Prop :=
  ∃ a n c b d, e = .returned (.agg #[.slice a n c, .slice b x.2.length d]) ∧ Vl W' a n b x.2.length x.1 (x.2.map tx) ∧ Below W.heap.size W W'
theorem Bx.set0 {W : World} {a b : Option Addr} {g n c m d : Nat} (h : Bx W g a n c b m d) (a' : Option Addr) (n' c' : Nat) : Bx (W.setCell ⟨g, 0, none⟩ (.slice a' n' c')) g a' n' c' b m d := by
  unfold Bx at h ⊢
  simp [World.setCell, Array.getElem?_modify, h]
theorem Bx.set1 {W : World} {a b : Option Addr} {g n c m d : Nat} (h : Bx W g a n c b m d) (b' : Option Addr) (m' d' : Nat) : Bx (W.setCell ⟨g, 1, none⟩ (.slice b' m' d')) g a n c b' m' d' := by
  unfold Bx at h ⊢
  simp [World.setCell, Array.getElem?_modify, h]
theorem sl_set {W : World} {g i : Nat} {u : Value} (hu : ∃ a n c, W.cell? ⟨g, i, none⟩ = some (.slice a n c)) {a : Option Addr} {n : Nat} {l : List Int} (h : Sl W a n l) : Sl (W.setCell ⟨g, i, none⟩ u) a n l := by
  obtain ⟨a1, n1, c1, hu⟩ := hu
  refine ⟨h.1, fun hn => ?_⟩
  obtain ⟨bb, off, e, hc⟩ := h.2 hn
  refine ⟨bb, off, e, fun j hj => ?_⟩
  rw [World.cell?_setCell_other _ _ _ _ (by
    intro e2
    rw [e2, hc j hj] at hu
    cases hu), hc j hj]
theorem st_set {W : World} {g i : Nat} {u : Value} (hu : ∃ a n c, W.cell? ⟨g, i, none⟩ = some (.slice a n c)) {a : Option Addr} {n : Nat} {l : List ByteArray} (h : St W a n l) : St (W.setCell ⟨g, i, none⟩ u) a n l := by
  obtain ⟨a1, n1, c1, hu⟩ := hu
  refine ⟨h.1, fun hn => ?_⟩
  obtain ⟨bb, off, e, hc⟩ := h.2 hn
  refine ⟨bb, off, e, fun j hj => ?_⟩
  rw [World.cell?_setCell_other _ _ _ _ (by
    intro e2
    rw [e2, hc j hj] at hu
    cases hu), hc j hj]
set_option maxRecDepth 10000 in
set_option maxHeartbeats 3200000 in
/-- A text without the sign. -/
theorem guess_free (s : List UInt8) (hz : s.length ≤ 1000000) (hs : ∀ c ∈ s, c ≠ 35) (W : World) : Calls Tryz.prog 23 #[.string (tx s)] W (GuEnd (gsT numT fiX s) W) := by
  have hA := Bx.new W none 0 0 none 0 0
  have hb0 : Below W.heap.size W (W.alloc (.cells #[.slice none 0 0, .slice none 0 0] 25)) := (Below.refl _ _).alloc (Nat.le_refl _) _
  have HW := Lib.hid (fun w => words_is s hz w)
  obtain ⟨n, hN⟩ : ∃ n, n = s.length := ⟨_, rfl⟩
  have hsz : (tx s).size = n := by rw [tx_size, hN]
  rw [← hN] at hz
  have HS := Lib.hid hs
  have HH := Lib.hid (fun (h : 0 < (tx s).size) => at_head h)
  clear hN hs
  have x0 := hA.c0
  have x1 := hA.c1
  have f0 := hA.f 0
  have f1 := hA.f 1
  go_enter Tryz.func23, Tryz.ntmps23
  go_wp2_with fail
  go_loop [3] (fun iv => ∃ k : Nat, iv = .int .i64 k ∧ k ≤ n) (fun iv => n - (intOf iv).toNat)
  case atStart => exact ⟨0, rfl, by omega⟩
  case round =>
    obtain ⟨k, rfl, hk⟩ := hrel
    by_cases hlt : k < n
    · have e2 : (k : Int) < (n : Int) := by omega
      have w3 : IntKind.i64.wrap ((k : Int) + 1) = (k : Int) + 1 := wrk (by omega)
      have hks : k < (tx s).size := by omega
      have h35 := b35_no (HS.out _ (at_mem hks))
      go_wp2_with fail
      exact ⟨⟨k + 1, rfl, by omega⟩, by simp [intOf]; omega⟩
    · have e2 : ¬ (k : Int) < (n : Int) := by omega
      obtain rfl : k = n := by omega
      by_cases h0 : s = [33, 48]
      · subst h0
        have h1 : (tx [33, 48]).toList = [33, 48] := by rw [str_tl]; rfl
        have hA2 := (Bx.new W (some ⟨W.heap.size + 1, 0, none⟩) 1 1 none 0 0).alloc (.cells #[.int .i64 0] 3)
        have hb2 : Below W.heap.size W ((W.alloc (.cells #[.slice (some ⟨W.heap.size + 1, 0, none⟩) 1 1, .slice none 0 0] 25)).alloc (.cells #[.int .i64 0] 3)) := ((Below.refl _ _).alloc (Nat.le_refl _) _).alloc (by simp) _
        have hS : Sl ((W.alloc (.cells #[.slice (some ⟨W.heap.size + 1, 0, none⟩) 1 1, .slice none 0 0] 25)).alloc (.cells #[.int .i64 0] 3)) (some ⟨W.heap.size + 1, 0, none⟩) 1 [0] := by
          have := Sl.row (l := [0]) (heap_alloc_new (W.alloc (.cells #[.slice (some ⟨W.heap.size + 1, 0, none⟩) 1 1, .slice none 0 0] 25)) (.cells #[.int .i64 0] 3))
          rw [World.size_alloc] at this
          exact this
        have HR := Lib.hid (And.intro hA2 (And.intro hb2 hS))
        clear hA2 hb2 hS
        go_wp2_with fail
        have r0 := HR.out.1.c0
        have r1 := HR.out.1.c1
        exact bodyPost_ret (v := .agg #[.slice (some ⟨W.heap.size + 1, 0, none⟩) 1 1, .slice none 0 0]) (by simp [results, Tryz.results23, go_sem, r0, r1]) rfl ⟨_, _, _, _, _, rfl, ⟨HR.out.2.2, St.nil _ _, by simp [gsT]⟩, HR.out.2.1⟩
      · have hG := gs_free (un := numT) (fi := fiX) HS.out h0
        have h1 : ((tx s).toList == [33, 48]) = false := by
          rw [str_tl]
          exact beq_eq_false_iff_ne.2 h0
        have hq0 : (spW [] s).map numT ≠ [] → 0 < (tx s).size := fun h => by
          cases s with
          | nil => exact absurd rfl h
          | cons c r => rw [tx_size]; simp
        obtain ⟨ws, hws⟩ : ∃ ws, ws = (spW [] s).map numT := ⟨_, rfl⟩
        rw [← hws] at hG HW hq0
        obtain ⟨q, hq⟩ : ∃ q, q = ws.length := ⟨_, rfl⟩
        have HQ := Lib.hid hq
        by_cases hc : ws.length = 1 ∧ s.head? ≠ some 44
        · rw [if_pos hc] at hG
          have hq1 : q = 1 := by omega
          have hpos := hq0 (fun e => by rw [e] at hc; exact absurd hc.1 (by decide))
          have h44 := b44_no (c := (tx s)[0]) (fun e => hc.2 (by rw [HH.out hpos, e]))
          have HG := Lib.hid hG
          clear hG hq0 hws hc h0 hq
          go_wp2_with fail
          refine (HW.out _).mono ?_
          rintro e w1 ⟨a, c, rfl, hst, hb⟩
          rw [← HQ.out, hq1]
          rw [← HQ.out, hq1] at hst
          have hA2 := hA.below hb hA.lt
          have hb2 := hb0.trans (hb.mono hb0.size)
          have z0 := hA2.c0
          have z1 := hA2.c1
          have g0 := hA2.f 0
          have g1 := hA2.f 1
          have HST := Lib.hid hst
          clear hA hb0 x0 x1 f0 f1 hst hb
          go_wp2_with fail
          have hA3 := hA2.set none 0 0 a 1 c
          have r0 := hA3.c0
          have r1 := hA3.c1
          rw [HG.out]
          exact bodyPost_ret (v := .agg #[.slice none 0 0, .slice a 1 c]) (by simp [results, Tryz.results23, go_sem, r0, r1]) rfl ⟨_, _, _, _, _, by rw [← HQ.out, hq1], ⟨Sl.nil _ _, by rw [← HQ.out, hq1]; exact hA2.st HST.out _ _, by rw [← HQ.out]; omega⟩, below_made hb2 (Nat.le_refl _) _ _⟩
        · rw [if_neg hc] at hG
          have hqb : q ≤ 1000001 := by
            have := (spW_len s []).1
            have hl : s.length = k := by rw [← tx_size]; exact hsz
            rw [hq, hws, List.length_map]; omega
          have HG := Lib.hid hG
          have two : (q = 1 ∧ ∃ h : 0 < (tx s).size, (tx s)[0] = 44) ∨ ((q : Int) == 1) = false := by
            by_cases h1 : q = 1
            · refine .inl ⟨h1, ?_⟩
              have hpos := hq0 (fun e => by rw [e] at hq; rw [hq] at h1; exact absurd h1 (by decide))
              refine ⟨hpos, ?_⟩
              have hh := HH.out hpos
              by_cases h4 : s.head? = some 44
              · rw [h4] at hh; exact (Option.some.inj hh).symm
              · exact absurd ⟨by omega, h4⟩ hc
            · exact .inr (beq_eq_false_iff_ne.2 (by omega))
          clear hG hq0 hws hc h0 hq
          have key : ∀ (w1 : World) (a : Option Addr) (c : Nat), Below (W.alloc (.cells #[.slice none 0 0, .slice none 0 0] 25)).heap.size (W.alloc (.cells #[.slice none 0 0, .slice none 0 0] 25)) w1 → St w1 a q (ws.map tx) → True := fun _ _ _ _ _ => trivial
          clear key
          go_wp2_with fail
          refine (HW.out _).mono ?_
          rintro e w1 ⟨a, c, rfl, hst, hb⟩
          rw [← HQ.out]
          rw [← HQ.out] at hst
          have hb2 := hb0.trans (hb.mono hb0.size)
          have hA2 := (hA.below hb hA.lt).alloc (.cells #[.int .i64 q] 3)
          have hb3 := hb2.alloc hb2.size (.cells #[.int .i64 q] 3)
          have hS : Sl (w1.alloc (.cells #[.int .i64 q] 3)) (some ⟨w1.heap.size, 0, none⟩) 1 [(q : Int)] := Sl.row (l := [(q : Int)]) (heap_alloc_new w1 _)
          have hT : St (w1.alloc (.cells #[.int .i64 q] 3)) a q (ws.map tx) := hst.below ((Below.refl _ _).alloc (Nat.le_refl _) _)
          have z0 := hA2.c0
          have z1 := hA2.c1
          have g0 := hA2.f 0
          have g1 := hA2.f 1
          have HST := Lib.hid (And.intro hS hT)
          have hA3 := hA2.set (some ⟨w1.heap.size, 0, none⟩) 1 1 a q c
          have HR := Lib.hid (And.intro hA2 (And.intro hA3 hb3))
          clear hA hb0 x0 x1 f0 f1 hst hb hS hT hA2 hA3 hb2 hb3
          rcases two with ⟨hq1, hpos, h4⟩ | h1q
          · have h44 := b44_yes h4
            have h1q : ((q : Int) == 1) = true := by rw [hq1]; rfl
            clear h4 hq1
            go_wp2_with fail
            have r0 := HR.out.2.1.c0
            have r1 := HR.out.2.1.c1
            rw [HG.out]
            exact bodyPost_ret (v := .agg #[.slice (some ⟨w1.heap.size, 0, none⟩) 1 1, .slice a q c]) (by simp [results, Tryz.results23, go_sem, r0, r1]) rfl ⟨_, _, _, _, _, by rw [← HQ.out], ⟨by rw [← HQ.out]; exact HR.out.1.sl HST.out.1 _ _, by rw [← HQ.out]; exact HR.out.1.st HST.out.2 _ _, by rw [← HQ.out]; omega⟩, below_made HR.out.2.2 (Nat.le_refl _) _ _⟩
          · go_wp2_with fail
            have r0 := HR.out.2.1.c0
            have r1 := HR.out.2.1.c1
            rw [HG.out]
            exact bodyPost_ret (v := .agg #[.slice (some ⟨w1.heap.size, 0, none⟩) 1 1, .slice a q c]) (by simp [results, Tryz.results23, go_sem, r0, r1]) rfl ⟨_, _, _, _, _, by rw [← HQ.out], ⟨by rw [← HQ.out]; exact HR.out.1.sl HST.out.1 _ _, by rw [← HQ.out]; exact HR.out.1.st HST.out.2 _ _, by rw [← HQ.out]; omega⟩, below_made HR.out.2.2 (Nat.le_refl _) _ _⟩
end Go.Proofs.YtomkjmhebnecbaaGreatDoor

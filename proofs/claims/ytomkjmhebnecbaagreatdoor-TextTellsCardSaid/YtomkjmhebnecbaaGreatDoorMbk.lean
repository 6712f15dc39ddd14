import Derived.Test.YtomkjmhebnecbaaGreatDoorMbj
/-
  The reference's guess of a text with the sign; of any text.
-/
namespace Go.Proofs.YtomkjmhebnecbaaGreatDoor
set_option linter.unusedVariables false
set_option linter.unusedSimpArgs false
open Go.RowKit

/-- All blocks below B but one are as they were. -/
def Far (g B : Nat) (w w' : World) : Prop := (∀ b, b < B → b ≠ g → w'.heap[b]? = w.heap[b]?) ∧ w.heap.size ≤ w'.heap.size
theorem Far.refl (g B : Nat) (w : World) : Far g B w w := ⟨fun _ _ _ => rfl, Nat.le_refl _⟩
theorem Far.trans {g B : Nat} {x y z : World} (h : Far g B x y) (k : Far g B y z) : Far g B x z := ⟨fun b h1 h2 => (k.1 b h1 h2).trans (h.1 b h1 h2), Nat.le_trans h.2 k.2⟩
theorem Far.bel {g B : Nat} {x y : World} (h : Below x.heap.size x y) (hB : B ≤ x.heap.size) : Far g B x y := ⟨fun b h1 _ => h.block b (by omega), h.size⟩
theorem Far.box {g B k : Nat} {w w' : World} {a b : Option Addr} {n c m d : Nat} (h : Far g B w w') (hb : Bx w k a n c b m d) (hk : k < B) (hne : k ≠ g) : Bx w' k a n c b m d := (h.1 k hk hne).trans hb
theorem bx_str {W : World} {g i : Nat} {a b : Option Addr} {n c m d : Nat} {s : ByteArray} (h : Bx W g a n c b m d) : W.cell? ⟨g, i, none⟩ ≠ some (.string s) := by
  rw [cell_of_row _ _ i _ _ _ h]
  match i with
  | 0 => intro e; cases e
  | 1 => intro e; cases e
  | i + 2 => intro e; simp at e
theorem Far.st {g : Nat} {w w' : World} {a b a' : Option Addr} {n c m d q : Nat} {es : List ByteArray} (h : Far g w.heap.size w w') (hb : Bx w g a n c b m d) (hs : St w a' q es) : St w' a' q es := by
  refine ⟨hs.1, fun hq => ?_⟩
  obtain ⟨bb, off, e, hc⟩ := hs.2 hq
  refine ⟨bb, off, e, fun j hj => ?_⟩
  have hlt := World.block_lt_of_cell? w _ (hc j hj)
  have hne : bb ≠ g := by
    rintro rfl
    exact bx_str hb (hc j hj)
  rw [← hc j hj]
  exact World.cell?_of_block (h.1 bb hlt hne)
def firstI (xs : List Int) (k : Nat) : List Value := valsI (xs.take k)
theorem firstI_succ {xs : List Int} {k : Nat} (h : k < xs.length) : firstI xs k ++ [.int .i64 (xs.getD k 0)] = firstI xs (k + 1) := by
  unfold firstI valsI
  rw [List.take_succ_eq_append_getElem h, List.map_append, List.getD_eq_getElem?_getD, List.getElem?_eq_getElem h]
  rfl
theorem firstI_all {xs : List Int} {k : Nat} (h : xs.length ≤ k) : firstI xs k = valsI xs := by unfold firstI; rw [List.take_of_length_le h]
theorem own_far {g B k : Nat} {w w' : World} {v : Value} {xs : List Value} {e : Nat} (h : w.ownsRow B e 1 v k xs) (hg : g < B) (u : Value) (hw : w' = w.setCell ⟨g, 0, none⟩ u) : w'.ownsRow B e 1 v k xs := by
  rw [hw]
  exact h.kept (grownBy_setCell' w g u) (row_not h hg)
/-- What Int tells of a text that words told. -/
theorem rInt_fi (t : List UInt8) (h : t.length ≤ 1000000000) (w : World) : ∃ v, Calls Tryz.prog 41 #[.string (tx t)] w fun e w' => e = .returned (.tuple #[.int .i64 (fiX t), .bool v]) ∧ Below w.heap.size w w' := by
  obtain ⟨o, ho⟩ := is_ex (tx t) (by rw [tx_size]; unfold maxLen; omega)
  have := rInt_opt ho w
  refine ⟨(intO o).2, ?_⟩
  unfold fiX
  rw [numO_is ho]
  exact this
theorem infoInt' : (Tryz.prog.info? 3).map (fun i => (i.zero, i.size, i.bytes)) = some (some (.int .i64 0), 1, 8) := by kernel_rfl
set_option maxRecDepth 10000 in
set_option maxHeartbeats 6400000 in
theorem guess_cut (p r : List UInt8) (hz : (p ++ 35 :: r).length ≤ 1000000) (hs : ∀ c ∈ p, c ≠ 35) (W : World) : Calls Tryz.prog 23 #[.string (tx (p ++ 35 :: r))] W (GuEnd (gsT numT fiX (p ++ 35 :: r)) W) := by
  have hG := gs_cut (un := numT) (fi := fiX) (r := r) hs
  have hlen : p.length + (r.length + 1) ≤ 1000000 := by simpa using hz
  have HP := Lib.hid (fun w => words_is p (by omega) w)
  have HR := Lib.hid (fun w => words_is r (by omega) w)
  have hA := Bx.new W none 0 0 none 0 0
  have hb0 : Below W.heap.size W (W.alloc (.cells #[.slice none 0 0, .slice none 0 0] 25)) := (Below.refl _ _).alloc (Nat.le_refl _) _
  have hsz : (tx (p ++ 35 :: r)).size = p.length + (r.length + 1) := by rw [tx_size]; simp
  have e1 := tx_take p (35 :: r)
  have e2 := tx_behind35 p r
  have h33 : ((tx (p ++ 35 :: r)).toList == [33, 48]) = false := by
    rw [str_tl]
    refine beq_eq_false_iff_ne.2 fun e => ?_
    have : (35 : UInt8) ∈ ([33, 48] : List UInt8) := by rw [← e, tx_list]; simp
    exact absurd this (by decide)
  have hr33 : (tx r).toList = [33, 48] ↔ r = [33, 48] := by rw [str_tl, tx_list]
  have hno : ∀ k (h : k < (tx (p ++ 35 :: r)).size), k < p.length → (((tx (p ++ 35 :: r))[k].toNat : Int) == 35) = false := fun k h hk => b35_no (hs _ (at_left h hk))
  have hyes : ∀ (h : p.length < (tx (p ++ 35 :: r)).size), (((tx (p ++ 35 :: r))[p.length].toNat : Int) == 35) = true := fun h => b35_yes (at_sign h)
  obtain ⟨av, hav⟩ : ∃ av, av = (spW [] p).map numT := ⟨_, rfl⟩
  obtain ⟨xs, hxs⟩ : ∃ xs, xs = av.map fiX := ⟨_, rfl⟩
  obtain ⟨bs, hbs⟩ : ∃ bs, bs = (spW [] r).map numT := ⟨_, rfl⟩
  have hal : ∀ t ∈ av, t.length ≤ 1000000 := fun t ht => by
    rw [hav] at ht
    obtain ⟨w, hw, rfl⟩ := List.mem_map.1 ht
    have := (spW_len p []).2 w hw
    have h2 : (numT w).length ≤ w.length := by
      unfold numT
      split
      · cases w with
        | nil => simp [swapN]
        | cons c t => show (if c = 95 then 45 :: t else c :: t).length ≤ _; split <;> simp
      · simp
    simp at this
    omega
  have hql : av.length ≤ 1000001 := by
    have := (spW_len p []).1
    rw [hav, List.length_map]; omega
  have hbl : bs.length ≤ 1000001 := by
    have := (spW_len r []).1
    rw [hbs, List.length_map]; omega
  rw [show ((spW [] p).map fun w => fiX (numT w)) = xs by rw [hxs, hav, List.map_map]; rfl, ← hbs] at hG
  rw [← hav] at HP
  rw [← hbs] at HR
  have HG := Lib.hid hG
  have HX := Lib.hid (And.intro hxs (And.intro hal (And.intro hql hbl)))
  have H33 := Lib.hid hr33
  generalize tx (p ++ 35 :: r) = u at *
  obtain ⟨P, hP⟩ : ∃ P, P = p.length := ⟨_, rfl⟩
  obtain ⟨R, hR⟩ : ∃ R, R = r.length := ⟨_, rfl⟩
  rw [← hP] at hno hyes e1
  rw [← hP, ← hR] at hsz hlen e2
  have HNO := Lib.hid hno
  have HYES := Lib.hid hyes
  have E1 := Lib.hid e1
  have E2 := Lib.hid e2
  have hPN : ((P : Int) == ((P + (R + 1) : Nat) : Int)) = false := beq_eq_false_iff_ne.2 (by omega)
  obtain ⟨i0, hi0, hz0, hz1, hz2⟩ := info_parts infoInt'
  clear hG hxs hav hbs hal hql hbl hz hs hno hyes e1 e2 hP hR hr33
  have x0 := hA.c0
  have x1 := hA.c1
  go_enter Tryz.func23, Tryz.ntmps23
  go_wp2_with fail
  go_loop [3] (fun iv => ∃ k : Nat, iv = .int .i64 k ∧ k ≤ P) (fun iv => P - (intOf iv).toNat)
  case atStart => exact ⟨0, rfl, by omega⟩
  case round =>
    obtain ⟨k, rfl, hk⟩ := hrel
    have hku : k < u.size := by omega
    have ek : (k : Int) < (u.size : Int) := by omega
    by_cases hlt : k < P
    · have w3 : IntKind.i64.wrap ((k : Int) + 1) = (k : Int) + 1 := wrk (by omega)
      have h35 := HNO.out k hku hlt
      go_wp2_with fail
      exact ⟨⟨k + 1, rfl, by omega⟩, by simp [intOf]; omega⟩
    · obtain rfl : k = P := by omega
      have h35 := HYES.out hku
      have w3 : IntKind.i64.wrap ((k : Int) + 1) = (k : Int) + 1 := wrk (by omega)
      have e1 := E1.out
      go_wp2_with fail
      have hC := Bx.two W (.cells #[.slice none 0 0, .slice none 0 0] 25) none 0 0 none 0 0
      have hA1 := hA.alloc (.cells #[.slice none 0 0, .slice none 0 0] 25)
      have hb1 := hb0.alloc hb0.size (.cells #[.slice none 0 0, .slice none 0 0] 25)
      refine (HP.out _).mono ?_
      rintro e w2 ⟨aa, ac, rfl, hst, hb⟩
      have hA2 := hA1.below hb hA1.lt
      have hC2 := hC.below hb hC.lt
      have hb2 := hb1.trans (hb.mono hb1.size)
      obtain ⟨q, hq⟩ : ∃ q, q = av.length := ⟨_, rfl⟩
      rw [← hq] at hst ⊢
      have HQ := Lib.hid hq
      have hqm : q ≤ 1000001 := by rw [hq]; exact HX.out.2.2.1
      have HST := Lib.hid hst
      have HA2 := Lib.hid hA2
      have HC2 := Lib.hid hC2
      have HB2 := Lib.hid hb2
      have l0 := hA2.lt
      have l1 := hC2.lt
      clear hst hb hb1 hb0 hA hA1 hC x0 x1 hA2 hC2 hb2 hq HP h33 hPN e1 h35 HNO HYES hku ek hk hlt
      go_wp2_with fail
      go_loopw [7] (fun iv wr => ∃ (j : Nat) (sa : Option Addr) (sc : Nat), iv = .int .i64 j ∧ j ≤ q ∧ Bx wr (W.heap.size + 1) sa j sc none 0 0 ∧ wr.ownsRow w2.heap.size 3 1 (.slice sa j sc) j (firstI xs j) ∧ Far (W.heap.size + 1) w2.heap.size w2 wr ∧ Below W.heap.size W wr) (fun iv _ => q - (intOf iv).toNat)
      case atStart => exact ⟨0, none, 0, rfl, by omega, HC2.out, World.ownsRow_nil _ _ _ _, Far.refl _ _ _, HB2.out⟩
      case round =>
        obtain ⟨j, sa, sc, rfl, hj, hC3, ho, hf, hb⟩ := hrel
        by_cases hlt2 : j < q
        · have e3 : (j : Int) < (q : Int) := by omega
          have w4 : IntKind.i64.wrap ((j : Int) + 1) = (j : Int) + 1 := wrk (by omega)
          have hst := hf.st HC2.out HST.out
          obtain ⟨bb, off, rfl, hc⟩ := hst.2 (by omega)
          have ck := hc j hlt2
          have hjl : j < av.length := by rw [← HQ.out]; exact hlt2
          rw [getD_tx av hjl] at ck
          have hmem : av.getD j [] ∈ av := by rw [List.getD_eq_getElem?_getD, List.getElem?_eq_getElem hjl]; exact List.getElem_mem hjl
          obtain ⟨iv, KI⟩ := rInt_fi (av.getD j []) (by have := HX.out.2.1 _ hmem; omega) wr
          have hxl : j < xs.length := by rw [HX.out.1, List.length_map]; exact hjl
          have hS := firstI_succ hxl
          rw [show xs.getD j 0 = fiX (av.getD j []) by
            rw [HX.out.1]
            simp [List.getD_eq_getElem?_getD, List.getElem?_eq_getElem hjl]] at hS
          generalize tx (av.getD j []) = t at *
          generalize fiX (av.getD j []) = z at *
          replace hS := Lib.hid hS
          replace KI := Lib.hid KI
          have HC3 := Lib.hid hC3
          have HO := Lib.hid ho
          have HF := Lib.hid hf
          have HB := Lib.hid hb
          clear hst hc hmem hxl hjl hC3 ho hf hb
          go_wp2_with fail
          refine KI.out.mono ?_
          rintro e w5 ⟨rfl, hb5⟩
          have hC5 := HC3.out.below hb5 HC3.out.lt
          have HO5 := Lib.hid (own_belowT HO.out hb5)
          have HF5 := Lib.hid (HF.out.trans (Far.bel hb5 HF.out.2))
          have HB5 := Lib.hid (HB.out.trans (hb5.mono HB.out.size))
          have hsz5 := HF5.out.2
          have y0 := hC5.c0
          have HC5 := Lib.hid hC5
          clear hb5 hC5 KI ck
          go_wp2_with (at_builtin; refine wpList_append_own _ rfl (.tmp 67) (.tmp 69) 22 rfl (w2.heap.size) 3 i0 (.int .i64 0) 1 8 Tryz.underlying22 hi0 hz0 hz1 hz2 rfl (by decide) _ _ _ rfl (HO5.out.alloc _) ⟨w5.heap.size, 0, none⟩ 1 1 [.int .i64 z] rfl rfl (cell_one_new _ _ _) ?c2 ?c3 ?c4 ?c5 ?_)
          case c2 => first | rfl | (intro u hu; rw [List.mem_singleton] at hu; rw [hu]; rfl)
          case c3 => first | (unfold maxLen; omega) | omega
          case c4 => omega
          case c5 => first | omega | (show _ ≤ (w5.heap.push _).size; simp; omega)
          intro v1 w6 hown1 hg1 _
          have hne : ∀ b, b < w2.heap.size → w6.heap[b]? = w5.heap[b]? := fun b hb' => by
            rw [hg1.block b (by show b < (w5.heap.push _).size; simp; omega) (fun e => by have := (HO5.out.lt b e.symm).1; omega)]
            exact Below.heap_alloc _ _ _ (by omega)
          have hC6 : Bx w6 (W.heap.size + 1) sa j sc none 0 0 := (hne _ (by omega)).trans HC5.out
          rw [hS.out] at hown1
          obtain ⟨g1, cap1, rfl⟩ := ownsRow_succ hown1
          have hsz6 : w5.heap.size ≤ w6.heap.size := by have := hg1.size; simp at this; omega
          have hf6 : Far (W.heap.size + 1) w2.heap.size w2 w6 := HF5.out.trans ⟨fun b h1 _ => hne b h1, hsz6⟩
          have hb6 : Below W.heap.size W w6 := (HB5.out.alloc HB5.out.size _).grown hg1 (by simp; omega) (fun qq hq => by have := (HO5.out.lt qq hq).1; omega)
          have y2 := hC6.c0
          have y3 := hC6.f 0
          have hC7 := hC6.set0 (some ⟨g1, 0, none⟩) (j + 1) cap1
          have ho7 := own_far hown1 (g := W.heap.size + 1) (by omega) (.slice (some ⟨g1, 0, none⟩) (j + 1) cap1) rfl
          have hf7 : Far (W.heap.size + 1) w2.heap.size w2 (w6.setCell ⟨W.heap.size + 1, 0, none⟩ (.slice (some ⟨g1, 0, none⟩) (j + 1) cap1)) :=
            hf6.trans ⟨fun b _ h2 => Below.heap_setCell _ _ _ _ h2, by simp [World.setCell]⟩
          have hb7 := hb6.setCell (p := ⟨W.heap.size + 1, 0, none⟩) (show W.heap.size ≤ W.heap.size + 1 by omega) (.slice (some ⟨g1, 0, none⟩) (j + 1) cap1)
          have HE := Lib.hid (And.intro hC7 (And.intro ho7 (And.intro hf7 hb7)))
          clear hown1 hg1 hne hC6 hf6 hb6 hC7 ho7 hf7 hb7 HO HF HB HC3 HC5 HO5 HF5 HB5 y0
          go_wp2_with fail
          exact ⟨⟨j + 1, _, _, rfl, by omega, HE.out.1, HE.out.2.1, HE.out.2.2.1, HE.out.2.2.2⟩, by simp [intOf]; omega⟩
        · have e3 : ¬ (j : Int) < (q : Int) := by omega
          obtain rfl : j = q := by omega
          have hxl : xs.length = j := by rw [HX.out.1, List.length_map]; exact HQ.out.symm
          rw [firstI_all (by rw [hxl]; exact Nat.le_refl _)] at ho
          have hSl : Sl wr sa j xs := by
            obtain ⟨a9, c9, e9, hs9⟩ := owns_sl ho
            cases e9
            exact hs9
          have hA3 := hf.box HA2.out l0 (by omega)
          have e2 := E2.out
          have HSL := Lib.hid hSl
          have HBL := Lib.hid HX.out.2.2.2
          have HB := Lib.hid hb
          have HA3 := Lib.hid hA3
          have HC3 := Lib.hid hC3
          clear ho hSl hf hb HX HST HA2 HC2 HB2 HQ hxl
          by_cases h0 : r = [33, 48]
          · have h33 := H33.out.2 h0
            have hGx : gsT numT fiX (p ++ 35 :: r) = (xs, []) := by rw [HG.out, if_pos h0]
            have HGX := Lib.hid hGx
            have y0 := hC3.c0
            have y1 := hC3.c1
            have z0 := hA3.c0
            have z1 := hA3.c1
            have f0 := hA3.f 0
            have f1 := hA3.f 1
            clear HG h0 hGx HR hA3 hC3
            generalize tx r = tr at *
            go_wp2_with fail
            have hA4 := HA3.out.set sa j sc none 0 0
            have r0 := hA4.c0
            have r1 := hA4.c1
            rw [HGX.out]
            exact bodyPost_ret (v := .agg #[.slice sa j sc, .slice none 0 0]) (by simp [results, Tryz.results23, go_sem, r0, r1]) rfl ⟨_, _, _, _, _, rfl, ⟨HA3.out.sl HSL.out _ _, St.nil _ _, by simp⟩, below_made HB.out (Nat.le_refl _) _ _⟩
          · have h33 : ((tx r).toList == [33, 48]) = false := beq_eq_false_iff_ne.2 fun e => h0 (H33.out.1 e)
            have hGx : gsT numT fiX (p ++ 35 :: r) = (xs, bs) := by rw [HG.out, if_neg h0]
            have HGX := Lib.hid hGx
            have y0 := hC3.c0
            have y1 := hC3.c1
            clear HG h0 hGx H33 hA3 hC3
            generalize tx r = tr at *
            go_wp2_with fail
            refine (HR.out _).mono ?_
            rintro e w7 ⟨ba, bc, rfl, hst7, hb7⟩
            have hA7 := HA3.out.below hb7 HA3.out.lt
            have hC7 := HC3.out.below hb7 HC3.out.lt
            have hs7 := HSL.out.below hb7
            have hbb := HB.out.trans (hb7.mono HB.out.size)
            have y2 := hC7.c0
            have y3 := hC7.c1
            have y4 := hC7.f 1
            have hC8 := hC7.set1 ba bs.length bc
            have hA8 := hA7.setOther (p := ⟨W.heap.size + 1, 1, none⟩) (show W.heap.size ≠ W.heap.size + 1 by omega) (.slice ba bs.length bc)
            have hs8 := sl_set (u := .slice ba bs.length bc) ⟨_, _, _, hC7.c1⟩ hs7
            have ht8 := st_set (u := .slice ba bs.length bc) ⟨_, _, _, hC7.c1⟩ hst7
            have hb8 := hbb.setCell (p := ⟨W.heap.size + 1, 1, none⟩) (show W.heap.size ≤ W.heap.size + 1 by omega) (.slice ba bs.length bc)
            have k0 := hC8.c0
            have k1 := hC8.c1
            have z0 := hA8.c0
            have z1 := hA8.c1
            have f0 := hA8.f 0
            have f1 := hA8.f 1
            have HE := Lib.hid (And.intro hA8 (And.intro hs8 (And.intro ht8 hb8)))
            clear y0 y1 hA7 hC7 hs7 hst7 hb7 hbb hC8 hA8 hs8 ht8 hb8 HR HB HSL HA3 HC3
            go_wp2_with fail
            have hA9 := HE.out.1.set sa j sc ba bs.length bc
            have r0 := hA9.c0
            have r1 := hA9.c1
            rw [HGX.out]
            exact bodyPost_ret (v := .agg #[.slice sa j sc, .slice ba bs.length bc]) (by simp [results, Tryz.results23, go_sem, r0, r1]) rfl ⟨_, _, _, _, _, rfl, ⟨HE.out.1.sl HE.out.2.1 _ _, HE.out.1.st HE.out.2.2.1 _ _, by have := HBL.out; show bs.length ≤ _; omega⟩, below_made HE.out.2.2.2 (Nat.le_refl _) _ _⟩
theorem guess_is (s : List UInt8) (hz : s.length ≤ 1000000) (W : World) : Calls Tryz.prog 23 #[.string (tx s)] W (GuEnd (gsT numT fiX s) W) := by
  rcases cut35 s with h | ⟨p, r, rfl, h⟩
  · exact guess_free s hz h W
  · exact guess_cut p r hz h W
/-- How large what is guessed is. -/
theorem gs_small {s : List UInt8} (hz : s.length ≤ 1000000) : (gsT numT fiX s).2.length ≤ s.length + 1 ∧ ∀ t ∈ (gsT numT fiX s).2, t.length ≤ 1000000 := by
  have num : ∀ w : List UInt8, (numT w).length ≤ w.length := fun w => by
    unfold numT
    split
    · cases w with
      | nil => simp [swapN]
      | cons c t => show (if c = 95 then 45 :: t else c :: t).length ≤ _; split <;> simp
    · simp
  have ws : ∀ r : List UInt8, r.length ≤ 1000000 → ((spW [] r).map numT).length ≤ r.length + 1 ∧ ∀ t ∈ (spW [] r).map numT, t.length ≤ 1000000 := fun r hr => by
    obtain ⟨h1, h2⟩ := spW_len r []
    refine ⟨by rw [List.length_map]; omega, fun t ht => ?_⟩
    obtain ⟨w, hw, rfl⟩ := List.mem_map.1 ht
    have := h2 w hw
    have := num w
    simp at *
    omega
  rcases cut35 s with h | ⟨p, r, rfl, h⟩
  · by_cases h0 : s = [33, 48]
    · subst h0
      exact ⟨by simp [gsT], fun t ht => by simp [gsT] at ht⟩
    · rw [gs_free h h0]
      split
      · exact ws s hz
      · exact ws s hz
  · rw [gs_cut h]
    have := ws r (by simp at hz; omega)
    split
    · exact ⟨by simp, fun t ht => by cases ht⟩
    · exact ⟨by have := this.1; show ((spW [] r).map numT).length ≤ _; rw [List.length_append, List.length_cons]; omega, this.2⟩
end Go.Proofs.YtomkjmhebnecbaaGreatDoor

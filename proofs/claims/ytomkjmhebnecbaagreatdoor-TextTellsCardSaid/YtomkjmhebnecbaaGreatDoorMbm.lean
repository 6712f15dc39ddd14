import Derived.Test.YtomkjmhebnecbaaGreatDoorMbl
/-
  TextTells at every array and text.
-/
namespace Go.Proofs.YtomkjmhebnecbaaGreatDoor
set_option linter.unusedVariables false
set_option linter.unusedSimpArgs false
open Go.RowKit

theorem to_lists (es : List ByteArray) : ∃ fs : List (List UInt8), fs.map tx = es := ⟨es.map fun s => s.data.toList, by
  rw [List.map_map]
  conv => rhs; rw [← List.map_id es]
  exact List.map_congr_left fun s _ => tx_back s⟩
theorem few_txs {l : List Int} {es : List (List UInt8)} (h : fewB l (es.map tx) = true) : l.length ≤ 20 ∧ es.length ≤ 300 ∧ ∀ t ∈ es, t.length ≤ 120 := by
  obtain ⟨h1, h2, h3⟩ := fewB_yes h
  rw [List.length_map] at h2 h3
  refine ⟨h1, h2, fun t ht => ?_⟩
  obtain ⟨j, hj, rfl⟩ := List.getElem_of_mem ht
  have := h3 j hj
  rw [getD_tx es hj, tx_size, List.getD_eq_getElem?_getD, List.getElem?_eq_getElem hj] at this
  exact this
set_option maxRecDepth 10000 in
set_option maxHeartbeats 3200000 in
theorem ttells_any {a b : Option Addr} {n c m d : Nat} {l : List Int} {es0 : List ByteArray} (s : ByteArray) (W : World) (h : Vl W a n b m l es0) (hz : ∀ j, j < m → (es0.getD j ByteArray.empty).size ≤ maxLen) (hs : s.size ≤ maxLen) (hx : XT W) :
    Calls Tryz.prog 3 #[.agg #[.slice a n c, .slice b m d], .string s] W (TrueEnd W) := by
  obtain ⟨es, rfl⟩ := to_lists es0
  obtain rfl : es.length = m := by have := h.t.1; rwa [List.length_map] at this
  unfold maxLen at hs
  have hA := Bx.new W a n c b es.length d
  have hb0 : Below W.heap.size W (W.alloc (.cells #[.slice a n c, .slice b es.length d] 25)) := (Below.refl _ _).alloc (Nat.le_refl _) _
  have KF := fun w (hb : Below W.heap.size W w) => Few_is (c := c) (d := d) w (h.below hb) hz
  have KX := Lib.hid (fun w (hb : Below W.heap.size W w) => tshown_is w (hx.below hb))
  by_cases hfa : fewB l (es.map tx) = true
  · obtain ⟨f1, f2, f3⟩ := few_txs hfa
    rw [hfa] at KF
    by_cases hsz : s.size ≤ 3000
    · have T1 := fun w (hb : Below W.heap.size W w) => Text_is (c := c) (d := d) w (h.below hb) (fun t ht => by have := f3 t ht; omega) (by omega) (hx.below hb).tab
      have T2 := fun w (hb : Below W.heap.size W w) => rText_is (c := c) (d := d) w (h.below hb) (fun t ht => by have := f3 t ht; omega) (by omega)
      have hsl : s.data.toList.length = s.size := by simp
      have R1 := fun w (hb : Below W.heap.size W w) => Read_is s.data.toList (by omega) w (hx.below hb).err
      have R2 := fun w => rRead_is s.data.toList (by omega) w
      rw [tx_back] at R1 R2
      unfold TtEnd at T1 T2
      have KS := Lib.hid (fun w => rVSame_yes (c1 := 0) (d1 := 0) (c2 := 0) (d2 := 0) w (Vl.none_ w) (Vl.none_ w) (by omega))
      replace KF := Lib.hid KF
      replace T1 := Lib.hid T1
      replace T2 := Lib.hid T2
      replace R1 := Lib.hid R1
      replace R2 := Lib.hid R2
      generalize tx (if mayV l (es.map tx) = true then arrT litT Lib.itoa l es else []) = t at *
      generalize (if mayV l (es.map tx) = true then (0 : Int) else 1) = z at *
      clear h hz hx hfa f1 f2 f3 hsl
      generalize es.length = m at *
      go_enter Tryz.func3, Tryz.ntmps3
      go_wp2_with fail
      refine (KX.out _ hb0).mono ?_
      rintro y w1 ⟨rfl, hb⟩
      have hA1 := hA.below hb hA.lt
      have hb1 := hb0.trans (hb.mono hb0.size)
      clear hA hb0 hb KX
      have x0 := hA1.c0
      have x1 := hA1.c1
      go_wp2_with fail
      refine (KF.out _ hb1).mono ?_
      rintro y w2 ⟨rfl, hb⟩
      have hA2 := hA1.below hb hA1.lt
      have hb2 := hb1.trans (hb.mono hb1.size)
      clear hA1 hb1 hb x0 x1 KF
      have x0 := hA2.c0
      have x1 := hA2.c1
      go_wp2_with fail
      refine (T1.out _ hb2).mono ?_
      rintro y w3 ⟨rfl, hb⟩
      have hA3 := hA2.below hb hA2.lt
      have hb3 := hb2.trans (hb.mono hb2.size)
      clear hA2 hb2 hb x0 x1 T1
      have x0 := hA3.c0
      have x1 := hA3.c1
      go_wp2_with fail
      refine (T2.out _ hb3).mono ?_
      rintro y w4 ⟨rfl, hb⟩
      have hb4 := hb3.trans (hb.mono hb3.size)
      clear hA3 hb3 hb x0 x1 T2
      go_wp2_with fail
      refine (R1.out _ hb4).mono ?_
      rintro y w5 (⟨a5, n5, c5, b5, m5, d5, l5, e5, rfl, t5, V5, h5, hb⟩ | ⟨rfl, no5, hb⟩)
      · obtain rfl : e5.length = m5 := by have := V5.t.1; rwa [List.length_map] at this
        have hX := Bx.new w5 a5 n5 c5 b5 e5.length d5
        have hr : Below w5.heap.size w5 (w5.alloc (.cells #[.slice a5 n5 c5, .slice b5 e5.length d5] 25)) := (Below.refl _ _).alloc (Nat.le_refl _) _
        have V6 := V5.below hr
        have hb5 := hb4.trans (hb.mono hb4.size)
        have hb6 := hb5.trans (hr.mono hb5.size)
        have HT := Lib.hid t5
        clear R1 hb4 hb hb5 hr t5
        go_wp2_with fail
        refine (R2.out _).mono ?_
        rintro y w7 (⟨a7, n7, c7, b7, d7, l7, e7, rfl, t7, V7, hb⟩ | ⟨rfl, no7, hb⟩)
        · obtain ⟨rfl, rfl⟩ := HT.out.inj t7
          obtain rfl : n5 = n7 := by have := V5.s.1; have := V7.s.1; omega
          have hb7 := hb6.trans (hb.mono hb6.size)
          have hr : Below w7.heap.size w7 (w7.alloc (.cells #[.slice a7 n5 c7, .slice b7 e5.length d7] 25)) := (Below.refl _ _).alloc (Nat.le_refl _) _
          have hX8 := (hX.below hb hX.lt).alloc (.cells #[.slice a7 n5 c7, .slice b7 e5.length d7] 25)
          have hY8 := Bx.new w7 a7 n5 c7 b7 e5.length d7
          have K8 := Lib.hid (rVSame_yes (c1 := c5) (d1 := d5) (c2 := c7) (d2 := d7) _ ((V6.below hb).below hr) (V7.below hr) (by omega))
          have hb8 := hb7.trans (hr.mono hb7.size)
          have x0 := hX8.c0
          have x1 := hX8.c1
          have y0 := hY8.c0
          have y1 := hY8.c1
          clear V6 V7 V5 hX hb hb6 hb7 hr hX8 hY8 R2 t7 h5
          generalize e5.length = m5 at *
          go_wp2_with fail
          refine K8.out.mono ?_
          rintro y w9 ⟨rfl, hb⟩
          go_wp2_with fail
          go_ret
          exact ⟨rfl, hb8.trans (hb.mono hb8.size)⟩
        · exact absurd HT.out (no7 _ _)
      · have hX := Bx.new w5 none 0 0 none 0 0
        have hr : Below w5.heap.size w5 (w5.alloc (.cells #[.slice none 0 0, .slice none 0 0] 25)) := (Below.refl _ _).alloc (Nat.le_refl _) _
        have hb5 := hb4.trans (hb.mono hb4.size)
        have hb6 := hb5.trans (hr.mono hb5.size)
        have HN := Lib.hid no5
        clear R1 hb4 hb hb5 hr no5
        go_wp2_with fail
        refine (R2.out _).mono ?_
        rintro y w7 (⟨a7, n7, c7, b7, d7, l7, e7, rfl, t7, V7, hb⟩ | ⟨rfl, no7, hb⟩)
        · exact absurd t7 (HN.out _ _)
        · have hb7 := hb6.trans (hb.mono hb6.size)
          have hr : Below w7.heap.size w7 (w7.alloc (.cells #[.slice none 0 0, .slice none 0 0] 25)) := (Below.refl _ _).alloc (Nat.le_refl _) _
          have hX8 := (hX.below hb hX.lt).alloc (.cells #[.slice none 0 0, .slice none 0 0] 25)
          have hY8 := Bx.new w7 none 0 0 none 0 0
          have hb8 := hb7.trans (hr.mono hb7.size)
          have x0 := hX8.c0
          have x1 := hX8.c1
          have y0 := hY8.c0
          have y1 := hY8.c1
          clear hX hb hb6 hb7 hr hX8 hY8 R2 no7
          go_wp2_with fail
          refine (KS.out _).mono ?_
          rintro y w9 ⟨rfl, hb⟩
          go_wp2_with fail
          go_ret
          exact ⟨rfl, hb8.trans (hb.mono hb8.size)⟩
    · have hsz2 : 3000 < s.size := by omega
      replace KF := Lib.hid KF
      clear h hz hx hfa f1 f2 f3 hsz
      generalize es.length = m at *
      go_enter Tryz.func3, Tryz.ntmps3
      go_wp2_with fail
      refine (KX.out _ hb0).mono ?_
      rintro y w1 ⟨rfl, hb⟩
      have hA1 := hA.below hb hA.lt
      have hb1 := hb0.trans (hb.mono hb0.size)
      clear hA hb0 hb KX
      have x0 := hA1.c0
      have x1 := hA1.c1
      go_wp2_with fail
      refine (KF.out _ hb1).mono ?_
      rintro y w2 ⟨rfl, hb⟩
      go_wp2_with fail
      go_ret
      exact ⟨rfl, hb1.trans (hb.mono hb1.size)⟩
  · have hfa : fewB l (es.map tx) = false := by simpa using hfa
    rw [hfa] at KF
    replace KF := Lib.hid KF
    clear h hz hx hfa
    generalize es.length = m at *
    go_enter Tryz.func3, Tryz.ntmps3
    go_wp2_with fail
    refine (KX.out _ hb0).mono ?_
    rintro y w1 ⟨rfl, hb⟩
    have hA1 := hA.below hb hA.lt
    have hb1 := hb0.trans (hb.mono hb0.size)
    clear hA hb0 hb KX
    have x0 := hA1.c0
    have x1 := hA1.c1
    go_wp2_with fail
    refine (KF.out _ hb1).mono ?_
    rintro y w2 ⟨rfl, hb⟩
    go_wp2_with fail
    go_ret
    exact ⟨rfl, hb1.trans (hb.mono hb1.size)⟩
end Go.Proofs.YtomkjmhebnecbaaGreatDoor

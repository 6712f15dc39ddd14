import Derived.Test.YtomkjmhebnecbaaDoorMaz
/-
  TextBack, TextVery, TextOnes at every input.
-/
namespace Go.Proofs.YtomkjmhebnecbaaDoor
set_option linter.unusedVariables false
set_option linter.unusedSimpArgs false
open Go.RowKit

theorem to_lists (es : List ByteArray) : ∃ fs : List (List UInt8), fs.map tx = es := ⟨es.map fun s => s.data.toList, by
  rw [List.map_map]
  conv => rhs; rw [← List.map_id es]
  exact List.map_congr_left fun s _ => tx_back s⟩
theorem few_txs {l : List Int} {es : List (List UInt8)} (h : fewB l (es.map tx) = true) : l.length ≤ 20 ∧ es.length ≤ 300 ∧ ∀ t ∈ es, t.length ≤ 120 := by
  obtain ⟨h1, h2, h3⟩ := fewB_yes h
  rw [List.length_map] at h2 h3
  refine ⟨h1, h2, fun t ht => ?_⟩
  obtain ⟨j, hj, rfl⟩ := List.getElem_of_mem ht
  have := h3 j hj
  rw [getD_tx es hj, tx_size, List.getD_eq_getElem?_getD, List.getElem?_eq_getElem hj] at this
  exact this
theorem beq_refl' (l : List Int) (es : List ByteArray) : ((l == l) && decide (es = es)) = true := by simp
set_option maxRecDepth 10000 in
set_option maxHeartbeats 1600000 in
theorem tback_any {a b : Option Addr} {n c m d : Nat} {l : List Int} {es : List ByteArray} (W : World) (h : Vl W a n b m l es) (hz : ∀ j, j < m → (es.getD j ByteArray.empty).size ≤ maxLen) (hx : XT W) :
    Calls Tryd.prog 3 #[.agg #[.slice a n c, .slice b m d]] W (TrueEnd W) := by
  obtain ⟨fs, rfl⟩ := to_lists es
  obtain rfl : fs.length = m := by have := h.t.1; rwa [List.length_map] at this
  have hA := Bx.new W a n c b fs.length d
  have hb0 : Below W.heap.size W (W.alloc (.cells #[.slice a n c, .slice b fs.length d] 25)) := (Below.refl _ _).alloc (Nat.le_refl _) _
  have KF := fun w (hb : Below W.heap.size W w) => Few_is (c := c) (d := d) w (h.below hb) hz
  have HX := Lib.hid hx
  by_cases hfa : fewB l (fs.map tx) = true
  · obtain ⟨f1, f2, f3⟩ := few_txs hfa
    rw [hfa] at KF
    have KT := fun w (hb : Below W.heap.size W w) => Text_is (c := c) (d := d) w (h.below hb) (fun t ht => by have := f3 t ht; omega) (by omega) (hx.below hb).tab
    have hq1 : n ≤ 1000000 := by have := h.s.1; omega
    by_cases hv : mayV l (fs.map tx) = true
    · rw [hv] at KT
      have hta : TA (arrT litT Lib.itoa l fs) l fs := ⟨hv, rfl⟩
      have hsz : (arrT litT Lib.itoa l fs).length ≤ 1000000000 := by
        obtain ⟨g1, g2, g3⟩ := hta.few
        have hz2 := vec_len g1
        match l, g3 with
        | [], _ => have := row_len g1; show (rowT litT fs).length ≤ _; omega
        | [x], _ => show (vecT litT fs).length ≤ _; omega
        | x :: y :: r, g3 =>
          have hmay := (hta.may).1
          have hal : ∀ t ∈ (x :: y :: r).map Lib.itoa, t.length ≤ 1000 := fun t ht => by
            obtain ⟨z, hz, rfl⟩ := List.mem_map.1 ht
            obtain ⟨j, hj, rfl⟩ := mem_at hz
            exact fig_len (may_i64 hmay rfl j hj)
          have := row_len hal
          rw [List.length_map] at this
          show (rowT litT ((x :: y :: r).map Lib.itoa) ++ 35 :: vecT litT fs).length ≤ _
          rw [List.length_append, List.length_cons]
          omega
      have KR : ∀ w, Below W.heap.size W w → Calls Tryd.prog 10 #[.string (tx (arrT litT Lib.itoa l fs))] w (fun e W' => ∃ a2 n2 c2 b2 d2, e = .returned (.tuple #[.agg #[.slice a2 n2 c2, .slice b2 fs.length d2], .int .i64 0]) ∧ Vl W' a2 n2 b2 fs.length l (fs.map tx) ∧ n2 ≤ 1000000 ∧ Below w.heap.size w W') := fun w hb => by
        refine (Read_is _ hsz w (hx.below hb).err).mono ?_
        rintro e W' (⟨a2, n2, c2, b2, m2, d2, l2, es2, rfl, ht, hV, hc, hb⟩ | ⟨_, hno, _⟩)
        · obtain ⟨rfl, rfl⟩ := ht.inj hta
          obtain rfl : es2.length = m2 := by have := hV.t.1; rwa [List.length_map] at this
          exact ⟨a2, n2, c2, b2, d2, rfl, hV, by have := hV.s.1; have := h.s.1; omega, hb⟩
        · exact absurd hta (hno _ _)
      have KS := fun w a2 n2 c2 b2 d2 (hb : Below W.heap.size W w) (h2 : Vl w a2 n2 b2 fs.length l (fs.map tx)) (q : n2 ≤ 1000000) => VSame_is (c1 := c2) (d1 := d2) (c2 := c) (d2 := d) w h2 (h.below hb) q hq1
      rw [beq_refl'] at KS
      unfold TtEnd at KT
      rw [show (if true = true then arrT litT Lib.itoa l fs else []) = arrT litT Lib.itoa l fs from rfl, show (if true = true then (0 : Int) else 1) = 0 from rfl] at KT
      replace KF := Lib.hid KF
      replace KT := Lib.hid KT
      replace KR := Lib.hid KR
      replace KS := Lib.hid KS
      generalize tx (arrT litT Lib.itoa l fs) = s at *
      clear h hz hx hfa f1 f2 f3 hq1 hv hta hsz
      generalize fs.length = m at *
      go_enter Tryd.func3, Tryd.ntmps3
      go_wp2_with fail
      refine (tshown_is _ (HX.out.below hb0)).mono ?_
      rintro y w1 ⟨rfl, hb⟩
      have hA1 := hA.below hb hA.lt
      have hb1 := hb0.trans (hb.mono hb0.size)
      clear hA hb0 hb
      have x0 := hA1.c0
      have x1 := hA1.c1
      go_wp2_with fail
      refine (KF.out _ hb1).mono ?_
      rintro y w2 ⟨rfl, hb⟩
      have hA2 := hA1.below hb hA1.lt
      have hb2 := hb1.trans (hb.mono hb1.size)
      clear hA1 hb1 hb x0 x1
      have x0 := hA2.c0
      have x1 := hA2.c1
      go_wp2_with fail
      refine (KT.out _ hb2).mono ?_
      rintro y w3 ⟨rfl, hb⟩
      have hA3 := hA2.below hb hA2.lt
      have hb3 := hb2.trans (hb.mono hb2.size)
      clear hA2 hb2 hb x0 x1
      go_wp2_with fail
      refine (KR.out _ hb3).mono ?_
      rintro y w4 ⟨a2, n2, c2, b2, d2, rfl, hV, hq, hb⟩
      have hA4 := (hA3.below hb hA3.lt).alloc (.cells #[.slice a2 n2 c2, .slice b2 m d2] 25)
      have hB4 := Bx.new w4 a2 n2 c2 b2 m d2
      have hb4 := hb3.trans (hb.mono hb3.size)
      have hb5 := hb4.alloc hb4.size (.cells #[.slice a2 n2 c2, .slice b2 m d2] 25)
      have K5 := Lib.hid (KS.out _ a2 n2 c2 b2 d2 hb5 (hV.below ((Below.refl _ _).alloc (Nat.le_refl _) _)) hq)
      have x0 := hA4.c0
      have x1 := hA4.c1
      have z0 := hB4.c0
      have z1 := hB4.c1
      clear hA3 hb3 hb hV hq KS KR KT KF hb4
      go_wp2_with fail
      refine K5.out.mono ?_
      rintro y w5 ⟨rfl, hb⟩
      go_wp2_with fail
      go_ret
      exact ⟨rfl, hb5.trans (hb.mono hb5.size)⟩
    · have hv : mayV l (fs.map tx) = false := by simpa using hv
      have KM := fun w (hb : Below W.heap.size W w) => VMay_is (c := c) (d := d) w (h.below hb) hz
      rw [hv] at KT KM
      unfold TtEnd at KT
      rw [show (tx (if false = true then arrT litT Lib.itoa l fs else [])) = (⟨#[]⟩ : ByteArray) from rfl, show (if false = true then (0 : Int) else 1) = 1 from rfl] at KT
      replace KF := Lib.hid KF
      replace KT := Lib.hid KT
      replace KM := Lib.hid KM
      clear h hz hx hfa f1 f2 f3 hq1 hv
      generalize fs.length = m at *
      go_enter Tryd.func3, Tryd.ntmps3
      go_wp2_with fail
      refine (tshown_is _ (HX.out.below hb0)).mono ?_
      rintro y w1 ⟨rfl, hb⟩
      have hA1 := hA.below hb hA.lt
      have hb1 := hb0.trans (hb.mono hb0.size)
      clear hA hb0 hb
      have x0 := hA1.c0
      have x1 := hA1.c1
      go_wp2_with fail
      refine (KF.out _ hb1).mono ?_
      rintro y w2 ⟨rfl, hb⟩
      have hA2 := hA1.below hb hA1.lt
      have hb2 := hb1.trans (hb.mono hb1.size)
      clear hA1 hb1 hb x0 x1
      have x0 := hA2.c0
      have x1 := hA2.c1
      go_wp2_with fail
      refine (KT.out _ hb2).mono ?_
      rintro y w3 ⟨rfl, hb⟩
      have hA3 := hA2.below hb hA2.lt
      have hb3 := hb2.trans (hb.mono hb2.size)
      clear hA2 hb2 hb x0 x1
      have x0 := hA3.c0
      have x1 := hA3.c1
      go_wp2_with fail
      refine (KM.out _ hb3).mono ?_
      rintro y w4 ⟨rfl, hb⟩
      go_wp2_with fail
      go_ret
      exact ⟨rfl, hb3.trans (hb.mono hb3.size)⟩
  · have hfa : fewB l (fs.map tx) = false := by simpa using hfa
    rw [hfa] at KF
    replace KF := Lib.hid KF
    clear h hz hx hfa
    generalize fs.length = m at *
    go_enter Tryd.func3, Tryd.ntmps3
    go_wp2_with fail
    refine (tshown_is _ (HX.out.below hb0)).mono ?_
    rintro y w1 ⟨rfl, hb⟩
    have hA1 := hA.below hb hA.lt
    have hb1 := hb0.trans (hb.mono hb0.size)
    clear hA hb0 hb
    have x0 := hA1.c0
    have x1 := hA1.c1
    go_wp2_with fail
    refine (KF.out _ hb1).mono ?_
    rintro y w2 ⟨rfl, hb⟩
    go_wp2_with fail
    go_ret
    exact ⟨rfl, hb1.trans (hb.mono hb1.size)⟩
end Go.Proofs.YtomkjmhebnecbaaDoor

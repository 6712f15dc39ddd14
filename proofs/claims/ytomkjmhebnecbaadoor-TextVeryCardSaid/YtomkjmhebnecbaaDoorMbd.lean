import Derived.Test.YtomkjmhebnecbaaDoorMbc
/-
  TextVery and TextOnes at every input.
-/
namespace Go.Proofs.YtomkjmhebnecbaaDoor
set_option linter.unusedVariables false
set_option linter.unusedSimpArgs false
open Go.RowKit

set_option maxRecDepth 10000 in
set_option maxHeartbeats 1600000 in
theorem tvery_any (s : ByteArray) (W : World) (hs : s.size ≤ maxLen) (hx : XT W) : Calls Tryd.prog 4 #[.string s] W (TrueEnd W) := by
  have HX := Lib.hid hx
  unfold maxLen at hs
  by_cases hz : s.size ≤ 3000
  · have KR : ∀ w, Below W.heap.size W w → Calls Tryd.prog 10 #[.string s] w (RxEnd s.data.toList w) := fun w hb => by
      have := Read_is s.data.toList (by have : s.data.toList.length = s.size := (by simp); omega) w (hx.below hb).err
      rw [tx_back] at this
      exact this
    replace KR := Lib.hid KR
    clear hx
    go_enter Tryd.func4, Tryd.ntmps4
    go_wp2_with fail
    refine (tshown_is _ HX.out).mono ?_
    rintro y w1 ⟨rfl, hb1⟩
    go_wp2_with fail
    refine (KR.out _ hb1).mono ?_
    rintro y w2 (⟨a, n, c, b, m, d, l, es, rfl, ht, hV, hc, hb⟩ | ⟨rfl, hno, hb⟩)
    · obtain rfl : es.length = m := by have := hV.t.1; rwa [List.length_map] at this
      obtain ⟨g1, g2, g3⟩ := ht.few
      have hb2 := hb1.trans (hb.mono hb1.size)
      have hb3 : Below w2.heap.size w2 (w2.alloc (.cells #[.slice a n c, .slice b es.length d] 25)) := (Below.refl _ _).alloc (Nat.le_refl _) _
      have KT := fun w (hb : Below w2.heap.size w2 w) => Text_is (c := c) (d := d) w (hV.below hb) g1 (by omega) ((HX.out.below hb2).below hb).tab
      have KM := fun w (hb : Below w2.heap.size w2 w) => Text_may (c := c) (d := d) w (hV.below hb) g1
      rw [ht.1] at KT KM
      unfold TtEnd at KT
      rw [show (if true = true then arrT litT Lib.itoa l es else []) = s.data.toList from ht.2.symm, show (if true = true then (0 : Int) else 1) = 0 from rfl, tx_back] at KT
      replace KT := Lib.hid KT
      replace KM := Lib.hid KM
      have hB := Bx.new w2 a n c b es.length d
      have hb4 := hb2.trans (hb3.mono hb2.size)
      have x0 := hB.c0
      have x1 := hB.c1
      clear ht hV hc g1 g2 g3 KR hb1 hb
      generalize es.length = m at *
      go_wp2_with fail
      refine (KT.out _ hb3).mono ?_
      rintro y w3 ⟨rfl, hb⟩
      have hB2 := hB.below hb hB.lt
      have hb5 := hb4.trans (hb.mono hb4.size)
      have hb6 := hb3.trans (hb.mono hb3.size)
      clear x0 x1 hB hb4 hb3 hb KT
      have x0 := hB2.c0
      have x1 := hB2.c1
      go_wp2_with fail
      refine (KM.out _ hb6).mono ?_
      rintro y w4 ⟨rfl, hb⟩
      go_wp2_with fail
      go_ret
      exact ⟨rfl, hb5.trans (hb.mono hb5.size)⟩
    · have hb2 := hb1.trans (hb.mono hb1.size)
      have hB := Bx.new w2 none 0 0 none 0 0
      have hb3 := hb2.alloc hb2.size (.cells #[.slice none 0 0, .slice none 0 0] 25)
      have KS := Lib.hid (fun w => VSame_is (c1 := 0) (d1 := 0) (c2 := 0) (d2 := 0) w (Vl.none_ w) (Vl.none_ w) (by omega) (by omega))
      rw [show (([] : List Int) == []) = true from rfl, show decide (([] : List ByteArray) = []) = true from rfl, show (true && true) = true from rfl] at KS
      have x0 := hB.c0
      have x1 := hB.c1
      clear hno KR hb1 hb hb2
      go_wp2_with fail
      refine (KS.out _).mono ?_
      rintro y w3 ⟨rfl, hb⟩
      go_wp2_with fail
      go_ret
      exact ⟨rfl, hb3.trans (hb.mono hb3.size)⟩
  · have hz2 : 3000 < s.size := by omega
    clear hz hx
    go_enter Tryd.func4, Tryd.ntmps4
    go_wp2_with fail
    refine (tshown_is _ HX.out).mono ?_
    rintro y w1 ⟨rfl, hb⟩
    go_wp2_with fail
    go_ret
    exact ⟨rfl, hb⟩

/-! ### TextOnes -/
theorem few_cases {l : List Int} {es : List (List UInt8)} : fewB l (es.map tx) = false ∨ (fewB l (es.map tx) = true ∧ (∀ t ∈ es, t.length ≤ 1000) ∧ es.length ≤ 1000000 ∧ l.length ≤ 20) := by
  cases h : fewB l (es.map tx) with
  | false => exact .inl rfl
  | true =>
    obtain ⟨f1, f2, f3⟩ := few_txs h
    exact .inr ⟨rfl, fun t ht => by have := f3 t ht; omega, by omega, f1⟩
/-- What Text tells: the text, and the error's number. -/
def ttS (l : List Int) (es : List (List UInt8)) : ByteArray := tx (if mayV l (es.map tx) = true then arrT litT Lib.itoa l es else [])
theorem txs_inj {es fs : List (List UInt8)} (h : es.map tx = fs.map tx) : es = fs := by
  induction es generalizing fs with
  | nil => exact (List.map_eq_nil_iff.1 h.symm).symm
  | cons e es ih =>
    cases fs with
    | nil => cases h
    | cons f fs =>
      injection h with h1 h2
      rw [tx_inj h1, ih h2]
theorem ones_plain {l k : List Int} {es fs : List (List UInt8)} (h1 : mayV l (es.map tx) = true) (h2 : mayV k (fs.map tx) = true) :
    (ttS l es = ttS k fs ∧ ((l == k) && decide (es.map tx = fs.map tx)) = true) ∨ ((ttS l es).toList ≠ (ttS k fs).toList ∧ ((l == k) && decide (es.map tx = fs.map tx)) = false) := by
  by_cases h : l = k ∧ es = fs
  · obtain ⟨rfl, rfl⟩ := h
    exact .inl ⟨rfl, by simp⟩
  · refine .inr ⟨fun e => h ?_, ?_⟩
    · unfold ttS at e
      rw [h1, h2, str_tl, str_tl, tx_list, tx_list] at e
      have a1 : TA (arrT litT Lib.itoa l es) l es := ⟨h1, rfl⟩
      have a2 : TA (arrT litT Lib.itoa l es) k fs := ⟨h2, e⟩
      exact a1.inj a2
    · rw [Bool.and_eq_false_iff]
      by_cases hl : l = k
      · exact .inr (decide_eq_false fun he => h ⟨hl, txs_inj he⟩)
      · exact .inl (beq_false_of_ne hl)
section
variable {a1 b1 a2 b2 : Option Addr} {n1 c1 m1 d1 n2 c2 m2 d2 : Nat}
/-- The two boxes of the law. -/
theorem Bx.far2 {W : World} {a b : Option Addr} {g n c m d : Nat} (h : Bx W g a n c b m d) {w : World} (hb : Below W.heap.size W w) : Bx w g a n c b m d := h.below hb h.lt
set_option maxRecDepth 10000 in
set_option maxHeartbeats 3200000 in
theorem tones_any {l k : List Int} {es0 fs0 : List ByteArray} (W : World) (h1 : Vl W a1 n1 b1 m1 l es0) (h2 : Vl W a2 n2 b2 m2 k fs0) (z1 : ∀ j, j < m1 → (es0.getD j ByteArray.empty).size ≤ maxLen) (z2 : ∀ j, j < m2 → (fs0.getD j ByteArray.empty).size ≤ maxLen) (hx : XT W) :
    Calls Tryd.prog 5 #[.agg #[.slice a1 n1 c1, .slice b1 m1 d1], .agg #[.slice a2 n2 c2, .slice b2 m2 d2]] W (TrueEnd W) := by
  obtain ⟨es, rfl⟩ := to_lists es0
  obtain ⟨fs, rfl⟩ := to_lists fs0
  obtain rfl : es.length = m1 := by have := h1.t.1; rwa [List.length_map] at this
  obtain rfl : fs.length = m2 := by have := h2.t.1; rwa [List.length_map] at this
  have hA := (Bx.new W a1 n1 c1 b1 es.length d1).alloc (.cells #[.slice a2 n2 c2, .slice b2 fs.length d2] 25)
  have hC := Bx.two W (.cells #[.slice a1 n1 c1, .slice b1 es.length d1] 25) a2 n2 c2 b2 fs.length d2
  have hb0 : Below W.heap.size W ((W.alloc (.cells #[.slice a1 n1 c1, .slice b1 es.length d1] 25)).alloc (.cells #[.slice a2 n2 c2, .slice b2 fs.length d2] 25)) := ((Below.refl _ _).alloc (Nat.le_refl _) _).alloc (by simp) _
  have F1 := fun w (hb : Below W.heap.size W w) => Few_is (c := c1) (d := d1) w (h1.below hb) z1
  have F2 := fun w (hb : Below W.heap.size W w) => Few_is (c := c2) (d := d2) w (h2.below hb) z2
  have KX := Lib.hid (fun w (hb : Below W.heap.size W w) => tshown_is w (hx.below hb))
  rcases few_cases (l := l) (es := es) with e1 | ⟨e1, p1, q1, r1⟩
  · rw [e1] at F1
    replace F1 := Lib.hid F1
    clear F2 h1 h2 z1 z2 hx e1
    generalize es.length = m1 at *
    generalize fs.length = m2 at *
    go_enter Tryd.func5, Tryd.ntmps5
    go_wp2_with fail
    refine (KX.out _ hb0).mono ?_
    rintro y w1 ⟨rfl, hb⟩
    have hA1 := hA.far2 hb
    have hC1 := hC.far2 hb
    have hb1 := hb0.trans (hb.mono hb0.size)
    clear hA hC hb0 hb
    have x0 := hA1.c0
    have x1 := hA1.c1
    go_wp2_with fail
    refine (F1.out _ hb1).mono ?_
    rintro y w2 ⟨rfl, hb⟩
    go_wp2_with fail
    go_ret
    exact ⟨rfl, hb1.trans (hb.mono hb1.size)⟩
  rcases few_cases (l := k) (es := fs) with e2 | ⟨e2, p2, q2, r2⟩
  · rw [e1] at F1
    rw [e2] at F2
    replace F1 := Lib.hid F1
    replace F2 := Lib.hid F2
    clear h1 h2 z1 z2 hx e1 e2 p1 q1 r1
    generalize es.length = m1 at *
    generalize fs.length = m2 at *
    go_enter Tryd.func5, Tryd.ntmps5
    go_wp2_with fail
    refine (KX.out _ hb0).mono ?_
    rintro y w1 ⟨rfl, hb⟩
    have hA1 := hA.far2 hb
    have hC1 := hC.far2 hb
    have hb1 := hb0.trans (hb.mono hb0.size)
    clear hA hC hb0 hb
    have x0 := hA1.c0
    have x1 := hA1.c1
    go_wp2_with fail
    refine (F1.out _ hb1).mono ?_
    rintro y w2 ⟨rfl, hb⟩
    have hC2 := hC1.far2 hb
    have hb2 := hb1.trans (hb.mono hb1.size)
    clear x0 x1 hA1 hC1 hb1 hb
    have x0 := hC2.c0
    have x1 := hC2.c1
    go_wp2_with fail
    refine (F2.out _ hb2).mono ?_
    rintro y w3 ⟨rfl, hb⟩
    go_wp2_with fail
    go_ret
    exact ⟨rfl, hb2.trans (hb.mono hb2.size)⟩
  rw [e1] at F1
  rw [e2] at F2
  have T1 := fun w (hb : Below W.heap.size W w) => Text_is (c := c1) (d := d1) w (h1.below hb) p1 q1 (hx.below hb).tab
  have T2 := fun w (hb : Below W.heap.size W w) => Text_is (c := c2) (d := d2) w (h2.below hb) p2 q2 (hx.below hb).tab
  have KS := fun w (hb : Below W.heap.size W w) => VSame_is (c1 := c1) (d1 := d1) (c2 := c2) (d2 := d2) w (h1.below hb) (h2.below hb) (by have := h1.s.1; omega) (by have := h2.s.1; omega)
  have HP := Lib.hid (fun u1 u2 => ones_plain (l := l) (k := k) (es := es) (fs := fs) u1 u2)
  unfold TtEnd at T1 T2
  replace F1 := Lib.hid F1
  replace F2 := Lib.hid F2
  have T1' : Hid (∀ w, Below W.heap.size W w → Calls Tryd.prog 8 #[.agg #[.slice a1 n1 c1, .slice b1 es.length d1]] w (fun e W' => e = .returned (.tuple #[.string (ttS l es), .int .i64 (if mayV l (es.map tx) = true then 0 else 1)]) ∧ Below w.heap.size w W')) := Lib.hid T1
  have T2' : Hid (∀ w, Below W.heap.size W w → Calls Tryd.prog 8 #[.agg #[.slice a2 n2 c2, .slice b2 fs.length d2]] w (fun e W' => e = .returned (.tuple #[.string (ttS k fs), .int .i64 (if mayV k (fs.map tx) = true then 0 else 1)]) ∧ Below w.heap.size w W')) := Lib.hid T2
  replace KS := Lib.hid KS
  generalize ((l == k) && decide (es.map tx = fs.map tx)) = eqv at *
  generalize ttS l es = s at *
  generalize ttS k fs = t at *
  clear T1 T2 h1 h2 z1 z2 hx e1 e2 p1 q1 r1 p2 q2 r2
  generalize mayV l (es.map tx) = v1 at *
  generalize mayV k (fs.map tx) = v2 at *
  generalize es.length = m1 at *
  generalize fs.length = m2 at *
  go_enter Tryd.func5, Tryd.ntmps5
  go_wp2_with fail
  refine (KX.out _ hb0).mono ?_
  rintro y w1 ⟨rfl, hb⟩
  have hA1 := hA.far2 hb
  have hC1 := hC.far2 hb
  have hb1 := hb0.trans (hb.mono hb0.size)
  clear hA hC hb0 hb KX
  have x0 := hA1.c0
  have x1 := hA1.c1
  go_wp2_with fail
  refine (F1.out _ hb1).mono ?_
  rintro y w2 ⟨rfl, hb⟩
  have hA2 := hA1.far2 hb
  have hC2 := hC1.far2 hb
  have hb2 := hb1.trans (hb.mono hb1.size)
  clear x0 x1 hA1 hC1 hb1 hb F1
  have x0 := hC2.c0
  have x1 := hC2.c1
  go_wp2_with fail
  refine (F2.out _ hb2).mono ?_
  rintro y w3 ⟨rfl, hb⟩
  have hA3 := hA2.far2 hb
  have hC3 := hC2.far2 hb
  have hb3 := hb2.trans (hb.mono hb2.size)
  clear x0 x1 hA2 hC2 hb2 hb F2
  have x0 := hA3.c0
  have x1 := hA3.c1
  go_wp2_with fail
  refine (T1'.out _ hb3).mono ?_
  rintro y w4 ⟨rfl, hb⟩
  have hA4 := hA3.far2 hb
  have hC4 := hC3.far2 hb
  have hb4 := hb3.trans (hb.mono hb3.size)
  clear x0 x1 hA3 hC3 hb3 hb T1'
  have x0 := hC4.c0
  have x1 := hC4.c1
  cases v1 with
  | false =>
    rw [show (if false = true then (0 : Int) else 1) = 1 from rfl]
    go_wp2_with fail
    refine (T2'.out _ hb4).mono ?_
    rintro y w5 ⟨rfl, hb⟩
    generalize (if v2 = true then (0 : Int) else 1) = z
    go_wp2_with fail
    go_ret
    exact ⟨rfl, hb4.trans (hb.mono hb4.size)⟩
  | true =>
    rw [show (if true = true then (0 : Int) else 1) = 0 from rfl]
    cases v2 with
    | false =>
      rw [show (if false = true then (0 : Int) else 1) = 1 from rfl] at T2'
      go_wp2_with fail
      refine (T2'.out _ hb4).mono ?_
      rintro y w5 ⟨rfl, hb⟩
      go_wp2_with fail
      go_ret
      exact ⟨rfl, hb4.trans (hb.mono hb4.size)⟩
    | true =>
      rw [show (if true = true then (0 : Int) else 1) = 0 from rfl] at T2'
      go_wp2_with fail
      refine (T2'.out _ hb4).mono ?_
      rintro y w5 ⟨rfl, hb⟩
      have hA5 := hA4.far2 hb
      have hC5 := hC4.far2 hb
      have hb5 := hb4.trans (hb.mono hb4.size)
      clear x0 x1 hA4 hC4 hb4 hb T2'
      have x0 := hA5.c0
      have x1 := hA5.c1
      have y0 := hC5.c0
      have y1 := hC5.c1
      rcases HP.out trivial trivial with ⟨rfl, rfl⟩ | ⟨hne, rfl⟩
      · go_wp2_with fail
        refine (KS.out _ hb5).mono ?_
        rintro y w6 ⟨rfl, hb⟩
        go_wp2_with fail
        go_ret
        exact ⟨rfl, hb5.trans (hb.mono hb5.size)⟩
      · have hne2 : (s.toList == t.toList) = false := beq_false_of_ne hne
        go_wp2_with fail
        refine (KS.out _ hb5).mono ?_
        rintro y w6 ⟨rfl, hb⟩
        go_wp2_with fail
        go_ret
        exact ⟨rfl, hb5.trans (hb.mono hb5.size)⟩
end
end Go.Proofs.YtomkjmhebnecbaaDoor

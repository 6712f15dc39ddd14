import Derived.Test.YtljkmdmbndjngaaGreatMax
/-
  The reference's expr.
-/
namespace Go.Proofs.YtljkmdmbndjngaaGreat
set_option linter.unusedVariables false
set_option linter.unusedSimpArgs false
open Go.RowKit

theorem op_inv {M : List UInt8 → List UInt8} {k : Int} {L : List Tn} {l r : List Pk} {x : Option (List Tn)} (h : Rd' M (.op k L) l x r) :
    ∃ x1 r1, Rd' M (.vb k) l x1 r1 ∧ ((x1 = none ∧ x = none ∧ r = r1) ∨ ∃ V, x1 = some V ∧ ∃ x2, Rd' M .expr r1 x2 r ∧ x = x2.map (V ++ L ++ ·)) := by
  cases h with
  | o_bad h1 => exact ⟨_, _, h1, .inl ⟨rfl, rfl, rfl⟩⟩
  | o_is h1 h2 => exact ⟨_, _, h1, .inr ⟨_, rfl, _, h2, rfl⟩⟩
theorem ex_inv {M : List UInt8 → List UInt8} {l r : List Pk} {x : Option (List Tn)} (h : Rd' M .expr l x r) :
    (isVb l ∧ Rd' M (.op 3 []) l x r) ∨ (¬ isVb l ∧ ∃ x1 r1, Rd' M .term l x1 r1 ∧ ((x1 = none ∧ x = none ∧ r = r1) ∨ ∃ L, x1 = some L ∧ ((¬ isVb r1 ∧ x = some L ∧ r = r1) ∨ (isVb r1 ∧ Rd' M (.op 4 L) r1 x r)))) := by
  cases h with
  | e_verb h h1 => exact .inl ⟨h, h1⟩
  | e_bad h h1 => exact .inr ⟨h, _, _, h1, .inl ⟨rfl, rfl, rfl⟩⟩
  | e_term h h1 h2 =>
    refine .inr ⟨h, _, _, h1, .inr ⟨_, rfl, ?_⟩⟩
    cases h2 with
    | a_end h => exact .inl ⟨h, rfl, rfl⟩
    | a_op h h1 => exact .inr ⟨h, h1⟩
theorem cell_far {W : World} {g i h j : Nat} {x u : Value} (hne : g ≠ h) (hc : W.cell? ⟨g, i, none⟩ = some x) : (W.setCell ⟨h, j, none⟩ u).cell? ⟨g, i, none⟩ = some x := by
  rw [World.cell?_setCell_other _ _ _ _ (by intro e; injection e with e; exact hne (by first | exact e | exact e.symm))]
  exact hc
theorem cell_drewx {W : World} {p : Addr} {x : Value} (hc : W.cell? p = some x) : W.drew.cell? p = some x := hc
theorem verb_open {f : FuncId} {args : Array Value} {x : Option (List Tn)} {p : Nat} {W : World} (h : Calls Tryz.prog f args W (VbEnd x p W)) : Calls Tryz.prog f args W fun e W' => ∃ dk dv da dx dg dm dc dn a n c B, e = .returned (.tuple #[.agg #[.int .i64 dk, .string dv, .string da, .string dx, .slice dg dm dc], .agg #[.slice a n c, .int .i64 p, .bool x.isSome]]) ∧
    (Nd.mk dk dv da dx dg dm dc dn).on W' ∧ dm = 0 ∧ Nl W.heap.size W' a n c B ∧ n ≤ 1000 ∧ (∀ V, x = some V → V = tnOf (Nd.mk dk dv da dx dg dm dc dn) :: B) ∧ Below W.heap.size W W' :=
  h.mono fun _ _ ⟨d, a, n, c, B, h1, h2, h3, h4, h5, h6, h7⟩ => ⟨d.k, d.v, d.a, d.x, d.g, d.m, d.c, d.ns, a, n, c, B, h1, h2, h3, h4, h5, h6, h7⟩
set_option maxRecDepth 10000 in
set_option maxHeartbeats 6400000 in
theorem expr_is (ts : List Tk) (i : Nat) (hf : Few ts) (hp : ∀ q ∈ pks ts, q.k = 3 ∨ q.k = 4 → q.t ≠ [123]) (HC : ClosedBehind ts i) (HE : ∀ j, i < j → ExprAt ts j) : ExprAt ts i := by
  intro a n c W x r h hn hm hi hR
  have hl : (pks ts).length = n := by rw [pks_len, hn]
  obtain ⟨W0, hW0⟩ : ∃ W0, W0 = (W.alloc (.cells #[.slice none 0 0, .int .i64 0, .bool false] 87)).alloc (.cells #[.slice none 0 0, .int .i64 i, .bool true] 87) := ⟨_, rfl⟩
  have s1 : (W.alloc (.cells #[.slice none 0 0, .int .i64 0, .bool false] 87)).heap.size = W.heap.size + 1 := by simp
  have s2 : W0.heap.size = W.heap.size + 1 + 1 := by rw [hW0]; simp
  have hb0 : Below W.heap.size W W0 := by rw [hW0]; exact (box_below W _).alloc (box_below W _).size _
  have hR0 : Bk 87 W0 W.heap.size [.slice none 0 0, .int .i64 0, .bool false] := by rw [hW0]; exact (Bk.new 87 W _).alloc _
  have hF0 : Bk 87 W0 (W.heap.size + 1) [.slice none 0 0, .int .i64 i, .bool true] := by rw [hW0]; exact Bk.new' _ _ s1.symm _
  have KB := Lib.hid (fun w (hb : Below W.heap.size W w) (j : Nat) => rverbal_is ts a n c w (h.below hb) hn (by omega) j)
  have HV := Lib.hid (fun (j : Nat) (k : Int) (A : ByteArray) x1 r1 w (hij : i ≤ j) (hjn : j ≤ n) (hb : Below W.heap.size W w) (hk : k = 3 ∨ k = 4) (hA : A.data.toList = advs k) h1 => verb_open (rverb_is ts j k A a n c w x1 r1 (h.below hb) hn hm hjn hf hk hA hp (fun j' ch a' n' c' W' x' r' hj' => HC j' ch a' n' c' W' x' r' (by omega)) h1))
  obtain ⟨p, hpp⟩ : ∃ p, p = n - r.length := ⟨_, rfl⟩
  rw [← hpp]
  have HP := Lib.hid hpp
  have HL := Lib.hid hl
  have HN := Lib.hid hn
  have HQ := Lib.hid h
  have HRx := Lib.hid hR0
  have HLf := Lib.hid hF0
  have HBx := Lib.hid hb0
  have HZ := Lib.hid s2
  replace HE := Lib.hid HE
  have g0 := hF0.p0
  have g1 := hF0.p1
  have g2 := hF0.p2
  have r0 := hR0.p0
  have r1' := hR0.p1
  have r2 := hR0.p2
  have fr0 := hR0.f 0
  have fr1 := hR0.f 1
  have fr2 := hR0.f 2
  have K1 := KB.out W0 hb0 i
  have HX := Lib.hid (ex_inv hR)
  have HW0 := Lib.hid hW0
  rw [hW0] at g0 g1 g2 r0 r1' r2 fr0 fr1 fr2
  have KT := Lib.hid (fun w (hb : Below W.heap.size W w) x1 r1 h1 => term_is ts i a n c w x1 r1 (h.below hb) hn hm hi hf HC h1)
  clear hR hl hpp h hn hR0 hF0 hb0 s1 s2 HC hf hp hW0
  rcases HX.out with ⟨hvb, hop⟩ | ⟨hvb, x1, r1, h1, hx1⟩
  · rw [vbB_yes.2 hvb] at K1
    replace K1 := Lib.hid K1
    have HOP := Lib.hid hop
    clear hvb hop HX KT
    go_enter Tryz.func83, Tryz.ntmps83
    go_wp2_with fail
    rw [← HW0.out]
    refine K1.out.mono ?_
    rintro e w1 ⟨rfl, rfl⟩
    rw [HW0.out]
    go_wp2_with fail
    rw [← HW0.out]
    clear g0 g1 g2 r0 r1' r2 fr0 fr1 fr2 K1
    obtain ⟨j, k, L, aL, nL, cL, bL, A, HK, HA, hij, hjn, hjj, hkk, hLe, haL, hnL, hcL, hAA, hbL⟩ : ∃ (j : Nat) (k : Int) (L : List Tn) (aL : Option Addr) (nL cL bL : Nat) (A : ByteArray), Hid (k = 3 ∨ k = 4) ∧ Hid (A.data.toList = advs k) ∧ i ≤ j ∧ j ≤ n ∧ i = j ∧ k = 3 ∧ L = [] ∧ aL = none ∧ nL = 0 ∧ cL = 0 ∧ A = ⟨#[39, 47, 92, 96]⟩ ∧ bL = W.heap.size := ⟨i, 3, [], none, 0, 0, W.heap.size, _, Lib.hid (.inl rfl), Lib.hid rfl, by omega, hi, rfl, rfl, rfl, rfl, rfl, rfl, rfl, rfl⟩
    replace HLf := Lib.hid (show Bk 87 W0 (W.heap.size + 1) [.slice aL nL cL, .int .i64 j, .bool true] by rw [haL, hnL, hcL, ← hjj]; exact HLf.out)
    have HLL := Lib.hid (show Nl W.heap.size W0 aL nL cL L by rw [haL, hnL, hcL, hLe]; exact Nl.nil _ _)
    replace HOP := Lib.hid (show Rd' numT (.op k L) ((pks ts).drop j) x r by rw [hkk, hLe, ← hjj]; exact HOP.out)
    have hji : (i : Int) = (j : Int) := by omega
    have hnL9 : nL ≤ 1000 := by omega
    have hLj : L.length ≤ j := by rw [hLe]; exact Nat.zero_le _
    rw [hji, ← hkk, ← hAA]
    clear hji hjj hkk hLe haL hnL hcL hAA hbL
    generalize W0 = wq at *
    obtain ⟨x1, r1, h1, hx1⟩ := op_inv HOP.out
    have KV := HV.out j k A x1 r1 wq hij hjn HBx.out HK.out HA.out h1
    obtain ⟨e1, hj1⟩ := suf_drop h1.suffix (by rw [HL.out]; exact hjn)
    rw [HL.out] at e1 hj1
    obtain ⟨p1, hp1⟩ : ∃ p1, p1 = n - r1.length := ⟨_, rfl⟩
    rw [← hp1] at KV e1 hj1
    have hp1n : p1 ≤ n := by omega
    have HP1 := Lib.hid (⟨hp1, e1⟩ : p1 = n - r1.length ∧ r1 = (pks ts).drop p1)
    have hlt1 : ∀ V, x1 = some V → i < p1 := by
      intro V hV
      have hle := h1.le.2 rfl (by rw [hV]; simp)
      rw [List.length_drop, HL.out] at hle
      omega
    have HLT := Lib.hid hlt1
    have HFW := Lib.hid (show ∀ V, x1 = some V → V.length + L.length ≤ p1 from fun V hV => by
      have f1 := h1.few V hV
      rw [List.length_drop, HL.out] at f1
      simp only [Rl.many] at f1
      omega)
    have HX1 := Lib.hid hx1
    replace KV := Lib.hid KV
    clear hx1 h1 hlt1 hp1 e1 HOP
    refine KV.out.mono ?_
    rintro e w2 ⟨dk, dv, da, dx, dg, dm, dc, dn, a1, n1, c1, B1, rfl, hd1, hdm, hL1, hn1, hV1, hb2⟩
    have hsz2 := hb2.size
    have hHq : W.heap.size + 1 < wq.heap.size := HLf.out.lt
    obtain ⟨u, hu⟩ : ∃ u, u = w2.heap.size := ⟨_, rfl⟩
    have s5 : (w2.alloc (.cells #[.int .i64 dk, .string dv, .string da, .string dx, .slice dg dm dc] 37)).heap.size = u + 1 := by rw [hu]; simp
    obtain ⟨w3, hw3⟩ : ∃ w3, w3 = (w2.alloc (.cells #[.int .i64 dk, .string dv, .string da, .string dx, .slice dg dm dc] 37)).alloc (.cells #[.slice a1 n1 c1, .int .i64 p1, .bool x1.isSome] 87) := ⟨_, rfl⟩
    have hN3 : Bk 37 w3 u [.int .i64 dk, .string dv, .string da, .string dx, .slice dg dm dc] := by rw [hw3]; exact (Bk.new' 37 w2 hu _).alloc _
    have hV3 : Bk 87 w3 (u + 1) [.slice a1 n1 c1, .int .i64 p1, .bool x1.isSome] := by rw [hw3]; exact Bk.new' _ _ s5.symm _
    have hb23 : Below w2.heap.size w2 w3 := by rw [hw3]; exact (box_below w2 _).alloc (box_below w2 _).size _
    have HD3 := Lib.hid (hd1.below hb23)
    have HL3 := Lib.hid ((hL1.base (Nat.le_of_lt (Nat.lt_of_le_of_lt (Nat.le_succ _) hHq))).below hb23)
    have hqb := hb2.trans (hb23.mono hsz2)
    have HR3 := Lib.hid (HRx.out.on hqb)
    have HF3 := Lib.hid (HLf.out.on hqb)
    have HLL3 := Lib.hid (HLL.out.below hqb)
    have HB3 := Lib.hid (HBx.out.trans (hqb.mono HBx.out.size))
    have HN3 := Lib.hid hN3
    have HV3 := Lib.hid hV3
    have HW3 := Lib.hid hw3
    have HDM := Lib.hid hdm
    have HV1 := Lib.hid hV1
    have HU := Lib.hid hu
    have huH : W.heap.size + 1 < u := by omega
    have v0 := hV3.p0
    have v1 := hV3.p1
    have v2 := hV3.p2
    have rr0 := HR3.out.p0
    have rr1 := HR3.out.p1
    have rr2 := HR3.out.p2
    have frr0 := HR3.out.f 0
    have frr1 := HR3.out.f 1
    have frr2 := HR3.out.f 2
    have hw3' := hw3
    rw [hu] at v0 v1 v2
    rw [hw3'] at v0 v1 v2 rr0 rr1 rr2 frr0 frr1 frr2
    clear hd1 hL1 hqb hN3 hV3 hw3' hdm hV1 hb2 hb23 s5 HRx HLf HLL HBx KV hw3 hu
    rcases HX1.out with ⟨rfl, rfl, hr⟩ | ⟨V, rfl, x2, hrd, hxx⟩
    · have hpq : p = p1 := by rw [HP.out, HP1.out.1, hr]
      subst hpq
      rw [Option.isSome_none] at *
      clear hr
      have HL4 := Lib.hid (HL3.out.fill (a' := a1) (n' := n1) (c' := c1) (i' := (p : Int)) (b' := false) HR3.out)
      go_wp2_with fail
      rw [← HW3.out]
      have hRR := HR3.out.set3 (.slice a1 n1 c1) (.int .i64 (p : Int)) (.bool false)
      have o0 := hRR.p0
      have o1 := hRR.p1
      have o2 := hRR.p2
      exact bodyPost_ret (v := .agg #[.slice a1 n1 c1, .int .i64 (p : Int), .bool false]) (by simp [results, Tryz.results83, go_sem, o0, o1, o2]) rfl ⟨_, _, _, _, rfl, HL4.out, hn1, (fun X hX => by cases hX), below3 HB3.out (Nat.le_refl _) _ _ _⟩
    · have hVV := HV1.out V rfl
      rw [Option.isSome_some] at *
      have KE := HE.out p1 (HLT.out V rfl) a n c w3 x2 r (HQ.out.below HB3.out) HN.out hm hp1n (by rw [← HP1.out.2]; exact hrd)
      have hfew : ∀ X2, x2 = some X2 → (V ++ L ++ X2).length ≤ n := by
        intro X2 hX2
        have f1 := HFW.out V rfl
        have f2 := hrd.few X2 hX2
        rw [HP1.out.2, List.length_drop, HL.out] at f2
        simp only [Rl.many, List.length_append] at f1 f2 ⊢
        omega
      obtain ⟨e2, hj2⟩ := suf_drop hrd.suffix (by rw [HP1.out.2, List.length_drop, HL.out]; exact Nat.zero_le _ : (0 : Nat) ≤ _)
      rw [← HP.out] at KE
      replace KE := Lib.hid KE
      have HXX := Lib.hid hxx
      have HFEW0 := Lib.hid hfew
      have HVV := Lib.hid hVV
      clear hrd hfew e2 hj2 hxx hVV
      go_wp2_with fail
      rw [← HW3.out]
      refine KE.out.mono ?_
      rintro e w4 ⟨a4, n4, c4, L4, rfl, hL4, hn4, hx4, hb4⟩
      have hsz4 := hb4.size
      have huw3 : u + 1 < w3.heap.size := HV3.out.lt
      obtain ⟨y, hy⟩ : ∃ y, y = w4.heap.size := ⟨_, rfl⟩
      have hY := Bk.new' 87 w4 hy [.slice a4 n4 c4, .int .i64 p, .bool x2.isSome]
      have hbx := box_below w4 (.cells #[.slice a4 n4 c4, .int .i64 p, .bool x2.isSome] 87)
      obtain ⟨w5, hw5⟩ : ∃ w5, w5 = w4.alloc (.cells #[.slice a4 n4 c4, .int .i64 p, .bool x2.isSome] 87) := ⟨_, rfl⟩
      rw [← hw5] at hbx hY
      have h45 := hb4.trans (hbx.mono hsz4)
      have hWw3 : W.heap.size < w3.heap.size := by omega
      have HL5 := Lib.hid ((hL4.base (Nat.le_of_lt hWw3)).below hbx)
      have HN5 := Lib.hid (HN3.out.on h45)
      have HV5 := Lib.hid (HV3.out.on h45)
      have HR5 := Lib.hid (HR3.out.on h45)
      have HF5 := Lib.hid (HF3.out.on h45)
      have HLL5 := Lib.hid (HLL3.out.below h45)
      have HLB5 := Lib.hid (HL3.out.below h45)
      have HD5 := Lib.hid (HD3.out.below h45)
      have HB5 := Lib.hid (HB3.out.trans (h45.mono HB3.out.size))
      have HX4 := Lib.hid hx4
      have HW5 := Lib.hid hw5
      have HYY := Lib.hid hY
      have HY := Lib.hid hy
      have hyu : u + 1 < y := by omega
      have y0 := hY.p0
      have y1 := hY.p1
      have y2 := hY.p2
      have qr0 := HR5.out.p0
      have qr1 := HR5.out.p1
      have qr2 := HR5.out.p2
      have fqr0 := HR5.out.f 0
      have fqr1 := HR5.out.f 1
      have fqr2 := HR5.out.f 2
      rw [hy, hw5] at y0 y1 y2
      rw [hw5] at qr0 qr1 qr2 fqr0 fqr1 fqr2
      clear hL4 hx4 hb4 hbx h45 hY hw5 hy v0 v1 v2 rr0 rr1 rr2 frr0 frr1 frr2 KE HN3 HV3 HR3 HF3 HLL3 HL3 HD3 HB3
      cases x2 with
      | none =>
        obtain rfl : x = none := HXX.out
        rw [Option.isSome_none] at *
        have HL6 := Lib.hid (HL5.out.fill (a' := a4) (n' := n4) (c' := c4) (i' := (p : Int)) (b' := false) HR5.out)
        go_wp2_with fail
        rw [← HW5.out]
        have hRR := HR5.out.set3 (.slice a4 n4 c4) (.int .i64 (p : Int)) (.bool false)
        have o0 := hRR.p0
        have o1 := hRR.p1
        have o2 := hRR.p2
        exact bodyPost_ret (v := .agg #[.slice a4 n4 c4, .int .i64 (p : Int), .bool false]) (by simp [results, Tryz.results83, go_sem, o0, o1, o2]) rfl ⟨_, _, _, _, rfl, HL6.out, hn4, (fun X hX => by cases hX), below3 HB5.out (Nat.le_refl _) _ _ _⟩
      | some X2 =>
        obtain rfl : L4 = X2 := HX4.out X2 rfl
        obtain rfl : x = some (V ++ L ++ L4) := HXX.out
        have HFEW := Lib.hid (HFEW0.out _ rfl)
        clear HFEW0
        rw [Option.isSome_some] at *
        have hcount : (V ++ L ++ L4).length ≤ 1000 := Nat.le_trans HFEW.out (by omega)
        have hww : W.heap.size < w5.heap.size := HR5.out.lt
        have KN := Lib.hid (fun w' (hb : Below w5.heap.size w5 w') => (node_base hb (by have := rnode_is W.heap.size ⟨dk, dv, da, dx, dg, dm, dc, dn⟩ a1 aL a4 n1 c1 nL cL n4 c4 B1 L L4 w' (Nat.le_trans (Nat.le_of_lt hww) hb.size) HDM.out (HD5.out.below hb) (HLB5.out.below hb) (HLL5.out.below hb) (HL5.out.below hb) (by omega) (by omega) (by omega); rw [← List.cons_append, ← List.cons_append, ← HVV.out] at this; exact this) : Calls Tryz.prog 84 #[.agg #[.int .i64 dk, .string dv, .string da, .string dx, .slice dg dm dc], .slice a1 n1 c1, .slice aL nL cL, .slice a4 n4 c4] w' fun e W' => ∃ a n c, e = .returned (.slice a n c) ∧ Nl W.heap.size W' a n c (V ++ L ++ L4) ∧ Below w5.heap.size w5 W'))
        have hul : u < w5.heap.size := HN5.out.lt
        have hul2 : u + 1 < w5.heap.size := HV5.out.lt
        have hyl : y < w5.heap.size := HYY.out.lt
        have hWl2 : W.heap.size + 1 < w5.heap.size := HF5.out.lt
        have k0 := HN5.out.p0
        have k1 := HN5.out.p1
        have k2 := HN5.out.p2
        have k3 := HN5.out.p3
        have k4 := HN5.out.p4
        have v0 := HV5.out.p0
        have l0 := HF5.out.p0
        have z0 := HYY.out.p0
        have z1 := HYY.out.p1
        have ne1 : u ≠ W.heap.size := by omega
        have ne2 : u + 1 ≠ W.heap.size := by omega
        have ne3 : W.heap.size + 1 ≠ W.heap.size := by omega
        have ne4 : y ≠ W.heap.size := by omega
        go_wp2_with fail
        rw [← HW5.out, ← HY.out, ← HU.out]
        clear y0 y1 y2 qr0 qr1 qr2 fqr0 fqr1 fqr2 HX4 HXX HD5 HLB5 HLL5 HL5 HFEW
        have hq : Below w5.heap.size w5 w5 := Below.refl _ _
        go_region_held3 (fun w' => w'.cell? ⟨u, 0, none⟩ = some (.int .i64 dk) ∧ w'.cell? ⟨u, 1, none⟩ = some (.string dv) ∧ w'.cell? ⟨u, 2, none⟩ = some (.string da) ∧ w'.cell? ⟨u, 3, none⟩ = some (.string dx) ∧ w'.cell? ⟨u, 4, none⟩ = some (.slice dg dm dc) ∧ w'.cell? ⟨u + 1, 0, none⟩ = some (.slice a1 n1 c1) ∧ w'.cell? ⟨W.heap.size + 1, 0, none⟩ = some (.slice aL nL cL) ∧ w'.cell? ⟨y, 0, none⟩ = some (.slice a4 n4 c4) ∧ w'.cell? ⟨y, 1, none⟩ = some (.int .i64 p))
          (first | exact ⟨(by (repeat (first | with_reducible refine cell_far ne1 ?_ | with_reducible refine cell_drewx ?_)); exact ((Below.cell (p := ⟨u, 0, none⟩) (by repeat' (first | exact hq | refine Below.drew ?_)) hul).trans k0)), (by (repeat (first | with_reducible refine cell_far ne1 ?_ | with_reducible refine cell_drewx ?_)); exact ((Below.cell (p := ⟨u, 1, none⟩) (by repeat' (first | exact hq | refine Below.drew ?_)) hul).trans k1)), (by (repeat (first | with_reducible refine cell_far ne1 ?_ | with_reducible refine cell_drewx ?_)); exact ((Below.cell (p := ⟨u, 2, none⟩) (by repeat' (first | exact hq | refine Below.drew ?_)) hul).trans k2)), (by (repeat (first | with_reducible refine cell_far ne1 ?_ | with_reducible refine cell_drewx ?_)); exact ((Below.cell (p := ⟨u, 3, none⟩) (by repeat' (first | exact hq | refine Below.drew ?_)) hul).trans k3)), (by (repeat (first | with_reducible refine cell_far ne1 ?_ | with_reducible refine cell_drewx ?_)); exact ((Below.cell (p := ⟨u, 4, none⟩) (by repeat' (first | exact hq | refine Below.drew ?_)) hul).trans k4)), (by (repeat (first | with_reducible refine cell_far ne2 ?_ | with_reducible refine cell_drewx ?_)); exact ((Below.cell (p := ⟨u + 1, 0, none⟩) (by repeat' (first | exact hq | refine Below.drew ?_)) hul2).trans v0)), (by (repeat (first | with_reducible refine cell_far ne3 ?_ | with_reducible refine cell_drewx ?_)); exact ((Below.cell (p := ⟨W.heap.size + 1, 0, none⟩) (by repeat' (first | exact hq | refine Below.drew ?_)) hWl2).trans l0)), (by (repeat (first | with_reducible refine cell_far ne4 ?_ | with_reducible refine cell_drewx ?_)); exact ((Below.cell (p := ⟨y, 0, none⟩) (by repeat' (first | exact hq | refine Below.drew ?_)) hyl).trans z0)), (by (repeat (first | with_reducible refine cell_far ne4 ?_ | with_reducible refine cell_drewx ?_)); exact ((Below.cell (p := ⟨y, 1, none⟩) (by repeat' (first | exact hq | refine Below.drew ?_)) hyl).trans z1))⟩ | fail)
          (first
            | (go_at_call 84; (with_reducible refine (KN.out _ (by repeat' (first | exact hq | refine Below.drew ?_))).mono ?_); rintro e wa ⟨a9, n9, c9, rfl, hN9, hq⟩; have hRa := HR5.out.below hq hww; have fa0 := hRa.f 0; have fa1 := hRa.f 1; have fa2 := hRa.f 2; have ca0 := hRa.p0; have ca1 := hRa.p1; have ca2 := hRa.p2))
        have hn9 := hN9.len
        have HN10 := Lib.hid (hN9.fill (a' := a9) (n' := n9) (c' := c9) (i' := (p : Int)) (b' := true) hRa)
        have HB9 := Lib.hid (below3 (HB5.out.trans (hq.mono (Nat.le_of_lt hww))) (Nat.le_refl _) (.slice a9 n9 c9) (.int .i64 (p : Int)) (.bool true))
        have hn99 : n9 ≤ 1000 := by rw [← hn9]; exact hcount
        have HRA := Lib.hid hRa
        clear hn9 hN9 hRa fa0 fa1 fa2 ca0 ca1 ca2 hq k0 k1 k2 k3 k4 v0 l0 z0 z1 hcount
        go_wp2_with fail
        have hRR := HRA.out.set3 (.slice a9 n9 c9) (.int .i64 (p : Int)) (.bool true)
        have o0 := hRR.p0
        have o1 := hRR.p1
        have o2 := hRR.p2
        exact bodyPost_ret (v := .agg #[.slice a9 n9 c9, .int .i64 (p : Int), .bool true]) (by simp [results, Tryz.results83, go_sem, o0, o1, o2]) rfl ⟨_, _, _, _, rfl, HN10.out, hn99, (fun X hX => by cases hX; rfl), HB9.out⟩
  · rw [vbB_no hvb] at K1
    replace K1 := Lib.hid K1
    have KT2 := KT.out W0 HBx.out x1 r1 h1
    obtain ⟨e1, hj1⟩ := suf_drop h1.suffix (by rw [HL.out]; exact hi)
    rw [HL.out] at e1 hj1
    obtain ⟨j, hj⟩ : ∃ j, j = n - r1.length := ⟨_, rfl⟩
    rw [← hj] at KT2 e1 hj1
    have hjn : j ≤ n := by omega
    have hfew : ∀ L, x1 = some L → L.length ≤ j := by
      intro L hL
      have := h1.few L hL
      rw [List.length_drop, HL.out] at this
      simp only [Rl.many] at this
      omega
    replace KT2 := Lib.hid KT2
    have HJ := Lib.hid (⟨hj, e1⟩ : j = n - r1.length ∧ r1 = (pks ts).drop j)
    have HX1 := Lib.hid hx1
    have HFW := Lib.hid hfew
    clear hvb h1 hx1 KT hj e1 hfew HX
    go_enter Tryz.func83, Tryz.ntmps83
    go_wp2_with fail
    rw [← HW0.out]
    refine K1.out.mono ?_
    rintro e w1 ⟨rfl, rfl⟩
    rw [HW0.out]
    go_wp2_with fail
    rw [← HW0.out]
    refine KT2.out.mono ?_
    rintro e w1 ⟨aL, nL, cL, L1, rfl, hLL, hnL9, hLx, hb1⟩
    clear g0 g1 g2 r0 r1' r2 fr0 fr1 fr2 K1 KT2
    have hH2 := HZ.out
    have hF1 := HLf.out.on hb1
    have HF2 := Lib.hid (hF1.set3 (.slice aL nL cL) (.int .i64 (j : Int)) (.bool x1.isSome))
    have HR2 := Lib.hid ((((HRx.out.on hb1).setOther (p := ⟨W.heap.size + 1, 0, none⟩) (show W.heap.size ≠ W.heap.size + 1 by omega) (.slice aL nL cL)).setOther (p := ⟨W.heap.size + 1, 1, none⟩) (show W.heap.size ≠ W.heap.size + 1 by omega) (.int .i64 (j : Int))).setOther (p := ⟨W.heap.size + 1, 2, none⟩) (show W.heap.size ≠ W.heap.size + 1 by omega) (.bool x1.isSome))
    have HB2 := Lib.hid (below3 (HBx.out.trans (hb1.mono HBx.out.size)) (show W.heap.size ≤ W.heap.size + 1 by omega) (.slice aL nL cL) (.int .i64 (j : Int)) (.bool x1.isSome))
    have HL2 := Lib.hid (((hLL.set (p := ⟨W.heap.size + 1, 0, none⟩) (by simp only; omega) (.slice aL nL cL)).set (p := ⟨W.heap.size + 1, 1, none⟩) (by simp only; omega) (.int .i64 (j : Int))).set (p := ⟨W.heap.size + 1, 2, none⟩) (by simp only; omega) (.bool x1.isSome))
    have HLX := Lib.hid hLx
    have l0 := hF1.p0
    have l1 := hF1.p1
    have l2 := hF1.p2
    have fl0 := hF1.f 0
    have fl1 := hF1.f 1
    have fl2 := hF1.f 2
    clear hLL hLx hb1 hF1 HRx HLf HBx
    have hbase : W.heap.size ≤ W0.heap.size := by omega
    have HL3 := Lib.hid (HL2.out.base hbase)
    clear HL2 hH2
    rcases HX1.out with ⟨rfl, rfl, hr⟩ | ⟨L, rfl, hx2⟩
    · have hpj : p = j := by rw [HP.out, HJ.out.1, hr]
      subst hpj
      rw [Option.isSome_none] at *
      clear hr
      have u0 := HR2.out.p0
      have u1 := HR2.out.p1
      have u2 := HR2.out.p2
      have fu0 := HR2.out.f 0
      have fu1 := HR2.out.f 1
      have fu2 := HR2.out.f 2
      have y0 := HF2.out.p0
      have y1 := HF2.out.p1
      have y2 := HF2.out.p2
      have HL4 := Lib.hid (HL3.out.fill (a' := aL) (n' := nL) (c' := cL) (i' := (p : Int)) (b' := false) HR2.out)
      go_wp2_with fail
      have hRR := HR2.out.set3 (.slice aL nL cL) (.int .i64 (p : Int)) (.bool false)
      have o0 := hRR.p0
      have o1 := hRR.p1
      have o2 := hRR.p2
      exact bodyPost_ret (v := .agg #[.slice aL nL cL, .int .i64 (p : Int), .bool false]) (by simp [results, Tryz.results83, go_sem, o0, o1, o2]) rfl ⟨_, _, _, _, rfl, HL4.out, hnL9, (fun X hX => by cases hX), below3 HB2.out (Nat.le_refl _) _ _ _⟩
    · obtain rfl : L1 = L := HLX.out L rfl
      rw [Option.isSome_some] at *
      have hLj : L1.length ≤ j := HFW.out _ rfl
      have KB2 := KB.out _ HB2.out j
      rcases hx2 with ⟨hvb, rfl, hr⟩ | ⟨hvb, hop⟩
      · have hpj : p = j := by rw [HP.out, HJ.out.1, hr]
        rw [← HJ.out.2, vbB_no hvb] at KB2
        replace KB2 := Lib.hid KB2
        subst hpj
        clear hr hvb
        have u0 := HR2.out.p0
        have u1 := HR2.out.p1
        have u2 := HR2.out.p2
        have fu0 := HR2.out.f 0
        have fu1 := HR2.out.f 1
        have fu2 := HR2.out.f 2
        have y0 := HF2.out.p0
        have y1 := HF2.out.p1
        have y2 := HF2.out.p2
        have HL4 := Lib.hid (HL3.out.fill (a' := aL) (n' := nL) (c' := cL) (i' := (p : Int)) (b' := true) HR2.out)
        go_wp2_with fail
        refine KB2.out.mono ?_
        rintro e w3 ⟨rfl, rfl⟩
        go_wp2_with fail
        have hRR := HR2.out.set3 (.slice aL nL cL) (.int .i64 (p : Int)) (.bool true)
        have o0 := hRR.p0
        have o1 := hRR.p1
        have o2 := hRR.p2
        exact bodyPost_ret (v := .agg #[.slice aL nL cL, .int .i64 (p : Int), .bool true]) (by simp [results, Tryz.results83, go_sem, o0, o1, o2]) rfl ⟨_, _, _, _, rfl, HL4.out, hnL9, (fun X hX => by cases hX; rfl), below3 HB2.out (Nat.le_refl _) _ _ _⟩
      · rw [← HJ.out.2, vbB_yes.2 hvb] at KB2
        replace KB2 := Lib.hid KB2
        have y0 := HF2.out.p0
        have y1 := HF2.out.p1
        have y2 := HF2.out.p2
        clear hvb
        obtain ⟨k, L, A, HK, HA, hkk, hLe, hAA⟩ : ∃ (k : Int) (L : List Tn) (A : ByteArray), Hid (k = 3 ∨ k = 4) ∧ Hid (A.data.toList = advs k) ∧ k = 4 ∧ L = L1 ∧ A = ⟨#[39, 46]⟩ := ⟨4, L1, _, Lib.hid (.inr rfl), Lib.hid rfl, rfl, rfl, rfl⟩
        have HOP := Lib.hid (show Rd' numT (.op k L) ((pks ts).drop j) x r by rw [hkk, hLe, ← HJ.out.2]; exact hop)
        rw [← hLe] at hLj HL3
        have hij : i ≤ j := hj1
        clear hop hLe hj1 HLX HX1 HFW
        go_wp2_with fail
        refine KB2.out.mono ?_
        rintro e w3 ⟨rfl, rfl⟩
        go_wp2_with fail
        clear y0 y1 y2 l0 l1 l2 fl0 fl1 fl2 KB2
        have HRx := HR2
        have HLf := HF2
        have HBx := HB2
        have HLL := HL3
        generalize ((w1.setCell ⟨W.heap.size + 1, 0, none⟩ (.slice aL nL cL)).setCell ⟨W.heap.size + 1, 1, none⟩ (.int .i64 (j : Int))).setCell ⟨W.heap.size + 1, 2, none⟩ (.bool true) = wq at *
        rw [← hkk, ← hAA]
        clear hkk hAA HR2 HF2 HB2 HL3
        obtain ⟨x1, r1, h1, hx1⟩ := op_inv HOP.out
        have KV := HV.out j k A x1 r1 wq hij hjn HBx.out HK.out HA.out h1
        obtain ⟨e1, hj1⟩ := suf_drop h1.suffix (by rw [HL.out]; exact hjn)
        rw [HL.out] at e1 hj1
        obtain ⟨p1, hp1⟩ : ∃ p1, p1 = n - r1.length := ⟨_, rfl⟩
        rw [← hp1] at KV e1 hj1
        have hp1n : p1 ≤ n := by omega
        have HP1 := Lib.hid (⟨hp1, e1⟩ : p1 = n - r1.length ∧ r1 = (pks ts).drop p1)
        have hlt1 : ∀ V, x1 = some V → i < p1 := by
          intro V hV
          have hle := h1.le.2 rfl (by rw [hV]; simp)
          rw [List.length_drop, HL.out] at hle
          omega
        have HLT := Lib.hid hlt1
        have HFW := Lib.hid (show ∀ V, x1 = some V → V.length + L.length ≤ p1 from fun V hV => by
          have f1 := h1.few V hV
          rw [List.length_drop, HL.out] at f1
          simp only [Rl.many] at f1
          omega)
        have HX1 := Lib.hid hx1
        replace KV := Lib.hid KV
        clear hx1 h1 hlt1 hp1 e1 HOP
        refine KV.out.mono ?_
        rintro e w2 ⟨dk, dv, da, dx, dg, dm, dc, dn, a1, n1, c1, B1, rfl, hd1, hdm, hL1, hn1, hV1, hb2⟩
        have hsz2 := hb2.size
        have hHq : W.heap.size + 1 < wq.heap.size := HLf.out.lt
        obtain ⟨u, hu⟩ : ∃ u, u = w2.heap.size := ⟨_, rfl⟩
        have s5 : (w2.alloc (.cells #[.int .i64 dk, .string dv, .string da, .string dx, .slice dg dm dc] 37)).heap.size = u + 1 := by rw [hu]; simp
        obtain ⟨w3, hw3⟩ : ∃ w3, w3 = (w2.alloc (.cells #[.int .i64 dk, .string dv, .string da, .string dx, .slice dg dm dc] 37)).alloc (.cells #[.slice a1 n1 c1, .int .i64 p1, .bool x1.isSome] 87) := ⟨_, rfl⟩
        have hN3 : Bk 37 w3 u [.int .i64 dk, .string dv, .string da, .string dx, .slice dg dm dc] := by rw [hw3]; exact (Bk.new' 37 w2 hu _).alloc _
        have hV3 : Bk 87 w3 (u + 1) [.slice a1 n1 c1, .int .i64 p1, .bool x1.isSome] := by rw [hw3]; exact Bk.new' _ _ s5.symm _
        have hb23 : Below w2.heap.size w2 w3 := by rw [hw3]; exact (box_below w2 _).alloc (box_below w2 _).size _
        have HD3 := Lib.hid (hd1.below hb23)
        have HL3 := Lib.hid ((hL1.base (Nat.le_of_lt (Nat.lt_of_le_of_lt (Nat.le_succ _) hHq))).below hb23)
        have hqb := hb2.trans (hb23.mono hsz2)
        have HR3 := Lib.hid (HRx.out.on hqb)
        have HF3 := Lib.hid (HLf.out.on hqb)
        have HLL3 := Lib.hid (HLL.out.below hqb)
        have HB3 := Lib.hid (HBx.out.trans (hqb.mono HBx.out.size))
        have HN3 := Lib.hid hN3
        have HV3 := Lib.hid hV3
        have HW3 := Lib.hid hw3
        have HDM := Lib.hid hdm
        have HV1 := Lib.hid hV1
        have HU := Lib.hid hu
        have huH : W.heap.size + 1 < u := by omega
        have v0 := hV3.p0
        have v1 := hV3.p1
        have v2 := hV3.p2
        have rr0 := HR3.out.p0
        have rr1 := HR3.out.p1
        have rr2 := HR3.out.p2
        have frr0 := HR3.out.f 0
        have frr1 := HR3.out.f 1
        have frr2 := HR3.out.f 2
        have hw3' := hw3
        rw [hu] at v0 v1 v2
        rw [hw3'] at v0 v1 v2 rr0 rr1 rr2 frr0 frr1 frr2
        clear hd1 hL1 hqb hN3 hV3 hw3' hdm hV1 hb2 hb23 s5 HRx HLf HLL HBx KV hw3 hu
        rcases HX1.out with ⟨rfl, rfl, hr⟩ | ⟨V, rfl, x2, hrd, hxx⟩
        · have hpq : p = p1 := by rw [HP.out, HP1.out.1, hr]
          subst hpq
          rw [Option.isSome_none] at *
          clear hr
          have HL4 := Lib.hid (HL3.out.fill (a' := a1) (n' := n1) (c' := c1) (i' := (p : Int)) (b' := false) HR3.out)
          go_wp2_with fail
          rw [← HW3.out]
          have hRR := HR3.out.set3 (.slice a1 n1 c1) (.int .i64 (p : Int)) (.bool false)
          have o0 := hRR.p0
          have o1 := hRR.p1
          have o2 := hRR.p2
          exact bodyPost_ret (v := .agg #[.slice a1 n1 c1, .int .i64 (p : Int), .bool false]) (by simp [results, Tryz.results83, go_sem, o0, o1, o2]) rfl ⟨_, _, _, _, rfl, HL4.out, hn1, (fun X hX => by cases hX), below3 HB3.out (Nat.le_refl _) _ _ _⟩
        · have hVV := HV1.out V rfl
          rw [Option.isSome_some] at *
          have KE := HE.out p1 (HLT.out V rfl) a n c w3 x2 r (HQ.out.below HB3.out) HN.out hm hp1n (by rw [← HP1.out.2]; exact hrd)
          have hfew : ∀ X2, x2 = some X2 → (V ++ L ++ X2).length ≤ n := by
            intro X2 hX2
            have f1 := HFW.out V rfl
            have f2 := hrd.few X2 hX2
            rw [HP1.out.2, List.length_drop, HL.out] at f2
            simp only [Rl.many, List.length_append] at f1 f2 ⊢
            omega
          obtain ⟨e2, hj2⟩ := suf_drop hrd.suffix (by rw [HP1.out.2, List.length_drop, HL.out]; exact Nat.zero_le _ : (0 : Nat) ≤ _)
          rw [← HP.out] at KE
          replace KE := Lib.hid KE
          have HXX := Lib.hid hxx
          have HFEW0 := Lib.hid hfew
          have HVV := Lib.hid hVV
          clear hrd hfew e2 hj2 hxx hVV
          go_wp2_with fail
          rw [← HW3.out]
          refine KE.out.mono ?_
          rintro e w4 ⟨a4, n4, c4, L4, rfl, hL4, hn4, hx4, hb4⟩
          have hsz4 := hb4.size
          have huw3 : u + 1 < w3.heap.size := HV3.out.lt
          obtain ⟨y, hy⟩ : ∃ y, y = w4.heap.size := ⟨_, rfl⟩
          have hY := Bk.new' 87 w4 hy [.slice a4 n4 c4, .int .i64 p, .bool x2.isSome]
          have hbx := box_below w4 (.cells #[.slice a4 n4 c4, .int .i64 p, .bool x2.isSome] 87)
          obtain ⟨w5, hw5⟩ : ∃ w5, w5 = w4.alloc (.cells #[.slice a4 n4 c4, .int .i64 p, .bool x2.isSome] 87) := ⟨_, rfl⟩
          rw [← hw5] at hbx hY
          have h45 := hb4.trans (hbx.mono hsz4)
          have hWw3 : W.heap.size < w3.heap.size := by omega
          have HL5 := Lib.hid ((hL4.base (Nat.le_of_lt hWw3)).below hbx)
          have HN5 := Lib.hid (HN3.out.on h45)
          have HV5 := Lib.hid (HV3.out.on h45)
          have HR5 := Lib.hid (HR3.out.on h45)
          have HF5 := Lib.hid (HF3.out.on h45)
          have HLL5 := Lib.hid (HLL3.out.below h45)
          have HLB5 := Lib.hid (HL3.out.below h45)
          have HD5 := Lib.hid (HD3.out.below h45)
          have HB5 := Lib.hid (HB3.out.trans (h45.mono HB3.out.size))
          have HX4 := Lib.hid hx4
          have HW5 := Lib.hid hw5
          have HYY := Lib.hid hY
          have HY := Lib.hid hy
          have hyu : u + 1 < y := by omega
          have y0 := hY.p0
          have y1 := hY.p1
          have y2 := hY.p2
          have qr0 := HR5.out.p0
          have qr1 := HR5.out.p1
          have qr2 := HR5.out.p2
          have fqr0 := HR5.out.f 0
          have fqr1 := HR5.out.f 1
          have fqr2 := HR5.out.f 2
          rw [hy, hw5] at y0 y1 y2
          rw [hw5] at qr0 qr1 qr2 fqr0 fqr1 fqr2
          clear hL4 hx4 hb4 hbx h45 hY hw5 hy v0 v1 v2 rr0 rr1 rr2 frr0 frr1 frr2 KE HN3 HV3 HR3 HF3 HLL3 HL3 HD3 HB3
          cases x2 with
          | none =>
            obtain rfl : x = none := HXX.out
            rw [Option.isSome_none] at *
            have HL6 := Lib.hid (HL5.out.fill (a' := a4) (n' := n4) (c' := c4) (i' := (p : Int)) (b' := false) HR5.out)
            go_wp2_with fail
            rw [← HW5.out]
            have hRR := HR5.out.set3 (.slice a4 n4 c4) (.int .i64 (p : Int)) (.bool false)
            have o0 := hRR.p0
            have o1 := hRR.p1
            have o2 := hRR.p2
            exact bodyPost_ret (v := .agg #[.slice a4 n4 c4, .int .i64 (p : Int), .bool false]) (by simp [results, Tryz.results83, go_sem, o0, o1, o2]) rfl ⟨_, _, _, _, rfl, HL6.out, hn4, (fun X hX => by cases hX), below3 HB5.out (Nat.le_refl _) _ _ _⟩
          | some X2 =>
            obtain rfl : L4 = X2 := HX4.out X2 rfl
            obtain rfl : x = some (V ++ L ++ L4) := HXX.out
            have HFEW := Lib.hid (HFEW0.out _ rfl)
            clear HFEW0
            rw [Option.isSome_some] at *
            have hcount : (V ++ L ++ L4).length ≤ 1000 := Nat.le_trans HFEW.out (by omega)
            have hww : W.heap.size < w5.heap.size := HR5.out.lt
            have KN := Lib.hid (fun w' (hb : Below w5.heap.size w5 w') => (node_base hb (by have := rnode_is W.heap.size ⟨dk, dv, da, dx, dg, dm, dc, dn⟩ a1 aL a4 n1 c1 nL cL n4 c4 B1 L L4 w' (Nat.le_trans (Nat.le_of_lt hww) hb.size) HDM.out (HD5.out.below hb) (HLB5.out.below hb) (HLL5.out.below hb) (HL5.out.below hb) (by omega) (by omega) (by omega); rw [← List.cons_append, ← List.cons_append, ← HVV.out] at this; exact this) : Calls Tryz.prog 84 #[.agg #[.int .i64 dk, .string dv, .string da, .string dx, .slice dg dm dc], .slice a1 n1 c1, .slice aL nL cL, .slice a4 n4 c4] w' fun e W' => ∃ a n c, e = .returned (.slice a n c) ∧ Nl W.heap.size W' a n c (V ++ L ++ L4) ∧ Below w5.heap.size w5 W'))
            have hul : u < w5.heap.size := HN5.out.lt
            have hul2 : u + 1 < w5.heap.size := HV5.out.lt
            have hyl : y < w5.heap.size := HYY.out.lt
            have hWl2 : W.heap.size + 1 < w5.heap.size := HF5.out.lt
            have k0 := HN5.out.p0
            have k1 := HN5.out.p1
            have k2 := HN5.out.p2
            have k3 := HN5.out.p3
            have k4 := HN5.out.p4
            have v0 := HV5.out.p0
            have l0 := HF5.out.p0
            have z0 := HYY.out.p0
            have z1 := HYY.out.p1
            have ne1 : u ≠ W.heap.size := by omega
            have ne2 : u + 1 ≠ W.heap.size := by omega
            have ne3 : W.heap.size + 1 ≠ W.heap.size := by omega
            have ne4 : y ≠ W.heap.size := by omega
            go_wp2_with fail
            rw [← HW5.out, ← HY.out, ← HU.out]
            clear y0 y1 y2 qr0 qr1 qr2 fqr0 fqr1 fqr2 HX4 HXX HD5 HLB5 HLL5 HL5 HFEW
            have hq : Below w5.heap.size w5 w5 := Below.refl _ _
            go_region_held3 (fun w' => w'.cell? ⟨u, 0, none⟩ = some (.int .i64 dk) ∧ w'.cell? ⟨u, 1, none⟩ = some (.string dv) ∧ w'.cell? ⟨u, 2, none⟩ = some (.string da) ∧ w'.cell? ⟨u, 3, none⟩ = some (.string dx) ∧ w'.cell? ⟨u, 4, none⟩ = some (.slice dg dm dc) ∧ w'.cell? ⟨u + 1, 0, none⟩ = some (.slice a1 n1 c1) ∧ w'.cell? ⟨W.heap.size + 1, 0, none⟩ = some (.slice aL nL cL) ∧ w'.cell? ⟨y, 0, none⟩ = some (.slice a4 n4 c4) ∧ w'.cell? ⟨y, 1, none⟩ = some (.int .i64 p))
              (first | exact ⟨(by (repeat (first | with_reducible refine cell_far ne1 ?_ | with_reducible refine cell_drewx ?_)); exact ((Below.cell (p := ⟨u, 0, none⟩) (by repeat' (first | exact hq | refine Below.drew ?_)) hul).trans k0)), (by (repeat (first | with_reducible refine cell_far ne1 ?_ | with_reducible refine cell_drewx ?_)); exact ((Below.cell (p := ⟨u, 1, none⟩) (by repeat' (first | exact hq | refine Below.drew ?_)) hul).trans k1)), (by (repeat (first | with_reducible refine cell_far ne1 ?_ | with_reducible refine cell_drewx ?_)); exact ((Below.cell (p := ⟨u, 2, none⟩) (by repeat' (first | exact hq | refine Below.drew ?_)) hul).trans k2)), (by (repeat (first | with_reducible refine cell_far ne1 ?_ | with_reducible refine cell_drewx ?_)); exact ((Below.cell (p := ⟨u, 3, none⟩) (by repeat' (first | exact hq | refine Below.drew ?_)) hul).trans k3)), (by (repeat (first | with_reducible refine cell_far ne1 ?_ | with_reducible refine cell_drewx ?_)); exact ((Below.cell (p := ⟨u, 4, none⟩) (by repeat' (first | exact hq | refine Below.drew ?_)) hul).trans k4)), (by (repeat (first | with_reducible refine cell_far ne2 ?_ | with_reducible refine cell_drewx ?_)); exact ((Below.cell (p := ⟨u + 1, 0, none⟩) (by repeat' (first | exact hq | refine Below.drew ?_)) hul2).trans v0)), (by (repeat (first | with_reducible refine cell_far ne3 ?_ | with_reducible refine cell_drewx ?_)); exact ((Below.cell (p := ⟨W.heap.size + 1, 0, none⟩) (by repeat' (first | exact hq | refine Below.drew ?_)) hWl2).trans l0)), (by (repeat (first | with_reducible refine cell_far ne4 ?_ | with_reducible refine cell_drewx ?_)); exact ((Below.cell (p := ⟨y, 0, none⟩) (by repeat' (first | exact hq | refine Below.drew ?_)) hyl).trans z0)), (by (repeat (first | with_reducible refine cell_far ne4 ?_ | with_reducible refine cell_drewx ?_)); exact ((Below.cell (p := ⟨y, 1, none⟩) (by repeat' (first | exact hq | refine Below.drew ?_)) hyl).trans z1))⟩ | fail)
              (first
                | (go_at_call 84; (with_reducible refine (KN.out _ (by repeat' (first | exact hq | refine Below.drew ?_))).mono ?_); rintro e wa ⟨a9, n9, c9, rfl, hN9, hq⟩; have hRa := HR5.out.below hq hww; have fa0 := hRa.f 0; have fa1 := hRa.f 1; have fa2 := hRa.f 2; have ca0 := hRa.p0; have ca1 := hRa.p1; have ca2 := hRa.p2))
            have hn9 := hN9.len
            have HN10 := Lib.hid (hN9.fill (a' := a9) (n' := n9) (c' := c9) (i' := (p : Int)) (b' := true) hRa)
            have HB9 := Lib.hid (below3 (HB5.out.trans (hq.mono (Nat.le_of_lt hww))) (Nat.le_refl _) (.slice a9 n9 c9) (.int .i64 (p : Int)) (.bool true))
            have hn99 : n9 ≤ 1000 := by rw [← hn9]; exact hcount
            have HRA := Lib.hid hRa
            clear hn9 hN9 hRa fa0 fa1 fa2 ca0 ca1 ca2 hq k0 k1 k2 k3 k4 v0 l0 z0 z1 hcount
            go_wp2_with fail
            have hRR := HRA.out.set3 (.slice a9 n9 c9) (.int .i64 (p : Int)) (.bool true)
            have o0 := hRR.p0
            have o1 := hRR.p1
            have o2 := hRR.p2
            exact bodyPost_ret (v := .agg #[.slice a9 n9 c9, .int .i64 (p : Int), .bool true]) (by simp [results, Tryz.results83, go_sem, o0, o1, o2]) rfl ⟨_, _, _, _, rfl, HN10.out, hn99, (fun X hX => by cases hX; rfl), HB9.out⟩
end Go.Proofs.YtljkmdmbndjngaaGreat

import Derived.Test.YtljkmdmbndjngaaGreatMan
import Derived.Test.YtljkmdmbndjngaaGreatMal
/-
  The reference's one: the tree at a place is printed as it is told plainly.
-/
namespace Go.Proofs.YtljkmdmbndjngaaGreat
set_option linter.unusedVariables false
set_option linter.unusedSimpArgs false
open Go.RowKit Go.Maps

/-- A list of nodes in memory, not too long. -/
structure Hr (a : Option Addr) (n c : Nat) (f : Nat → Nd) (W : World) : Prop where
  nq : Nq W a n f
  hn : n ≤ 1000000
  nc : n ≤ c
  cm : c ≤ maxLen
theorem Hr.below {a : Option Addr} {n c : Nat} {f : Nat → Nd} {W W' : World} (h : Hr a n c f W) (hb : Below W.heap.size W W') : Hr a n c f W' := ⟨h.nq.below hb, h.hn, h.nc, h.cm⟩
theorem fm_few {N : List UInt8 → Bool} {M : List UInt8 → List UInt8} {L : List Tn} {d : Tn} {us : List Nat} {ts : List (List UInt8)} {s : List UInt8} (h : Fm N M L d us ts s) : ts.length ≤ 3 := by
  cases h <;> simp
theorem vx_brace {d : Tn} {e : Nd} {t w : List UInt8} (hd : d = tnOf e) (hv : Vx d (some t) w) : e.v = (⟨#[123]⟩ : ByteArray) := by
  cases hv with
  | body => injection hd with _ e2; rw [tx_of e2.symm]; rfl
theorem vx_no {d : Tn} {e : Nd} {w : List UInt8} (hd : d = tnOf e) (hv : Vx d none w) : (e.v.toList == [123]) = false ∧ ¬ e.v.toList = [123] := by
  cases hv with
  | one hv =>
    injection hd with _ e2
    have := vo_ne hv
    rw [e2] at this
    rw [str_tl]
    exact ⟨beq_eq_false_iff_ne.2 this, this⟩
/-- The first k texts, as values. -/
def vT (l : List (List UInt8)) (k : Nat) : List Value := valsS ((l.take k).map tx)
theorem take_vals {l : List (List UInt8)} {k : Nat} {t : List UInt8} (h : l[k]? = some t) : vT l k ++ [Value.string (tx t)] = vT l (k + 1) := by
  unfold vT
  rw [List.take_add_one, h]
  simp [valsS]
theorem vT_all {l : List (List UInt8)} {k : Nat} (h : l.length ≤ k) : vT l k = valsS (l.map tx) := by
  unfold vT
  rw [List.take_of_length_le h]
set_option maxRecDepth 10000 in
set_option maxHeartbeats 12800000 in
theorem rone_step {a : Option Addr} {n c : Nat} {f : Nat → Nd} (p : Nat) (d : Tn) (us : List Nat) (ts : List (List UInt8)) (s : List UInt8) (W : World) (h : Hr a n c f W) (hz : Sz f n) (hn : (tnF f n)[p]? = some d) (hU : unI (ksF f n) p = us) (hl : us.length = ts.length)
    (KT : ∀ (j u : Nat) (t : List UInt8), us[j]? = some u → ts[j]? = some t → t.length ≤ 20000000000 ∧ ∀ W, Hr a n c f W → Calls Tryz.prog 14 #[.slice a n c, .int .i64 (u : Int)] W (StB (tx t) W))
    (hf : Fm numB numT (tnF f n) d us ts s) : Calls Tryz.prog 14 #[.slice a n c, .int .i64 (p : Int)] W (StB (tx s) W) := by
  obtain ⟨hp, hd⟩ := tn_some hn
  have h3 := fm_few hf
  have hn6 := h.hn
  have hnc := h.nc
  have hcm := h.cm
  obtain ⟨gb, off, rfl, hc⟩ := h.nq.ld (by omega)
  have KU := Lib.hid (fun w' (hb : Below W.heap.size W w') => (hU ▸ rUnder_is (some ⟨gb, off, none⟩) n c f p w' (h.nq.below hb) hn6 : Calls Tryz.prog 33 #[.slice (some ⟨gb, off, none⟩) n c, .int .i64 p] w' (UnEnd us w')))
  obtain ⟨c0, c1, c2, c3, c4⟩ := hc p hp
  have HC := Lib.hid (And.intro hd (And.intro hf (And.intro hl (And.intro KT hz))))
  have H := Lib.hid h
  have hon := Lib.hid (h.nq.on p hp)
  have hBD := Bd.new W (f p).k (f p).v (f p).a (f p).x (f p).g (f p).m (f p).c
  have hb1 := box_below W (.cells #[.int .i64 (f p).k, .string (f p).v, .string (f p).a, .string (f p).x, .slice (f p).g (f p).m (f p).c] 37)
  obtain ⟨nd, hnd⟩ : ∃ nd, nd = f p := ⟨_, rfl⟩
  rw [← hnd] at hBD hb1 c0 c1 c2 c3 c4
  have HND := Lib.hid hnd
  obtain ⟨m, hm⟩ : ∃ m, m = us.length := ⟨_, rfl⟩
  have hm3 : m ≤ 3 := by omega
  have HM := Lib.hid hm
  clear h hc hd hf hl KT hz hU hn hnd hm
  go_enter Tryz.func14, Tryz.ntmps14
  go_wp2_with fail
  generalize W.alloc _ = w1 at *
  refine (KU.out _ hb1).mono ?_
  rintro e w2 ⟨a1, c1', rfl, hc1, hc2, hpl, hb2⟩
  have HB2 := Lib.hid (hb1.trans (hb2.mono hb1.size))
  have HBD2 := Lib.hid (hBD.on hb2)
  have HPL2 := Lib.hid hpl
  rw [← HM.out] at hc1 ⊢
  clear hb1 hb2 hBD hpl KU c0 c1 c2 c3 c4
  go_wp2_with fail
  go_loopw [7, 8] (fun sv iv wr => ∃ k : Nat, iv = .int .i64 k ∧ k ≤ m ∧ wr.ownsRow w2.heap.size 9 1 sv k (vT ts k) ∧ Below w2.heap.size w2 wr) (fun _ iv _ => m - (intOf iv).toNat)
  case atStart => exact ⟨0, rfl, by omega, World.ownsRow_nil _ _ _ _, Below.refl _ _⟩
  case round =>
    obtain ⟨k, rfl, hk, ho, hb⟩ := hrel
    by_cases hlt : k < m
    · have e2 : (k : Int) < (m : Int) := by omega
      have hul : k < us.length := by have := HM.out; omega
      have htl : k < ts.length := by have := HC.out.2.2.1; omega
      obtain ⟨ub, uo, rfl, hub, huc⟩ := HPL2.out.cells (by omega)
      have uk := (Below.cell (p := ⟨ub, uo + k, none⟩) hb hub).trans (huc k us[k] (List.getElem?_eq_getElem hul))
      have KK := Lib.hid ((HC.out.2.2.2.1 k us[k] ts[k] (List.getElem?_eq_getElem hul) (List.getElem?_eq_getElem htl)).2 wr ((H.out.below HB2.out).below hb))
      have HTK := Lib.hid (take_vals (List.getElem?_eq_getElem htl))
      have HO := Lib.hid ho
      have HB := Lib.hid hb
      generalize us[k] = u at *
      generalize tx ts[k] = tk at *
      clear ho hb huc
      go_wp2_with fail
      refine KK.out.mono ?_
      rintro e w5 ⟨rfl, hb5⟩
      have HO5 := Lib.hid (own_below5 HO.out hb5)
      have HB5 := Lib.hid (HB.out.trans (hb5.mono HB.out.size))
      have hsz := HB5.out.size
      clear hb5 KK HO HB uk
      obtain ⟨i0, hi0, hz0, hz1, hz2⟩ := info_parts infoS
      go_wp2_with (at_builtin; refine wpList_append_own _ rfl (.tmp 27) (.tmp 34) 35 rfl (w2.heap.size) 9 i0 (.string ⟨#[]⟩) 1 16 Tryz.underlying35 hi0 hz0 hz1 hz2 rfl (by decide) _ _ _ rfl (HO5.out.alloc _) ⟨w5.heap.size, 0, none⟩ 1 1 [.string tk] rfl rfl ?c1 ?c2 ?c3 ?c4 ?c5 ?_)
      case c1 =>
        intro j u hj
        rw [Go.WideShapes.add_plain, Nat.zero_add]
        exact (Bk.new 9 w5 [.string tk]).c j |>.trans hj
      case c2 => intro u hu; rw [List.mem_singleton] at hu; rw [hu]; rfl
      case c3 => unfold maxLen; omega
      case c4 => omega
      case c5 => show _ ≤ (w5.heap.push _).size; simp; omega
      intro v1 w6 hown1 hg1 _
      have hb6 : Below w2.heap.size w2 w6 := (HB5.out.alloc HB5.out.size _).grown hg1 (by show _ ≤ (w5.heap.push _).size; simp; omega) (fun q hq => by have := (HO5.out.lt q hq).1; omega)
      rw [HTK.out] at hown1
      have w3 : IntKind.i64.wrap ((k : Int) + 1) = (k : Int) + 1 := wrn (by omega) (by omega)
      have HO6 := Lib.hid hown1
      have HB6 := Lib.hid hb6
      clear hown1 hb6 hg1 HO5 HB5
      go_wp2_with fail
      exact ⟨⟨k + 1, rfl, by omega, HO6.out, HB6.out⟩, by simp [intOf]; omega⟩
    have e2 : ¬ (k : Int) < (m : Int) := by omega
    obtain rfl : k = m := by omega
    obtain ⟨hd, hf, hl, KT, hz⟩ := HC.out
    rw [vT_all (by have := HM.out; omega)] at ho
    obtain ⟨sa, sc, rfl, hs1, hs2, hst⟩ := own_st ho
    have HBD := Lib.hid (HBD2.out.on hb)
    have HPL := Lib.hid (HPL2.out.below hb)
    have HST := Lib.hid hst
    have HB4 := Lib.hid (HB2.out.trans (hb.mono HB2.out.size))
    have HNQ := Lib.hid ((H.out.nq.below HB4.out))
    have HH := H
    have hm := HM.out
    have hnd := HND.out
    have hon := hon.out
    clear ho hb hst HBD2 HPL2 HB2 HC H HM HND
    subst hnd
    generalize wr = w4 at *
    clear hk hlt e2 hm3
    cases hf with
    | @lit ss h0 h1 h =>
      injection hd with e1 e2 e3 e4 e5
      replace e1 := e1.symm
      obtain rfl : k = 0 := hm
      have hN : ∀ s ∈ ss, numB s = true := fun s hs => (h s hs).is
      have en : (f p).ns = ss.map fun s => tx (numT s) := texts_inj (by rw [← e5, List.map_map]; rfl)
      have em : (f p).m = ss.length := by rw [← hon.nl, en, List.length_map]
      have hst := hon.st.below HB4.out
      rw [en, em] at hst
      obtain ⟨nb, no, eg, hnc⟩ := hst.2 h0
      have HCN := Lib.hid (fun j (hj : j < ss.length) => show w4.cell? ⟨nb, no + j, none⟩ = some (.string (tx (numT (ss.getD j [])))) by
        rw [hnc j hj]
        simp [List.getD, hj])
      have hmem : ∀ j, j < ss.length → ss.getD j [] ∈ ss := fun j hj => by
        have : ss.getD j [] = ss[j] := by simp [List.getD, hj]
        rw [this]; exact List.getElem_mem hj
      have KL := Lib.hid (fun j (hj : j < ss.length) w => (show Calls Tryz.prog 34 #[.string (tx (numT (ss.getD j [])))] w (fun e w' => e = .returned (.tuple #[.string (fT ss j).x, .bool (mayL (numT (ss.getD j [])))]) ∧ w = w') from by
        have g := rLiteral_is (numT (ss.getD j [])) (by have := (num_len (hN _ (hmem j hj))).2; omega) w
        rw [lit_num (hN _ (hmem j hj))] at g
        exact g))
      have HL := Lib.hid (fun j (hj : j < ss.length) => show (fT ss j).x.size ≤ 1000 from by
        show (tx (ss.getD j [])).size ≤ 1000
        rw [tx_size]
        have := (num_len (hN _ (hmem j hj))).1
        omega)
      have HZ := Lib.hid (fun k hk => (show (Tj (fT ss) k).size ≤ 1001 * k from jl_size HL.out k hk))
      have HE := Lib.hid (show Tj (fT ss) ss.length = tx (joinT ss) from by unfold Tj; rw [fT_jl])
      have HZ0 := Lib.hid (show (⟨#[]⟩ : ByteArray) = Tj (fT ss) 0 from rfl)
      obtain ⟨N0, hN0⟩ : ∃ N0, N0 = ss.length := ⟨_, rfl⟩
      rw [← hN0] at h1 em HCN KL HL HZ HE
      clear hN hnc hst hmem en e5 e2 e3 e4 h KT hl hz hN0 HPL HST HH HNQ hon h0
      unfold Nd.val at *
      generalize (f p).k = dk at *
      generalize (f p).v = dv at *
      generalize (f p).a = da at *
      generalize (f p).x = dx at *
      generalize (f p).g = dg at *
      generalize (f p).m = dm at *
      generalize (f p).c = dc at *
      subst e1 eg em
      generalize fT ss = fs at *
      have n0 := HBD.out.c0
      have n1 := HBD.out.c1
      have n2 := HBD.out.c2
      have n3 := HBD.out.c3
      have n4 := HBD.out.c4
      go_wp2_with fail
      go_loopw [10, 11] (fun sv iv wr => ∃ k : Nat, iv = .int .i64 k ∧ k ≤ dm ∧ sv = .string (Tj fs k) ∧ wr = w4) (fun _ iv _ => dm - (intOf iv).toNat)
      case atStart => exact ⟨0, rfl, by omega, by rw [← HZ0.out], rfl⟩
      case round =>
        obtain ⟨k, rfl, hk, rfl, rfl⟩ := hrel
        by_cases hlt : k < dm
        · have e2 : (k : Int) < (dm : Int) := by omega
          have c1 := HCN.out k hlt
          have z1 := HZ.out k hk
          have z2 := HL.out k hlt
          have KK := Lib.hid (KL.out k hlt)
          generalize tx (numT (ss.getD k [])) = tk at *
          generalize mayL (numT (ss.getD k [])) = mk at *
          have w3 : IntKind.i64.wrap ((k : Int) + 1) = (k : Int) + 1 := wrn (by omega) (by omega)
          by_cases h0 : 0 < k
          · have e3 : (0 : Int) < (k : Int) := by omega
            have HX := Lib.hid (Tj_more fs k h0)
            generalize Tj fs k = sk at *
            have z3 : (sk ++ (⟨#[32]⟩ : ByteArray)).size ≤ 2000000 := by
              rw [ByteArray.size_append, show (⟨#[32]⟩ : ByteArray).size = 1 from rfl]; omega
            generalize (fs k).x = x at *
            go_wp2_with fail
            refine (KK.out _).mono ?_
            rintro e w1 ⟨rfl, rfl⟩
            go_wp2_with fail
            exact ⟨⟨_, _, _, _, _, _, _, _, _, _, _, _, _, _, _, _, _, _, _, _, _, _, _, _, _, _, _, ⟨k + 1, rfl, by omega, by rw [← HX.out], (by first | rfl | trivial)⟩, (by first | rfl | trivial)⟩, by simp [intOf]; omega⟩
          · obtain rfl : k = 0 := by omega
            rw [Nat.add_zero] at c1
            have HX := Lib.hid (Tj_one fs)
            generalize Tj fs 0 = sk at *
            generalize (fs 0).x = x at *
            go_wp2_with fail
            refine (KK.out _).mono ?_
            rintro e w1 ⟨rfl, rfl⟩
            go_wp2_with fail
            exact ⟨⟨_, _, _, _, _, _, _, _, _, _, _, _, _, _, _, _, _, _, _, _, _, _, _, _, _, _, _, ⟨1, rfl, by omega, by rw [← HX.out], (by first | rfl | trivial)⟩, (by first | rfl | trivial)⟩, by simp [intOf]; omega⟩
        · have e2 : ¬ (k : Int) < (dm : Int) := by omega
          obtain rfl : k = dm := by omega
          go_wp2_with fail
          go_ret
          exact ⟨by rw [← HE.out]; rfl, HB4.out⟩
    | @name x =>
      obtain rfl : k = 0 := hm
      injection hd with e1 e2 e3 e4 e5
      replace e1 := e1.symm
      have ex := tx_of e4.symm
      have HT := Lib.hid (show tx s = (f p).x from by
        rw [ex])
      have zx : (f p).x.size ≤ 300 := by have := (hz p hp).2.2; omega
      clear KT
      unfold Nd.val at *
      generalize (f p).k = dk at *
      generalize (f p).v = dv at *
      generalize (f p).a = da at *
      generalize (f p).x = dx at *
      generalize (f p).g = dg at *
      generalize (f p).m = dm at *
      generalize (f p).c = dc at *
      subst e1
      have n0 := HBD.out.c0
      have n1 := HBD.out.c1
      have n2 := HBD.out.c2
      have n3 := HBD.out.c3
      have n4 := HBD.out.c4
      have ln := HBD.out.lt
      clear HPL HST HH HNQ hon hl hz h3
      clear e2 e3 e4 e5
      clear ex
      go_wp2_with fail
      go_ret
      exact ⟨by rw [HT.out]; rfl, HB4.out⟩
    | @assign x t q =>
      obtain rfl : k = 1 := hm
      injection hd with e1 e2 e3 e4 e5
      replace e1 := e1.symm
      have ex := tx_of e4.symm
      have z0 : (tx t).size ≤ 20000000000 := (KT 0 q t rfl rfl).1
      obtain ⟨ub, uo, rfl, hul, huc⟩ := HPL.out.cells (by simp)
      obtain ⟨sb, so, rfl, hsc⟩ := HST.out.2 (by simp)
      have b0 : w4.cell? ⟨ub, uo, none⟩ = some (.int .i64 (q : Int)) := huc 0 _ rfl
      have s0 : w4.cell? ⟨sb, so, none⟩ = some (.string (tx t)) := hsc 0 (by simp)
      have hsl : sb < w4.heap.size := World.block_lt_of_cell? w4 _ s0
      have HT := Lib.hid (show tx (x ++ 58 :: t) = (f p).x ++ (⟨#[58]⟩ : ByteArray) ++ tx t from by
        rw [ex, show (⟨#[58]⟩ : ByteArray) = tx [58] from rfl, tx_cat, tx_cat]
        try simp)
      have zx : (f p).x.size ≤ 300 := by have := (hz p hp).2.2; omega
      clear KT
      unfold Nd.val at *
      generalize (f p).k = dk at *
      generalize (f p).v = dv at *
      generalize (f p).a = da at *
      generalize (f p).x = dx at *
      generalize (f p).g = dg at *
      generalize (f p).m = dm at *
      generalize (f p).c = dc at *
      generalize tx t = t0 at *
      subst e1
      have y0 : ¬ (9223372036854775807 < dx.size + 1) := by omega
      have y1 : ¬ (9223372036854775807 ≤ dx.size) := by omega
      have y2 : ¬ (9223372036854775806 < dx.size) := by omega
      have y3 : ¬ (9223372036854775807 < dx.size + 1 + t0.size) := by omega
      have n0 := HBD.out.c0
      have n1 := HBD.out.c1
      have n2 := HBD.out.c2
      have n3 := HBD.out.c3
      have n4 := HBD.out.c4
      have ln := HBD.out.lt
      clear HPL HST HH HNQ hon hl hz h3
      clear e2 e3 e4 e5
      clear ex
      have hq : Below w4.heap.size w4 w4 := Below.refl _ _
      go_wp2_with fail
      go_region_held3 (fun w' => w'.cell? ⟨W.heap.size, 0, none⟩ = some (.int .i64 5) ∧ w'.cell? ⟨W.heap.size, 1, none⟩ = some (.string dv) ∧ w'.cell? ⟨W.heap.size, 2, none⟩ = some (.string da) ∧ w'.cell? ⟨W.heap.size, 3, none⟩ = some (.string dx) ∧ w'.cell? ⟨W.heap.size, 4, none⟩ = some (.slice dg dm dc) ∧ w'.cell? ⟨ub, uo, none⟩ = some (.int .i64 (q : Int)) ∧ w'.cell? ⟨sb, so, none⟩ = some (.string t0))
        (first | exact ⟨(Below.cell (p := ⟨W.heap.size, 0, none⟩) (by repeat' (first | exact hq | refine Below.drew ?_ | refine below_drewM ?_ _)) ln).trans n0, (Below.cell (p := ⟨W.heap.size, 1, none⟩) (by repeat' (first | exact hq | refine Below.drew ?_ | refine below_drewM ?_ _)) ln).trans n1, (Below.cell (p := ⟨W.heap.size, 2, none⟩) (by repeat' (first | exact hq | refine Below.drew ?_ | refine below_drewM ?_ _)) ln).trans n2, (Below.cell (p := ⟨W.heap.size, 3, none⟩) (by repeat' (first | exact hq | refine Below.drew ?_ | refine below_drewM ?_ _)) ln).trans n3, (Below.cell (p := ⟨W.heap.size, 4, none⟩) (by repeat' (first | exact hq | refine Below.drew ?_ | refine below_drewM ?_ _)) ln).trans n4, (Below.cell (p := ⟨ub, uo, none⟩) (by repeat' (first | exact hq | refine Below.drew ?_ | refine below_drewM ?_ _)) hul).trans b0, (Below.cell (p := ⟨sb, so, none⟩) (by repeat' (first | exact hq | refine Below.drew ?_ | refine below_drewM ?_ _)) hsl).trans s0⟩ | fail)
        (first
          | fail)
      all_goals
        go_wp2_with fail
        go_ret
        exact ⟨by rw [HT.out]; rfl, HB4.out.trans (Below.mono (by repeat' (first | exact hq | refine Below.drew ?_ | refine below_drewM ?_ _)) HB4.out.size)⟩
    | @define x t q =>
      obtain rfl : k = 1 := hm
      injection hd with e1 e2 e3 e4 e5
      replace e1 := e1.symm
      have ex := tx_of e4.symm
      have z0 : (tx t).size ≤ 20000000000 := (KT 0 q t rfl rfl).1
      obtain ⟨ub, uo, rfl, hul, huc⟩ := HPL.out.cells (by simp)
      obtain ⟨sb, so, rfl, hsc⟩ := HST.out.2 (by simp)
      have b0 : w4.cell? ⟨ub, uo, none⟩ = some (.int .i64 (q : Int)) := huc 0 _ rfl
      have s0 : w4.cell? ⟨sb, so, none⟩ = some (.string (tx t)) := hsc 0 (by simp)
      have hsl : sb < w4.heap.size := World.block_lt_of_cell? w4 _ s0
      have HT := Lib.hid (show tx (x ++ 58 :: 123 :: (t ++ [125])) = (f p).x ++ (⟨#[58, 123]⟩ : ByteArray) ++ tx t ++ (⟨#[125]⟩ : ByteArray) from by
        rw [ex, show (⟨#[58, 123]⟩ : ByteArray) = tx [58, 123] from rfl, show (⟨#[125]⟩ : ByteArray) = tx [125] from rfl, tx_cat, tx_cat, tx_cat]
        try simp)
      have zx : (f p).x.size ≤ 300 := by have := (hz p hp).2.2; omega
      clear KT
      unfold Nd.val at *
      generalize (f p).k = dk at *
      generalize (f p).v = dv at *
      generalize (f p).a = da at *
      generalize (f p).x = dx at *
      generalize (f p).g = dg at *
      generalize (f p).m = dm at *
      generalize (f p).c = dc at *
      generalize tx t = t0 at *
      subst e1
      have y0 : ¬ (9223372036854775807 < dx.size + 2) := by omega
      have y1 : ¬ (9223372036854775806 ≤ dx.size) := by omega
      have y2 : ¬ (9223372036854775805 < dx.size) := by omega
      have y3 : ¬ (9223372036854775807 < dx.size + 2 + t0.size) := by omega
      have y4 : ¬ (9223372036854775807 < dx.size + 2 + t0.size + 1) := by omega
      have y5 : ¬ (9223372036854775807 ≤ dx.size + 2 + t0.size) := by omega
      have y6 : ¬ (9223372036854775806 < dx.size + 2 + t0.size) := by omega
      have n0 := HBD.out.c0
      have n1 := HBD.out.c1
      have n2 := HBD.out.c2
      have n3 := HBD.out.c3
      have n4 := HBD.out.c4
      have ln := HBD.out.lt
      clear HPL HST HH HNQ hon hl hz h3
      clear e2 e3 e4 e5
      clear ex
      have hq : Below w4.heap.size w4 w4 := Below.refl _ _
      go_wp2_with fail
      go_region_held3 (fun w' => w'.cell? ⟨W.heap.size, 0, none⟩ = some (.int .i64 7) ∧ w'.cell? ⟨W.heap.size, 1, none⟩ = some (.string dv) ∧ w'.cell? ⟨W.heap.size, 2, none⟩ = some (.string da) ∧ w'.cell? ⟨W.heap.size, 3, none⟩ = some (.string dx) ∧ w'.cell? ⟨W.heap.size, 4, none⟩ = some (.slice dg dm dc) ∧ w'.cell? ⟨ub, uo, none⟩ = some (.int .i64 (q : Int)) ∧ w'.cell? ⟨sb, so, none⟩ = some (.string t0))
        (first | exact ⟨(Below.cell (p := ⟨W.heap.size, 0, none⟩) (by repeat' (first | exact hq | refine Below.drew ?_ | refine below_drewM ?_ _)) ln).trans n0, (Below.cell (p := ⟨W.heap.size, 1, none⟩) (by repeat' (first | exact hq | refine Below.drew ?_ | refine below_drewM ?_ _)) ln).trans n1, (Below.cell (p := ⟨W.heap.size, 2, none⟩) (by repeat' (first | exact hq | refine Below.drew ?_ | refine below_drewM ?_ _)) ln).trans n2, (Below.cell (p := ⟨W.heap.size, 3, none⟩) (by repeat' (first | exact hq | refine Below.drew ?_ | refine below_drewM ?_ _)) ln).trans n3, (Below.cell (p := ⟨W.heap.size, 4, none⟩) (by repeat' (first | exact hq | refine Below.drew ?_ | refine below_drewM ?_ _)) ln).trans n4, (Below.cell (p := ⟨ub, uo, none⟩) (by repeat' (first | exact hq | refine Below.drew ?_ | refine below_drewM ?_ _)) hul).trans b0, (Below.cell (p := ⟨sb, so, none⟩) (by repeat' (first | exact hq | refine Below.drew ?_ | refine below_drewM ?_ _)) hsl).trans s0⟩ | fail)
        (first
          | fail)
      all_goals
        go_wp2_with fail
        go_ret
        exact ⟨by rw [HT.out]; rfl, HB4.out.trans (Below.mono (by repeat' (first | exact hq | refine Below.drew ?_ | refine below_drewM ?_ _)) HB4.out.size)⟩
    | @amend x i t u q =>
      obtain rfl : k = 2 := hm
      injection hd with e1 e2 e3 e4 e5
      replace e1 := e1.symm
      have ex := tx_of e4.symm
      have z0 : (tx i).size ≤ 20000000000 := (KT 0 u i rfl rfl).1
      have z1 : (tx t).size ≤ 20000000000 := (KT 1 q t rfl rfl).1
      obtain ⟨ub, uo, rfl, hul, huc⟩ := HPL.out.cells (by simp)
      obtain ⟨sb, so, rfl, hsc⟩ := HST.out.2 (by simp)
      have b0 : w4.cell? ⟨ub, uo, none⟩ = some (.int .i64 (u : Int)) := huc 0 _ rfl
      have s0 : w4.cell? ⟨sb, so, none⟩ = some (.string (tx i)) := hsc 0 (by simp)
      have b1 : w4.cell? ⟨ub, uo + 1, none⟩ = some (.int .i64 (q : Int)) := huc 1 _ rfl
      have s1 : w4.cell? ⟨sb, so + 1, none⟩ = some (.string (tx t)) := hsc 1 (by simp)
      have hsl : sb < w4.heap.size := World.block_lt_of_cell? w4 _ s0
      have HT := Lib.hid (show tx (x ++ 91 :: (i ++ 93 :: 58 :: t)) = (f p).x ++ (⟨#[91]⟩ : ByteArray) ++ tx i ++ (⟨#[93, 58]⟩ : ByteArray) ++ tx t from by
        rw [ex, show (⟨#[91]⟩ : ByteArray) = tx [91] from rfl, show (⟨#[93, 58]⟩ : ByteArray) = tx [93, 58] from rfl, tx_cat, tx_cat, tx_cat, tx_cat]
        try simp)
      have zx : (f p).x.size ≤ 300 := by have := (hz p hp).2.2; omega
      clear KT
      unfold Nd.val at *
      generalize (f p).k = dk at *
      generalize (f p).v = dv at *
      generalize (f p).a = da at *
      generalize (f p).x = dx at *
      generalize (f p).g = dg at *
      generalize (f p).m = dm at *
      generalize (f p).c = dc at *
      generalize tx i = t0 at *
      generalize tx t = t1 at *
      subst e1
      have y0 : ¬ (9223372036854775807 < dx.size + 1) := by omega
      have y1 : ¬ (9223372036854775807 ≤ dx.size) := by omega
      have y2 : ¬ (9223372036854775806 < dx.size) := by omega
      have y3 : ¬ (9223372036854775807 < dx.size + 1 + t0.size) := by omega
      have y4 : ¬ (9223372036854775807 < dx.size + 1 + t0.size + 2) := by omega
      have y5 : ¬ (9223372036854775806 ≤ dx.size + 1 + t0.size) := by omega
      have y6 : ¬ (9223372036854775805 < dx.size + 1 + t0.size) := by omega
      have y7 : ¬ (9223372036854775807 < dx.size + 1 + t0.size + 2 + t1.size) := by omega
      have n0 := HBD.out.c0
      have n1 := HBD.out.c1
      have n2 := HBD.out.c2
      have n3 := HBD.out.c3
      have n4 := HBD.out.c4
      have ln := HBD.out.lt
      clear HPL HST HH HNQ hon hl hz h3
      clear e2 e3 e4 e5
      clear ex
      have hq : Below w4.heap.size w4 w4 := Below.refl _ _
      go_wp2_with fail
      go_region_held3 (fun w' => w'.cell? ⟨W.heap.size, 0, none⟩ = some (.int .i64 6) ∧ w'.cell? ⟨W.heap.size, 1, none⟩ = some (.string dv) ∧ w'.cell? ⟨W.heap.size, 2, none⟩ = some (.string da) ∧ w'.cell? ⟨W.heap.size, 3, none⟩ = some (.string dx) ∧ w'.cell? ⟨W.heap.size, 4, none⟩ = some (.slice dg dm dc) ∧ w'.cell? ⟨ub, uo, none⟩ = some (.int .i64 (u : Int)) ∧ w'.cell? ⟨sb, so, none⟩ = some (.string t0) ∧ w'.cell? ⟨ub, uo + 1, none⟩ = some (.int .i64 (q : Int)) ∧ w'.cell? ⟨sb, so + 1, none⟩ = some (.string t1))
        (first | exact ⟨(Below.cell (p := ⟨W.heap.size, 0, none⟩) (by repeat' (first | exact hq | refine Below.drew ?_ | refine below_drewM ?_ _)) ln).trans n0, (Below.cell (p := ⟨W.heap.size, 1, none⟩) (by repeat' (first | exact hq | refine Below.drew ?_ | refine below_drewM ?_ _)) ln).trans n1, (Below.cell (p := ⟨W.heap.size, 2, none⟩) (by repeat' (first | exact hq | refine Below.drew ?_ | refine below_drewM ?_ _)) ln).trans n2, (Below.cell (p := ⟨W.heap.size, 3, none⟩) (by repeat' (first | exact hq | refine Below.drew ?_ | refine below_drewM ?_ _)) ln).trans n3, (Below.cell (p := ⟨W.heap.size, 4, none⟩) (by repeat' (first | exact hq | refine Below.drew ?_ | refine below_drewM ?_ _)) ln).trans n4, (Below.cell (p := ⟨ub, uo, none⟩) (by repeat' (first | exact hq | refine Below.drew ?_ | refine below_drewM ?_ _)) hul).trans b0, (Below.cell (p := ⟨sb, so, none⟩) (by repeat' (first | exact hq | refine Below.drew ?_ | refine below_drewM ?_ _)) hsl).trans s0, (Below.cell (p := ⟨ub, uo + 1, none⟩) (by repeat' (first | exact hq | refine Below.drew ?_ | refine below_drewM ?_ _)) hul).trans b1, (Below.cell (p := ⟨sb, so + 1, none⟩) (by repeat' (first | exact hq | refine Below.drew ?_ | refine below_drewM ?_ _)) hsl).trans s1⟩ | fail)
        (first
          | fail)
      all_goals
        go_wp2_with fail
        go_ret
        exact ⟨by rw [HT.out]; rfl, HB4.out.trans (Below.mono (by repeat' (first | exact hq | refine Below.drew ?_ | refine below_drewM ?_ _)) HB4.out.size)⟩
    | @index m l q tl t hm =>
      obtain rfl : k = 2 := hm
      injection hd with e1 e2 e3 e4 e5
      replace e1 := e1.symm
      have z0 : (tx tl).size ≤ 20000000000 := (KT 0 l tl rfl rfl).1
      have z1 : (tx t).size ≤ 20000000000 := (KT 1 q t rfl rfl).1
      obtain ⟨ub, uo, rfl, hul, huc⟩ := HPL.out.cells (by simp)
      obtain ⟨sb, so, rfl, hsc⟩ := HST.out.2 (by simp)
      have b0 : w4.cell? ⟨ub, uo, none⟩ = some (.int .i64 (l : Int)) := huc 0 _ rfl
      have s0 : w4.cell? ⟨sb, so, none⟩ = some (.string (tx tl)) := hsc 0 (by simp)
      have b1 : w4.cell? ⟨ub, uo + 1, none⟩ = some (.int .i64 (q : Int)) := huc 1 _ rfl
      have s1 : w4.cell? ⟨sb, so + 1, none⟩ = some (.string (tx t)) := hsc 1 (by simp)
      have hsl : sb < w4.heap.size := World.block_lt_of_cell? w4 _ s0
      obtain ⟨hlp, rfl⟩ := tn_some hm
      have KW := Lib.hid (fun w' (hb : Below w4.heap.size w4 w') => rwrap_is l (tx tl) w' ((HNQ.out).below hb) HH.out.nc HH.out.cm HH.out.hn hlp z0)
      have ew := Lib.hid (wrB_tx (f l) tl)
      rw [ew.out] at KW
      have zw : (tx (wrT (tnOf (f l)) tl)).size ≤ 20000001000 := ew.out ▸ wrB_size z0
      have HT := Lib.hid (show tx (wrT (tnOf (f l)) tl ++ 91 :: (t ++ [93])) = tx (wrT (tnOf (f l)) tl) ++ (⟨#[91]⟩ : ByteArray) ++ tx t ++ (⟨#[93]⟩ : ByteArray) from by
        rw [show (⟨#[91]⟩ : ByteArray) = tx [91] from rfl, show (⟨#[93]⟩ : ByteArray) = tx [93] from rfl, tx_cat, tx_cat, tx_cat]
        try simp)
      have zx : (f p).x.size ≤ 300 := by have := (hz p hp).2.2; omega
      clear KT
      unfold Nd.val at *
      generalize (f p).k = dk at *
      generalize (f p).v = dv at *
      generalize (f p).a = da at *
      generalize (f p).x = dx at *
      generalize (f p).g = dg at *
      generalize (f p).m = dm at *
      generalize (f p).c = dc at *
      generalize tx (wrT (tnOf (f l)) tl) = w0 at *
      generalize tx tl = t0 at *
      generalize tx t = t1 at *
      subst e1
      have y0 : ¬ (9223372036854775807 < w0.size + 1) := by omega
      have y1 : ¬ (9223372036854775807 ≤ w0.size) := by omega
      have y2 : ¬ (9223372036854775806 < w0.size) := by omega
      have y3 : ¬ (9223372036854775807 < w0.size + 1 + t1.size) := by omega
      have y4 : ¬ (9223372036854775807 < w0.size + 1 + t1.size + 1) := by omega
      have y5 : ¬ (9223372036854775807 ≤ w0.size + 1 + t1.size) := by omega
      have y6 : ¬ (9223372036854775806 < w0.size + 1 + t1.size) := by omega
      have n0 := HBD.out.c0
      have n1 := HBD.out.c1
      have n2 := HBD.out.c2
      have n3 := HBD.out.c3
      have n4 := HBD.out.c4
      have ln := HBD.out.lt
      clear HPL HST HH HNQ hon hl hz h3
      clear e2 e3 e4 e5
      have KW2 := Lib.hid (fun w' (hb : Below w4.heap.size w4 w') => stb_base hb (KW.out w' hb))
      have hq : Below w4.heap.size w4 w4 := Below.refl _ _
      go_wp2_with fail
      go_region_held3 (fun w' => w'.cell? ⟨W.heap.size, 0, none⟩ = some (.int .i64 8) ∧ w'.cell? ⟨W.heap.size, 1, none⟩ = some (.string dv) ∧ w'.cell? ⟨W.heap.size, 2, none⟩ = some (.string da) ∧ w'.cell? ⟨W.heap.size, 3, none⟩ = some (.string dx) ∧ w'.cell? ⟨W.heap.size, 4, none⟩ = some (.slice dg dm dc) ∧ w'.cell? ⟨ub, uo, none⟩ = some (.int .i64 (l : Int)) ∧ w'.cell? ⟨sb, so, none⟩ = some (.string t0) ∧ w'.cell? ⟨ub, uo + 1, none⟩ = some (.int .i64 (q : Int)) ∧ w'.cell? ⟨sb, so + 1, none⟩ = some (.string t1))
        (first | exact ⟨(Below.cell (p := ⟨W.heap.size, 0, none⟩) (by repeat' (first | exact hq | refine Below.drew ?_ | refine below_drewM ?_ _)) ln).trans n0, (Below.cell (p := ⟨W.heap.size, 1, none⟩) (by repeat' (first | exact hq | refine Below.drew ?_ | refine below_drewM ?_ _)) ln).trans n1, (Below.cell (p := ⟨W.heap.size, 2, none⟩) (by repeat' (first | exact hq | refine Below.drew ?_ | refine below_drewM ?_ _)) ln).trans n2, (Below.cell (p := ⟨W.heap.size, 3, none⟩) (by repeat' (first | exact hq | refine Below.drew ?_ | refine below_drewM ?_ _)) ln).trans n3, (Below.cell (p := ⟨W.heap.size, 4, none⟩) (by repeat' (first | exact hq | refine Below.drew ?_ | refine below_drewM ?_ _)) ln).trans n4, (Below.cell (p := ⟨ub, uo, none⟩) (by repeat' (first | exact hq | refine Below.drew ?_ | refine below_drewM ?_ _)) hul).trans b0, (Below.cell (p := ⟨sb, so, none⟩) (by repeat' (first | exact hq | refine Below.drew ?_ | refine below_drewM ?_ _)) hsl).trans s0, (Below.cell (p := ⟨ub, uo + 1, none⟩) (by repeat' (first | exact hq | refine Below.drew ?_ | refine below_drewM ?_ _)) hul).trans b1, (Below.cell (p := ⟨sb, so + 1, none⟩) (by repeat' (first | exact hq | refine Below.drew ?_ | refine below_drewM ?_ _)) hsl).trans s1⟩ | fail)
        (first
          | (go_at_call 36; (with_reducible refine (KW2.out _ (by repeat' (first | exact hq | refine Below.drew ?_ | refine below_drewM ?_ _))).mono ?_); rintro e wa ⟨rfl, hq⟩)
          | fail)
      all_goals
        go_wp2_with fail
        go_ret
        exact ⟨by rw [HT.out]; rfl, HB4.out.trans (Below.mono (by repeat' (first | exact hq | refine Below.drew ?_ | refine below_drewM ?_ _)) HB4.out.size)⟩
    | @monad d q w t hk hv =>
      obtain rfl : k = 1 := hm
      have e1 : (f p).k = 3 := by rw [← hk, hd]; rfl
      have ev := vx_no hd hv
      have KV := Lib.hid (fun w' => rverb10_is hd hp hz hv ⟨#[]⟩ (fun t h => by cases h) w')
      have zv := vx_size hd hp hz hv fun t h => by cases h
      have z0 : (tx t).size ≤ 20000000000 := (KT 0 q t rfl rfl).1
      obtain ⟨ub, uo, rfl, hul, huc⟩ := HPL.out.cells (by simp)
      obtain ⟨sb, so, rfl, hsc⟩ := HST.out.2 (by simp)
      have b0 : w4.cell? ⟨ub, uo, none⟩ = some (.int .i64 (q : Int)) := huc 0 _ rfl
      have s0 : w4.cell? ⟨sb, so, none⟩ = some (.string (tx t)) := hsc 0 (by simp)
      have hsl : sb < w4.heap.size := World.block_lt_of_cell? w4 _ s0
      have HT := Lib.hid (show tx (w ++ t) = tx w ++ tx t from by
        rw [tx_cat]
        try simp)
      have zx : (f p).x.size ≤ 300 := by have := (hz p hp).2.2; omega
      clear KT
      unfold Nd.val at *
      generalize (f p).k = dk at *
      generalize (f p).v = dv at *
      generalize (f p).a = da at *
      generalize (f p).x = dx at *
      generalize (f p).g = dg at *
      generalize (f p).m = dm at *
      generalize (f p).c = dc at *
      generalize tx w = v0 at *
      generalize tx t = t0 at *
      subst e1
      obtain ⟨ev1, ev2⟩ := ev
      have y0 : ¬ (9223372036854775807 < v0.size + t0.size) := by omega
      have n0 := HBD.out.c0
      have n1 := HBD.out.c1
      have n2 := HBD.out.c2
      have n3 := HBD.out.c3
      have n4 := HBD.out.c4
      have ln := HBD.out.lt
      clear HPL HST HH HNQ hon hl hz h3
      clear hd hv hk
      have KV2 := Lib.hid (fun w' (hb : Below w4.heap.size w4 w') => stb_base hb (KV.out w'))
      have hq : Below w4.heap.size w4 w4 := Below.refl _ _
      go_wp2_with fail
      go_region_held3 (fun w' => w'.cell? ⟨W.heap.size, 0, none⟩ = some (.int .i64 3) ∧ w'.cell? ⟨W.heap.size, 1, none⟩ = some (.string dv) ∧ w'.cell? ⟨W.heap.size, 2, none⟩ = some (.string da) ∧ w'.cell? ⟨W.heap.size, 3, none⟩ = some (.string dx) ∧ w'.cell? ⟨W.heap.size, 4, none⟩ = some (.slice dg dm dc) ∧ w'.cell? ⟨ub, uo, none⟩ = some (.int .i64 (q : Int)) ∧ w'.cell? ⟨sb, so, none⟩ = some (.string t0))
        (first | exact ⟨(Below.cell (p := ⟨W.heap.size, 0, none⟩) (by repeat' (first | exact hq | refine Below.drew ?_ | refine below_drewM ?_ _)) ln).trans n0, (Below.cell (p := ⟨W.heap.size, 1, none⟩) (by repeat' (first | exact hq | refine Below.drew ?_ | refine below_drewM ?_ _)) ln).trans n1, (Below.cell (p := ⟨W.heap.size, 2, none⟩) (by repeat' (first | exact hq | refine Below.drew ?_ | refine below_drewM ?_ _)) ln).trans n2, (Below.cell (p := ⟨W.heap.size, 3, none⟩) (by repeat' (first | exact hq | refine Below.drew ?_ | refine below_drewM ?_ _)) ln).trans n3, (Below.cell (p := ⟨W.heap.size, 4, none⟩) (by repeat' (first | exact hq | refine Below.drew ?_ | refine below_drewM ?_ _)) ln).trans n4, (Below.cell (p := ⟨ub, uo, none⟩) (by repeat' (first | exact hq | refine Below.drew ?_ | refine below_drewM ?_ _)) hul).trans b0, (Below.cell (p := ⟨sb, so, none⟩) (by repeat' (first | exact hq | refine Below.drew ?_ | refine below_drewM ?_ _)) hsl).trans s0⟩ | fail)
        (first
          | (go_at_call 35; (with_reducible refine (KV2.out _ (by repeat' (first | exact hq | refine Below.drew ?_ | refine below_drewM ?_ _))).mono ?_); rintro e wa ⟨rfl, hq⟩)
          | fail)
      all_goals
        go_wp2_with fail
        go_ret
        exact ⟨by rw [HT.out]; rfl, HB4.out.trans (Below.mono (by repeat' (first | exact hq | refine Below.drew ?_ | refine below_drewM ?_ _)) HB4.out.size)⟩
    | @monadB d u q b w t hk hv =>
      obtain rfl : k = 2 := hm
      have e1 : (f p).k = 3 := by rw [← hk, hd]; rfl
      have ev : (f p).v = (⟨#[123]⟩ : ByteArray) := vx_brace hd hv
      have KV := Lib.hid (fun w' => rverb10_is hd hp hz hv (tx b) (fun t h => by cases h; exact ⟨(KT 0 u b rfl rfl).1, rfl⟩) w')
      have zv := vx_size hd hp hz hv fun t h => by cases h; exact (KT 0 u b rfl rfl).1
      have z0 : (tx b).size ≤ 20000000000 := (KT 0 u b rfl rfl).1
      have z1 : (tx t).size ≤ 20000000000 := (KT 1 q t rfl rfl).1
      obtain ⟨ub, uo, rfl, hul, huc⟩ := HPL.out.cells (by simp)
      obtain ⟨sb, so, rfl, hsc⟩ := HST.out.2 (by simp)
      have b0 : w4.cell? ⟨ub, uo, none⟩ = some (.int .i64 (u : Int)) := huc 0 _ rfl
      have s0 : w4.cell? ⟨sb, so, none⟩ = some (.string (tx b)) := hsc 0 (by simp)
      have b1 : w4.cell? ⟨ub, uo + 1, none⟩ = some (.int .i64 (q : Int)) := huc 1 _ rfl
      have s1 : w4.cell? ⟨sb, so + 1, none⟩ = some (.string (tx t)) := hsc 1 (by simp)
      have hsl : sb < w4.heap.size := World.block_lt_of_cell? w4 _ s0
      have HT := Lib.hid (show tx (w ++ t) = tx w ++ tx t from by
        rw [tx_cat]
        try simp)
      have zx : (f p).x.size ≤ 300 := by have := (hz p hp).2.2; omega
      clear KT
      unfold Nd.val at *
      generalize (f p).k = dk at *
      generalize (f p).v = dv at *
      generalize (f p).a = da at *
      generalize (f p).x = dx at *
      generalize (f p).g = dg at *
      generalize (f p).m = dm at *
      generalize (f p).c = dc at *
      generalize tx w = v0 at *
      generalize tx b = t0 at *
      generalize tx t = t1 at *
      subst e1
      subst ev
      have y0 : ¬ (9223372036854775807 < v0.size + t1.size) := by omega
      have n0 := HBD.out.c0
      have n1 := HBD.out.c1
      have n2 := HBD.out.c2
      have n3 := HBD.out.c3
      have n4 := HBD.out.c4
      have ln := HBD.out.lt
      clear HPL HST HH HNQ hon hl hz h3
      clear hd hv hk
      have KV2 := Lib.hid (fun w' (hb : Below w4.heap.size w4 w') => stb_base hb (KV.out w'))
      have hq : Below w4.heap.size w4 w4 := Below.refl _ _
      go_wp2_with fail
      go_region_held3 (fun w' => w'.cell? ⟨W.heap.size, 0, none⟩ = some (.int .i64 3) ∧ w'.cell? ⟨W.heap.size, 1, none⟩ = some (.string ⟨#[123]⟩) ∧ w'.cell? ⟨W.heap.size, 2, none⟩ = some (.string da) ∧ w'.cell? ⟨W.heap.size, 3, none⟩ = some (.string dx) ∧ w'.cell? ⟨W.heap.size, 4, none⟩ = some (.slice dg dm dc) ∧ w'.cell? ⟨ub, uo, none⟩ = some (.int .i64 (u : Int)) ∧ w'.cell? ⟨sb, so, none⟩ = some (.string t0) ∧ w'.cell? ⟨ub, uo + 1, none⟩ = some (.int .i64 (q : Int)) ∧ w'.cell? ⟨sb, so + 1, none⟩ = some (.string t1))
        (first | exact ⟨(Below.cell (p := ⟨W.heap.size, 0, none⟩) (by repeat' (first | exact hq | refine Below.drew ?_ | refine below_drewM ?_ _)) ln).trans n0, (Below.cell (p := ⟨W.heap.size, 1, none⟩) (by repeat' (first | exact hq | refine Below.drew ?_ | refine below_drewM ?_ _)) ln).trans n1, (Below.cell (p := ⟨W.heap.size, 2, none⟩) (by repeat' (first | exact hq | refine Below.drew ?_ | refine below_drewM ?_ _)) ln).trans n2, (Below.cell (p := ⟨W.heap.size, 3, none⟩) (by repeat' (first | exact hq | refine Below.drew ?_ | refine below_drewM ?_ _)) ln).trans n3, (Below.cell (p := ⟨W.heap.size, 4, none⟩) (by repeat' (first | exact hq | refine Below.drew ?_ | refine below_drewM ?_ _)) ln).trans n4, (Below.cell (p := ⟨ub, uo, none⟩) (by repeat' (first | exact hq | refine Below.drew ?_ | refine below_drewM ?_ _)) hul).trans b0, (Below.cell (p := ⟨sb, so, none⟩) (by repeat' (first | exact hq | refine Below.drew ?_ | refine below_drewM ?_ _)) hsl).trans s0, (Below.cell (p := ⟨ub, uo + 1, none⟩) (by repeat' (first | exact hq | refine Below.drew ?_ | refine below_drewM ?_ _)) hul).trans b1, (Below.cell (p := ⟨sb, so + 1, none⟩) (by repeat' (first | exact hq | refine Below.drew ?_ | refine below_drewM ?_ _)) hsl).trans s1⟩ | fail)
        (first
          | (go_at_call 35; (with_reducible refine (KV2.out _ (by repeat' (first | exact hq | refine Below.drew ?_ | refine below_drewM ?_ _))).mono ?_); rintro e wa ⟨rfl, hq⟩)
          | fail)
      all_goals
        go_wp2_with fail
        go_ret
        exact ⟨by rw [HT.out]; rfl, HB4.out.trans (Below.mono (by repeat' (first | exact hq | refine Below.drew ?_ | refine below_drewM ?_ _)) HB4.out.size)⟩
    | @dyad d m l q w tl t hk hv hm =>
      obtain rfl : k = 2 := hm
      have e1 : (f p).k = 4 := by rw [← hk, hd]; rfl
      have ev := vx_no hd hv
      have KV := Lib.hid (fun w' => rverb10_is hd hp hz hv ⟨#[]⟩ (fun t h => by cases h) w')
      have zv := vx_size hd hp hz hv fun t h => by cases h
      have z0 : (tx tl).size ≤ 20000000000 := (KT 0 l tl rfl rfl).1
      have z1 : (tx t).size ≤ 20000000000 := (KT 1 q t rfl rfl).1
      obtain ⟨ub, uo, rfl, hul, huc⟩ := HPL.out.cells (by simp)
      obtain ⟨sb, so, rfl, hsc⟩ := HST.out.2 (by simp)
      have b0 : w4.cell? ⟨ub, uo, none⟩ = some (.int .i64 (l : Int)) := huc 0 _ rfl
      have s0 : w4.cell? ⟨sb, so, none⟩ = some (.string (tx tl)) := hsc 0 (by simp)
      have b1 : w4.cell? ⟨ub, uo + 1, none⟩ = some (.int .i64 (q : Int)) := huc 1 _ rfl
      have s1 : w4.cell? ⟨sb, so + 1, none⟩ = some (.string (tx t)) := hsc 1 (by simp)
      have hsl : sb < w4.heap.size := World.block_lt_of_cell? w4 _ s0
      obtain ⟨hlp, rfl⟩ := tn_some hm
      have KW := Lib.hid (fun w' (hb : Below w4.heap.size w4 w') => rwrap_is l (tx tl) w' ((HNQ.out).below hb) HH.out.nc HH.out.cm HH.out.hn hlp z0)
      have ew := Lib.hid (wrB_tx (f l) tl)
      rw [ew.out] at KW
      have zw : (tx (wrT (tnOf (f l)) tl)).size ≤ 20000001000 := ew.out ▸ wrB_size z0
      have HT := Lib.hid (show tx (wrT (tnOf (f l)) tl ++ (w ++ t)) = tx (wrT (tnOf (f l)) tl) ++ tx w ++ tx t from by
        rw [tx_cat, tx_cat]
        try simp)
      have zx : (f p).x.size ≤ 300 := by have := (hz p hp).2.2; omega
      clear KT
      unfold Nd.val at *
      generalize (f p).k = dk at *
      generalize (f p).v = dv at *
      generalize (f p).a = da at *
      generalize (f p).x = dx at *
      generalize (f p).g = dg at *
      generalize (f p).m = dm at *
      generalize (f p).c = dc at *
      generalize tx (wrT (tnOf (f l)) tl) = w0 at *
      generalize tx w = v0 at *
      generalize tx tl = t0 at *
      generalize tx t = t1 at *
      subst e1
      obtain ⟨ev1, ev2⟩ := ev
      have y0 : ¬ (9223372036854775807 < w0.size + v0.size) := by omega
      have y1 : ¬ (9223372036854775807 < w0.size + v0.size + t1.size) := by omega
      have n0 := HBD.out.c0
      have n1 := HBD.out.c1
      have n2 := HBD.out.c2
      have n3 := HBD.out.c3
      have n4 := HBD.out.c4
      have ln := HBD.out.lt
      clear HPL HST HH HNQ hon hl hz h3
      clear hd hv hk
      have KV2 := Lib.hid (fun w' (hb : Below w4.heap.size w4 w') => stb_base hb (KV.out w'))
      have KW2 := Lib.hid (fun w' (hb : Below w4.heap.size w4 w') => stb_base hb (KW.out w' hb))
      have hq : Below w4.heap.size w4 w4 := Below.refl _ _
      go_wp2_with fail
      go_region_held3 (fun w' => w'.cell? ⟨W.heap.size, 0, none⟩ = some (.int .i64 4) ∧ w'.cell? ⟨W.heap.size, 1, none⟩ = some (.string dv) ∧ w'.cell? ⟨W.heap.size, 2, none⟩ = some (.string da) ∧ w'.cell? ⟨W.heap.size, 3, none⟩ = some (.string dx) ∧ w'.cell? ⟨W.heap.size, 4, none⟩ = some (.slice dg dm dc) ∧ w'.cell? ⟨ub, uo, none⟩ = some (.int .i64 (l : Int)) ∧ w'.cell? ⟨sb, so, none⟩ = some (.string t0) ∧ w'.cell? ⟨ub, uo + 1, none⟩ = some (.int .i64 (q : Int)) ∧ w'.cell? ⟨sb, so + 1, none⟩ = some (.string t1))
        (first | exact ⟨(Below.cell (p := ⟨W.heap.size, 0, none⟩) (by repeat' (first | exact hq | refine Below.drew ?_ | refine below_drewM ?_ _)) ln).trans n0, (Below.cell (p := ⟨W.heap.size, 1, none⟩) (by repeat' (first | exact hq | refine Below.drew ?_ | refine below_drewM ?_ _)) ln).trans n1, (Below.cell (p := ⟨W.heap.size, 2, none⟩) (by repeat' (first | exact hq | refine Below.drew ?_ | refine below_drewM ?_ _)) ln).trans n2, (Below.cell (p := ⟨W.heap.size, 3, none⟩) (by repeat' (first | exact hq | refine Below.drew ?_ | refine below_drewM ?_ _)) ln).trans n3, (Below.cell (p := ⟨W.heap.size, 4, none⟩) (by repeat' (first | exact hq | refine Below.drew ?_ | refine below_drewM ?_ _)) ln).trans n4, (Below.cell (p := ⟨ub, uo, none⟩) (by repeat' (first | exact hq | refine Below.drew ?_ | refine below_drewM ?_ _)) hul).trans b0, (Below.cell (p := ⟨sb, so, none⟩) (by repeat' (first | exact hq | refine Below.drew ?_ | refine below_drewM ?_ _)) hsl).trans s0, (Below.cell (p := ⟨ub, uo + 1, none⟩) (by repeat' (first | exact hq | refine Below.drew ?_ | refine below_drewM ?_ _)) hul).trans b1, (Below.cell (p := ⟨sb, so + 1, none⟩) (by repeat' (first | exact hq | refine Below.drew ?_ | refine below_drewM ?_ _)) hsl).trans s1⟩ | fail)
        (first
          | (go_at_call 36; (with_reducible refine (KW2.out _ (by repeat' (first | exact hq | refine Below.drew ?_ | refine below_drewM ?_ _))).mono ?_); rintro e wa ⟨rfl, hq⟩)
          | (go_at_call 35; (with_reducible refine (KV2.out _ (by repeat' (first | exact hq | refine Below.drew ?_ | refine below_drewM ?_ _))).mono ?_); rintro e wa ⟨rfl, hq⟩)
          | fail)
      all_goals
        go_wp2_with fail
        go_ret
        exact ⟨by rw [HT.out]; rfl, HB4.out.trans (Below.mono (by repeat' (first | exact hq | refine Below.drew ?_ | refine below_drewM ?_ _)) HB4.out.size)⟩
    | @dyadB d m u l q b w tl t hk hv hm =>
      obtain rfl : k = 3 := hm
      have e1 : (f p).k = 4 := by rw [← hk, hd]; rfl
      have ev : (f p).v = (⟨#[123]⟩ : ByteArray) := vx_brace hd hv
      have KV := Lib.hid (fun w' => rverb10_is hd hp hz hv (tx b) (fun t h => by cases h; exact ⟨(KT 0 u b rfl rfl).1, rfl⟩) w')
      have zv := vx_size hd hp hz hv fun t h => by cases h; exact (KT 0 u b rfl rfl).1
      have z0 : (tx b).size ≤ 20000000000 := (KT 0 u b rfl rfl).1
      have z1 : (tx tl).size ≤ 20000000000 := (KT 1 l tl rfl rfl).1
      have z2 : (tx t).size ≤ 20000000000 := (KT 2 q t rfl rfl).1
      obtain ⟨ub, uo, rfl, hul, huc⟩ := HPL.out.cells (by simp)
      obtain ⟨sb, so, rfl, hsc⟩ := HST.out.2 (by simp)
      have b0 : w4.cell? ⟨ub, uo, none⟩ = some (.int .i64 (u : Int)) := huc 0 _ rfl
      have s0 : w4.cell? ⟨sb, so, none⟩ = some (.string (tx b)) := hsc 0 (by simp)
      have b1 : w4.cell? ⟨ub, uo + 1, none⟩ = some (.int .i64 (l : Int)) := huc 1 _ rfl
      have s1 : w4.cell? ⟨sb, so + 1, none⟩ = some (.string (tx tl)) := hsc 1 (by simp)
      have b2 : w4.cell? ⟨ub, uo + 2, none⟩ = some (.int .i64 (q : Int)) := huc 2 _ rfl
      have s2 : w4.cell? ⟨sb, so + 2, none⟩ = some (.string (tx t)) := hsc 2 (by simp)
      have hsl : sb < w4.heap.size := World.block_lt_of_cell? w4 _ s0
      obtain ⟨hlp, rfl⟩ := tn_some hm
      have KW := Lib.hid (fun w' (hb : Below w4.heap.size w4 w') => rwrap_is l (tx tl) w' ((HNQ.out).below hb) HH.out.nc HH.out.cm HH.out.hn hlp z1)
      have ew := Lib.hid (wrB_tx (f l) tl)
      rw [ew.out] at KW
      have zw : (tx (wrT (tnOf (f l)) tl)).size ≤ 20000001000 := ew.out ▸ wrB_size z1
      have HT := Lib.hid (show tx (wrT (tnOf (f l)) tl ++ (w ++ t)) = tx (wrT (tnOf (f l)) tl) ++ tx w ++ tx t from by
        rw [tx_cat, tx_cat]
        try simp)
      have zx : (f p).x.size ≤ 300 := by have := (hz p hp).2.2; omega
      clear KT
      unfold Nd.val at *
      generalize (f p).k = dk at *
      generalize (f p).v = dv at *
      generalize (f p).a = da at *
      generalize (f p).x = dx at *
      generalize (f p).g = dg at *
      generalize (f p).m = dm at *
      generalize (f p).c = dc at *
      generalize tx (wrT (tnOf (f l)) tl) = w1 at *
      generalize tx w = v0 at *
      generalize tx b = t0 at *
      generalize tx tl = t1 at *
      generalize tx t = t2 at *
      subst e1
      subst ev
      have y0 : ¬ (9223372036854775807 < w1.size + v0.size) := by omega
      have y1 : ¬ (9223372036854775807 < w1.size + v0.size + t2.size) := by omega
      have n0 := HBD.out.c0
      have n1 := HBD.out.c1
      have n2 := HBD.out.c2
      have n3 := HBD.out.c3
      have n4 := HBD.out.c4
      have ln := HBD.out.lt
      clear HPL HST HH HNQ hon hl hz h3
      clear hd hv hk
      have KV2 := Lib.hid (fun w' (hb : Below w4.heap.size w4 w') => stb_base hb (KV.out w'))
      have KW2 := Lib.hid (fun w' (hb : Below w4.heap.size w4 w') => stb_base hb (KW.out w' hb))
      have hq : Below w4.heap.size w4 w4 := Below.refl _ _
      go_wp2_with fail
      go_region_held3 (fun w' => w'.cell? ⟨W.heap.size, 0, none⟩ = some (.int .i64 4) ∧ w'.cell? ⟨W.heap.size, 1, none⟩ = some (.string ⟨#[123]⟩) ∧ w'.cell? ⟨W.heap.size, 2, none⟩ = some (.string da) ∧ w'.cell? ⟨W.heap.size, 3, none⟩ = some (.string dx) ∧ w'.cell? ⟨W.heap.size, 4, none⟩ = some (.slice dg dm dc) ∧ w'.cell? ⟨ub, uo, none⟩ = some (.int .i64 (u : Int)) ∧ w'.cell? ⟨sb, so, none⟩ = some (.string t0) ∧ w'.cell? ⟨ub, uo + 1, none⟩ = some (.int .i64 (l : Int)) ∧ w'.cell? ⟨sb, so + 1, none⟩ = some (.string t1) ∧ w'.cell? ⟨ub, uo + 2, none⟩ = some (.int .i64 (q : Int)) ∧ w'.cell? ⟨sb, so + 2, none⟩ = some (.string t2))
        (first | exact ⟨(Below.cell (p := ⟨W.heap.size, 0, none⟩) (by repeat' (first | exact hq | refine Below.drew ?_ | refine below_drewM ?_ _)) ln).trans n0, (Below.cell (p := ⟨W.heap.size, 1, none⟩) (by repeat' (first | exact hq | refine Below.drew ?_ | refine below_drewM ?_ _)) ln).trans n1, (Below.cell (p := ⟨W.heap.size, 2, none⟩) (by repeat' (first | exact hq | refine Below.drew ?_ | refine below_drewM ?_ _)) ln).trans n2, (Below.cell (p := ⟨W.heap.size, 3, none⟩) (by repeat' (first | exact hq | refine Below.drew ?_ | refine below_drewM ?_ _)) ln).trans n3, (Below.cell (p := ⟨W.heap.size, 4, none⟩) (by repeat' (first | exact hq | refine Below.drew ?_ | refine below_drewM ?_ _)) ln).trans n4, (Below.cell (p := ⟨ub, uo, none⟩) (by repeat' (first | exact hq | refine Below.drew ?_ | refine below_drewM ?_ _)) hul).trans b0, (Below.cell (p := ⟨sb, so, none⟩) (by repeat' (first | exact hq | refine Below.drew ?_ | refine below_drewM ?_ _)) hsl).trans s0, (Below.cell (p := ⟨ub, uo + 1, none⟩) (by repeat' (first | exact hq | refine Below.drew ?_ | refine below_drewM ?_ _)) hul).trans b1, (Below.cell (p := ⟨sb, so + 1, none⟩) (by repeat' (first | exact hq | refine Below.drew ?_ | refine below_drewM ?_ _)) hsl).trans s1, (Below.cell (p := ⟨ub, uo + 2, none⟩) (by repeat' (first | exact hq | refine Below.drew ?_ | refine below_drewM ?_ _)) hul).trans b2, (Below.cell (p := ⟨sb, so + 2, none⟩) (by repeat' (first | exact hq | refine Below.drew ?_ | refine below_drewM ?_ _)) hsl).trans s2⟩ | fail)
        (first
          | (go_at_call 36; (with_reducible refine (KW2.out _ (by repeat' (first | exact hq | refine Below.drew ?_ | refine below_drewM ?_ _))).mono ?_); rintro e wa ⟨rfl, hq⟩)
          | (go_at_call 35; (with_reducible refine (KV2.out _ (by repeat' (first | exact hq | refine Below.drew ?_ | refine below_drewM ?_ _))).mono ?_); rintro e wa ⟨rfl, hq⟩)
          | fail)
      all_goals
        go_wp2_with fail
        go_ret
        exact ⟨by rw [HT.out]; rfl, HB4.out.trans (Below.mono (by repeat' (first | exact hq | refine Below.drew ?_ | refine below_drewM ?_ _)) HB4.out.size)⟩
end Go.Proofs.YtljkmdmbndjngaaGreat

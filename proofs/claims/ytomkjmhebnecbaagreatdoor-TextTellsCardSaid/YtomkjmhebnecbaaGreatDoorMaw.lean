import Derived.Test.YtomkjmhebnecbaaGreatDoorMav
/-
  text.read and Read: of any text the array that has it, or that there is none.
-/
namespace Go.Proofs.YtomkjmhebnecbaaGreatDoor
set_option linter.unusedVariables false
set_option linter.unusedSimpArgs false
open Go.RowKit

theorem itoa_inj2 : ∀ x y : Int, fine x = true → fine y = true → Lib.itoa x = Lib.itoa y → x = y := fun x y _ _ h => S_inj (show S x = S y by rw [S_tx, S_tx, h])
def RdEnd (s : List UInt8) (W : World) (e : Ending) (W' : World) : Prop :=
  ∃ a n c b m d l es v, e = .returned (.tuple #[.agg #[.slice a n c, .slice b m d], .bool v]) ∧ RdS Lib.itoa (fun x => fine x = true) 4096 s l es v ∧ (v = true → Vl W' a n b m l (es.map tx) ∧ ∀ e ∈ es, e.length ≤ 101) ∧ (n ≤ c ∧ c ≤ 1000000) ∧ Below W.heap.size W W'
theorem el_len {s : List UInt8} {M : Nat} {es : List (List UInt8)} (h : ElS s M es true) : ∀ e ∈ es, e.length ≤ 101 := by
  rcases h with ⟨_, h, _⟩ | ⟨h, _⟩
  · exact fun e he => mayL_len (h.1 e he)
  · cases h
set_option maxRecDepth 10000 in
set_option maxHeartbeats 1600000 in
theorem read_is (s : List UInt8) (hz : s.length ≤ 1000000000) (w : World) (he : ErrT w) : Calls Tryz.prog 22 #[.string (tx s)] w (RdEnd s w) := by
  have hA := Bx.new w none 0 0 none 0 0
  have hb0 : Below w.heap.size w (w.alloc (.cells #[.slice none 0 0, .slice none 0 0] 25)) := (Below.refl _ _).alloc (Nat.le_refl _) _
  have y0 := hA.c0
  have y1 := hA.c1
  have f0 := hA.f 0
  have f1 := hA.f 1
  by_cases hn : numB s = true
  · have K1 := fun w => Number_is s (by omega) w
    rw [hn] at K1
    replace K1 := Lib.hid K1
    have HR := Lib.hid (rd_scalar (fo := Lib.itoa) (P := fun x => fine x = true) (M := 4096) (by decide) fine_may hn)
    have HM := Lib.hid (mayL_len (num_lit hn).1)
    clear hn hz he
    go_enter Tryz.func22, Tryz.ntmps22
    go_wp2_with fail
    refine (K1.out _).mono ?_
    rintro e w1 ⟨rfl, rfl⟩
    go_wp2_with fail
    refine (Scalar_is _ _).mono ?_
    rintro e w2 ⟨g, rfl, hc, hb⟩
    have hA2 := hA.below hb hA.lt
    have hb2 := hb0.trans (hb.mono hb0.size)
    have z0 := hA2.c0
    have z1 := hA2.c1
    have g0 := hA2.f 0
    have g1 := hA2.f 1
    have HV := Lib.hid (Vl.one hc)
    clear y0 y1 f0 f1 hA hb0 hb hc
    go_wp2_with fail
    have hA3 := hA2.set none 0 0 (some ⟨g, 0, none⟩) 1 1
    have r0 := hA3.c0
    have r1 := hA3.c1
    exact bodyPost_ret (v := .tuple #[.agg #[.slice none 0 0, .slice (some ⟨g, 0, none⟩) 1 1], .bool true]) (by simp [results, Tryz.results22, go_sem, r0, r1]) rfl
      ⟨_, _, _, _, _, _, [], [numT s], true, rfl, HR.out, fun _ => ⟨⟨Sl.nil _ _, hA2.st HV.out.t _ _, by omega⟩, fun e he => by rw [List.mem_singleton.1 he]; exact HM.out⟩, by decide, below_made hb2 (Nat.le_refl _) _ _⟩
  · have hn2 : numB s = false := by simpa using hn
    have K1 := fun w => Number_is s (by omega) w
    rw [hn2] at K1
    replace K1 := Lib.hid K1
    clear hn
    rcases cut35 s with h35 | ⟨p, r, rfl, h35⟩
    · have K2 := Lib.hid (fun w => Cut_any w (slCut_no h35 w))
      have K3 := Lib.hid (fun w => elements_is s hz w)
      have HR := Lib.hid (fun es b (h : ElS s 4096 es b) => rd_vec (fo := Lib.itoa) (P := fun x => fine x = true) fine_may hn2 h35 h)
      clear hn2 h35 hz he
      go_enter Tryz.func22, Tryz.ntmps22
      go_wp2_with fail
      refine (K1.out _).mono ?_
      rintro e w1 ⟨rfl, rfl⟩
      go_wp2_with fail
      refine (K2.out _).mono ?_
      rintro e w1 ⟨rfl, nd, rfl⟩
      go_wp2_with fail
      refine (K3.out _).mono ?_
      rintro e w2 ⟨a, c, es, b, rfl, hst, hE, hfew, hb⟩
      have K4 := Lib.hid (Vector_is a c es w2 hst (by omega))
      have HE := Lib.hid hE
      have hA2 := Bx.below (Bx.drewN hA nd) hb (show w.heap.size < ((w.alloc (.cells #[.slice none 0 0, .slice none 0 0] 25)).drewN nd).heap.size from hA.lt)
      have hb2 := (below_drewN hb0 nd).trans (hb.mono hb0.size)
      clear hA hb0 y0 y1 f0 f1 hst hE hb
      go_wp2_with fail
      refine K4.out.mono ?_
      rintro e w3 ⟨g, a3, c3, rfl, hV, hb3⟩
      have hA3 := hA2.below hb3 hA2.lt
      have hb4 := hb2.trans (hb3.mono hb2.size)
      have z0 := hA3.c0
      have z1 := hA3.c1
      have g0 := hA3.f 0
      have g1 := hA3.f 1
      have HV := Lib.hid hV
      clear hA2 hb2 hb3 hV
      go_wp2_with fail
      have hA4 := hA3.set (some ⟨g, 0, none⟩) 1 1 a3 es.length c3
      have r0 := hA4.c0
      have r1 := hA4.c1
      exact bodyPost_ret (v := .tuple #[.agg #[.slice (some ⟨g, 0, none⟩) 1 1, .slice a3 es.length c3], .bool b]) (by simp [results, Tryz.results22, go_sem, r0, r1]) rfl
        ⟨_, _, _, _, _, _, _, es, b, rfl, HR.out es b HE.out, fun hb => ⟨⟨hA3.sl HV.out.s _ _, hA3.st HV.out.t _ _, HV.out.mm⟩, el_len (by rw [hb] at HE; exact HE.out)⟩, by decide, below_made hb4 (Nat.le_refl _) _ _⟩
    · have hz1 : p.length ≤ 1000000000 ∧ r.length ≤ 1000000000 := by simp at hz; omega
      have K2 := Lib.hid (fun w => Cut_any w (slCut_yes h35 r (by omega) w))
      have K3 := Lib.hid (fun w he => axes_is p hz1.1 w he)
      have K4 := Lib.hid (fun w => elements_is r hz1.2 w)
      have HR := Lib.hid (fun xs es b c (hx : AxS Lib.itoa (fun x => fine x = true) p xs b) (h : ElS r 4096 es c) => rd_arr (fo := Lib.itoa) (P := fun x => fine x = true) fine_may itoa_inj2 hn2 h35 hx h)
      have HE := Lib.hid he
      generalize hu : p ++ 35 :: r = u at *
      clear hn2 h35 hz he hu
      go_enter Tryz.func22, Tryz.ntmps22
      go_wp2_with fail
      refine (K1.out _).mono ?_
      rintro e w1 ⟨rfl, rfl⟩
      go_wp2_with fail
      refine (K2.out _).mono ?_
      rintro e w1 ⟨rfl, nd, rfl⟩
      go_wp2_with fail
      have hbd := below_drewN hb0 nd
      have HBD := Lib.hid hbd
      refine (K3.out _ (HE.out.below hbd)).mono ?_
      rintro e w2 ⟨a, n, c, xs, b1, rfl, hX, hs, hcap, hb⟩
      have hA2 := Bx.below (Bx.drewN hA nd) hb (show w.heap.size < ((w.alloc (.cells #[.slice none 0 0, .slice none 0 0] 25)).drewN nd).heap.size from hA.lt)
      have hb2 := hbd.trans (hb.mono hb0.size)
      have HC := Lib.hid hcap
      have HX := Lib.hid (And.intro hX hs)
      clear hA hb0 hbd y0 y1 f0 f1 hX hs hb hcap
      go_wp2_with fail
      refine (K4.out _).mono ?_
      rintro e w3 ⟨a3, c3, es, b2, rfl, hst, hE, hfew, hb3⟩
      have hA3 := hA2.below hb3 hA2.lt
      have hb4 := hb2.trans (hb3.mono hb2.size)
      have z0 := hA3.c0
      have z1 := hA3.c1
      have g0 := hA3.f 0
      have g1 := hA3.f 1
      have HV := Lib.hid (And.intro hst hE)
      have HF := Lib.hid hfew
      have HB3 := Lib.hid hb3
      clear hA2 hb2 hst hE hb3 hfew
      have key : b1 = true → b2 = true → Vl ((w3.setCell ⟨w.heap.size, 0, none⟩ (.slice a n c)).setCell ⟨w.heap.size, 1, none⟩ (.slice a3 es.length c3)) a n a3 es.length xs (es.map tx) ∧ ∀ e ∈ es, e.length ≤ 101 := fun h1 h2 =>
        ⟨⟨hA3.sl ((HX.out.2 h1).below HB3.out) _ _, hA3.st HV.out.1 _ _, by have := HF.out; omega⟩, el_len (by rw [h2] at HV; exact HV.out.2)⟩
      have HK := Lib.hid key
      clear key
      cases b1 with
      | false =>
        go_wp2_with fail
        have hA4 := hA3.set a n c a3 es.length c3
        have r0 := hA4.c0
        have r1 := hA4.c1
        exact bodyPost_ret (v := .tuple #[.agg #[.slice a n c, .slice a3 es.length c3], .bool false]) (by simp [results, Tryz.results22, go_sem, r0, r1]) rfl
          ⟨_, _, _, _, _, _, xs, es, false, rfl, HR.out xs es false b2 HX.out.1 HV.out.2, fun hb => (by cases hb), HC.out, below_made hb4 (Nat.le_refl _) _ _⟩
      | true =>
        go_wp2_with fail
        have hA4 := hA3.set a n c a3 es.length c3
        have r0 := hA4.c0
        have r1 := hA4.c1
        exact bodyPost_ret (v := .tuple #[.agg #[.slice a n c, .slice a3 es.length c3], .bool b2]) (by simp [results, Tryz.results22, go_sem, r0, r1]) rfl
          ⟨_, _, _, _, _, _, xs, es, b2, rfl, by simpa using HR.out xs es true b2 HX.out.1 HV.out.2, fun hb => HK.out trivial hb, HC.out, below_made hb4 (Nat.le_refl _) _ _⟩

/-- An array that may be, with this text. -/
def TA (s : List UInt8) (l : List Int) (es : List (List UInt8)) : Prop := mayV l (es.map tx) = true ∧ s = arrT litT Lib.itoa l es
theorem all_txs {es : List (List UInt8)} (h : ∀ j, j < (es.map tx).length → mayL ((es.map tx).getD j ByteArray.empty).data.toList = true) : ∀ e ∈ es, mayL e = true := fun e he => by
  obtain ⟨j, hj, rfl⟩ := List.getElem_of_mem he
  have := h j (by rw [List.length_map]; exact hj)
  rw [getD_tx es hj, tx_list, List.getD_eq_getElem?_getD, List.getElem?_eq_getElem hj] at this
  exact this
theorem TA.may {s : List UInt8} {l : List Int} {es : List (List UInt8)} (h : TA s l es) : MayL l ∧ ((es.length : Nat) : Int) = pr l ∧ ∀ e ∈ es, mayL e = true := by
  have hm := mayV_yes.1 h.1
  have hl := hm.len
  rw [List.length_map] at hl
  exact ⟨szE_may.1 hm.e, hl, all_txs hm.all⟩
theorem mem_at {l : List Int} {x : Int} (h : x ∈ l) : ∃ j, j < l.length ∧ l.getD j 0 = x := by
  obtain ⟨j, hj, rfl⟩ := List.getElem_of_mem h
  exact ⟨j, hj, by rw [List.getD_eq_getElem?_getD, List.getElem?_eq_getElem hj]; rfl⟩
theorem TA.tl {s : List UInt8} {l : List Int} {es : List (List UInt8)} (h : TA s l es) : Tl Lib.itoa (fun x => fine x = true) 4096 s l es := by
  obtain ⟨hm, hl, hel⟩ := h.may
  have hp := hm.pr
  refine ⟨hel, by omega, hm.len, fun e => ?_, fun x e => ?_, fun x hx => ?_, h.2⟩
  · subst e
    have : pr [] = 1 := rfl
    omega
  · subst e
    rw [hl]
    show x = x * 1
    omega
  · obtain ⟨j, hj, rfl⟩ := mem_at hx
    have h1 := hm.nn j hj
    have h2 := hm.le j hj
    exact fine_yes.2 (by omega)
theorem TA.det {s : List UInt8} {l k : List Int} {es fs : List (List UInt8)} {v : Bool} {xs : List Int} {gs : List (List UInt8)} (hr : RdS Lib.itoa (fun x => fine x = true) 4096 s xs gs v) (h : TA s l es) : v = true ∧ l = xs ∧ es = gs := by
  rcases hr with ⟨rfl, _, _, _, hu⟩ | ⟨_, hu⟩
  · exact ⟨rfl, hu l es h.tl⟩
  · exact absurd h.tl (hu l es)
def RxEnd (s : List UInt8) (W : World) (e : Ending) (W' : World) : Prop :=
  (∃ a n c b m d l es, e = .returned (.tuple #[.agg #[.slice a n c, .slice b m d], .int .i64 0]) ∧ TA s l es ∧ Vl W' a n b m l (es.map tx) ∧ (n ≤ c ∧ c ≤ 1000000) ∧ Below W.heap.size W W') ∨
  (e = .returned (.tuple #[.agg #[.slice none 0 0, .slice none 0 0], .int .i64 2]) ∧ (∀ l es, ¬ TA s l es) ∧ Below W.heap.size W W')
theorem rx_no {s : List UInt8} {l : List Int} {es : List (List UInt8)} {v : Bool} (hr : RdS Lib.itoa (fun x => fine x = true) 4096 s l es v) (hv : v = false ∨ mayV l (es.map tx) = false) : ∀ k fs, ¬ TA s k fs := fun k fs h => by
  obtain ⟨rfl, rfl, rfl⟩ := TA.det (l := k) (k := k) (fs := fs) hr h
  rcases hv with hv | hv
  · cases hv
  · rw [h.1] at hv; cases hv
theorem rx_yes {s : List UInt8} {l : List Int} {es : List (List UInt8)} (hr : RdS Lib.itoa (fun x => fine x = true) 4096 s l es true) (hv : mayV l (es.map tx) = true) : TA s l es := by
  rcases hr with ⟨_, _, _, ht, _⟩ | ⟨h, _⟩
  · exact ⟨hv, ht⟩
  · cases h
set_option maxRecDepth 10000 in
set_option maxHeartbeats 1600000 in
theorem Read_is (s : List UInt8) (hz : s.length ≤ 1000000000) (w : World) (he : ErrT w) : Calls Tryz.prog 8 #[.string (tx s)] w (RxEnd s w) := by
  have hA := Bx.new w none 0 0 none 0 0
  have hb0 : Below w.heap.size w (w.alloc (.cells #[.slice none 0 0, .slice none 0 0] 25)) := (Below.refl _ _).alloc (Nat.le_refl _) _
  have K1 := Lib.hid (read_is s hz _ (he.below hb0))
  clear hz he
  go_enter Tryz.func8, Tryz.ntmps8
  go_wp2_with fail
  refine K1.out.mono ?_
  rintro e w1 ⟨a, n, c, b, m, d, l, es, v, rfl, hr, hv, hcap, hb⟩
  have hA2 := (hA.below hb hA.lt).alloc (.cells #[.slice a n c, .slice b m d] 25)
  have hB2 := Bx.new w1 a n c b m d
  have hsz := hb.size
  rw [World.size_alloc] at hsz
  have hb2 := hb0.trans (hb.mono hb0.size)
  have hb3 := hb2.alloc hb2.size (.cells #[.slice a n c, .slice b m d] 25)
  have hb4 : Below w1.heap.size w1 (w1.alloc (.cells #[.slice a n c, .slice b m d] 25)) := (Below.refl _ _).alloc (Nat.le_refl _) _
  have HR := Lib.hid hr
  have HV := Lib.hid hv
  have HC := Lib.hid hcap
  have y0 := hA2.c0
  have y1 := hA2.c1
  have f0 := hA2.f 0
  have f1 := hA2.f 1
  clear hA hb0 K1 hr hv hcap hb hb2
  cases v with
  | false =>
    go_wp2_with fail
    have hA3 := hA2.set none 0 0 none 0 0
    have r0 := hA3.c0
    have r1 := hA3.c1
    exact bodyPost_ret (v := .tuple #[.agg #[.slice none 0 0, .slice none 0 0], .int .i64 2]) (by simp [results, Tryz.results8, go_sem, r0, r1]) rfl
      (.inr ⟨rfl, rx_no HR.out (.inl rfl), below_made hb3 (Nat.le_refl _) _ _⟩)
  | true =>
    obtain ⟨hVl, hlen⟩ := HV.out rfl
    have K2 := Lib.hid (VMay_is (c := c) (d := d) _ (hVl.below hb4) (fun j hj => by
      have hj' : j < es.length := by have := hVl.t.1; rw [List.length_map] at this; omega
      rw [getD_tx es hj', tx_size]
      have := hlen _ (show es.getD j [] ∈ es by rw [List.getD_eq_getElem?_getD, List.getElem?_eq_getElem hj']; exact List.getElem_mem hj')
      unfold maxLen
      omega))
    have HVL := Lib.hid (hVl.below hb4)
    have q0 := hB2.c0
    have q1 := hB2.c1
    clear y0 y1 f0 f1 hVl hlen hb4
    go_wp2_with fail
    refine K2.out.mono ?_
    rintro e w2 ⟨rfl, hb5⟩
    have hA3 := hA2.below hb5 hA2.lt
    have hB3 := hB2.below hb5 hB2.lt
    have HV3 := Lib.hid (HVL.out.below hb5)
    have hb6 := hb3.trans (hb5.mono hb3.size)
    have y0 := hA3.c0
    have y1 := hA3.c1
    have f0 := hA3.f 0
    have f1 := hA3.f 1
    have z0 := hB3.c0
    have z1 := hB3.c1
    clear q0 q1 hA2 hB2 hb3 hb5 K2
    cases hv : mayV l (es.map tx) with
    | false =>
      have HN := Lib.hid (rx_no HR.out (.inr hv))
      clear hv
      go_wp2_with fail
      have hA4 := hA3.set none 0 0 none 0 0
      have r0 := hA4.c0
      have r1 := hA4.c1
      exact bodyPost_ret (v := .tuple #[.agg #[.slice none 0 0, .slice none 0 0], .int .i64 2]) (by simp [results, Tryz.results8, go_sem, r0, r1]) rfl
        (.inr ⟨rfl, HN.out, below_made hb6 (Nat.le_refl _) _ _⟩)
    | true =>
      have HN := Lib.hid (rx_yes HR.out hv)
      clear hv
      go_wp2_with fail
      have hA4 := hA3.set a n c b m d
      have r0 := hA4.c0
      have r1 := hA4.c1
      exact bodyPost_ret (v := .tuple #[.agg #[.slice a n c, .slice b m d], .int .i64 0]) (by simp [results, Tryz.results8, go_sem, r0, r1]) rfl
        (.inl ⟨_, _, _, _, _, _, l, es, rfl, HN.out, ⟨hA3.sl HV3.out.s _ _, hA3.st HV3.out.t _ _, HV3.out.mm⟩, HC.out, below_made hb6 (Nat.le_refl _) _ _⟩)
end Go.Proofs.YtomkjmhebnecbaaGreatDoor

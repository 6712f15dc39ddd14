import Derived.Test.YtjpjccilnmlmnaaGreatDoorMbk
/-
  The reference's Iota, Tally, Shape, Ravel, by their contracts.
-/
namespace Go.Proofs.YtjpjccilnmlmnaaGreatDoor
set_option linter.unusedVariables false
set_option linter.unusedSimpArgs false
open Go.RowKit

theorem live_bel {P : World → Prop} {w w' : World} {B : Nat} (h : Lv P w) (hb : Below B w w') (hB : w.heap.size ≤ B)
    (hs : Stb P := by repeat' (first | exact Stb.bel _ | exact Stb.bx | exact Stb.vl | refine Stb.and ?_ ?_ | exact Stb.triv)) : Lv P w' := ⟨hs _ _ h.out (hb.mono hB)⟩
set_option maxRecDepth 100000 in
set_option maxHeartbeats 3200000 in
theorem rio_no {a1 b1 : Option Addr} {n1 c1 m1 d1 : Nat} {l : List Int} {es : List ByteArray} {W : World} (h1 : Av W a1 n1 c1 b1 m1 d1 l es none) :
    Calls Tryz.prog 8 #[.agg #[.slice a1 n1 c1, .slice b1 m1 d1]] W (MEnd (none, 1) W) := by
  have KV := Lib.hid (fun w (hb : Below W.heap.size W w) => rMay_av (h1.below hb))
  clear h1
  have h := live1 W a1 n1 c1 b1 m1 d1
  go_enter Tryz.func8, Tryz.ntmps8
  have x1 := h.out.2.1.c0
  have y1 := h.out.2.1.c1
  go_wp2_with fail
  with_reducible refine (live h (KV.out _ h.out.2.2)).mono ?_
  clear h x1 y1
  rintro e w ⟨rfl, h⟩
  have y0 := h.out.1.c0
  have y3 := h.out.1.c1
  have f0 := h.out.1.f 0
  have f1 := h.out.1.f 1
  go_wp2_with fail
  have hR := h.out.1.set none 0 0 none 0 0
  have r0 := hR.c0
  have r1 := hR.c1
  exact bodyPost_ret (v := .tuple #[.agg #[.slice none 0 0, .slice none 0 0], .int .i64 1]) (by simp [results, Tryz.results8, go_sem, r0, r1]) rfl (mend_no h.out.1 h.out.2.2 (by omega))
set_option maxRecDepth 100000 in
set_option maxHeartbeats 3200000 in
theorem rio_err {a1 b1 : Option Addr} {n1 c1 m1 d1 : Nat} {l : List Int} {es : List ByteArray} {W : World} {q : Ar} (h1 : Av W a1 n1 c1 b1 m1 d1 l es (some q)) (he : (inM q).2 ≠ 0) :
    Calls Tryz.prog 8 #[.agg #[.slice a1 n1 c1, .slice b1 m1 d1]] W (MEnd (none, (inM q).2) W) := by
  have KV := Lib.hid (fun w (hb : Below W.heap.size W w) => rMay_av (h1.below hb))
  have KI := Lib.hid (fun w (hb : Below W.heap.size W w) => rVInt_av (h1.below hb))
  clear h1
  generalize (inM q).1 = x at *
  generalize (inM q).2 = k at *
  have hk : (k != 0) = true := by simpa using he
  have h := live1 W a1 n1 c1 b1 m1 d1
  go_enter Tryz.func8, Tryz.ntmps8
  have x1 := h.out.2.1.c0
  have y1 := h.out.2.1.c1
  go_wp2_with fail
  with_reducible refine (live h (KV.out _ h.out.2.2)).mono ?_
  clear h x1 y1
  rintro e w ⟨rfl, h⟩
  have x1 := h.out.2.1.c0
  have y1 := h.out.2.1.c1
  go_wp2_with fail
  with_reducible refine (live h (KI.out _ h.out.2.2)).mono ?_
  clear h x1 y1
  rintro e w ⟨rfl, h⟩
  have y0 := h.out.1.c0
  have y3 := h.out.1.c1
  have f0 := h.out.1.f 0
  have f1 := h.out.1.f 1
  go_wp2_with fail
  have hR := h.out.1.set none 0 0 none 0 0
  have r0 := hR.c0
  have r1 := hR.c1
  exact bodyPost_ret (v := .tuple #[.agg #[.slice none 0 0, .slice none 0 0], .int .i64 k]) (by simp [results, Tryz.results8, go_sem, r0, r1]) rfl (mend_no h.out.1 h.out.2.2 (by omega))
set_option maxRecDepth 100000 in
set_option maxHeartbeats 3200000 in
theorem rio_low {a1 b1 : Option Addr} {n1 c1 m1 d1 : Nat} {l : List Int} {es : List ByteArray} {W : World} {q : Ar} (h1 : Av W a1 n1 c1 b1 m1 d1 l es (some q)) (he : (inM q).2 = 0) (hx : (inM q).1 < 0) :
    Calls Tryz.prog 8 #[.agg #[.slice a1 n1 c1, .slice b1 m1 d1]] W (MEnd (none, 5) W) := by
  have KV := Lib.hid (fun w (hb : Below W.heap.size W w) => rMay_av (h1.below hb))
  have KI := Lib.hid (fun w (hb : Below W.heap.size W w) => rVInt_av (h1.below hb))
  rw [he] at KI
  clear h1 he
  generalize (inM q).1 = x at *
  have h := live1 W a1 n1 c1 b1 m1 d1
  go_enter Tryz.func8, Tryz.ntmps8
  have x1 := h.out.2.1.c0
  have y1 := h.out.2.1.c1
  go_wp2_with fail
  with_reducible refine (live h (KV.out _ h.out.2.2)).mono ?_
  clear h x1 y1
  rintro e w ⟨rfl, h⟩
  have x1 := h.out.2.1.c0
  have y1 := h.out.2.1.c1
  go_wp2_with fail
  with_reducible refine (live h (KI.out _ h.out.2.2)).mono ?_
  clear h x1 y1
  rintro e w ⟨rfl, h⟩
  have y0 := h.out.1.c0
  have y3 := h.out.1.c1
  have f0 := h.out.1.f 0
  have f1 := h.out.1.f 1
  go_wp2_with fail
  have hR := h.out.1.set none 0 0 none 0 0
  have r0 := hR.c0
  have r1 := hR.c1
  exact bodyPost_ret (v := .tuple #[.agg #[.slice none 0 0, .slice none 0 0], .int .i64 5]) (by simp [results, Tryz.results8, go_sem, r0, r1]) rfl (mend_no h.out.1 h.out.2.2 (by omega))
set_option maxRecDepth 100000 in
set_option maxHeartbeats 3200000 in
theorem rio_big {a1 b1 : Option Addr} {n1 c1 m1 d1 : Nat} {l : List Int} {es : List ByteArray} {W : World} {q : Ar} (h1 : Av W a1 n1 c1 b1 m1 d1 l es (some q)) (he : (inM q).2 = 0) (hx : 4096 < (inM q).1) :
    Calls Tryz.prog 8 #[.agg #[.slice a1 n1 c1, .slice b1 m1 d1]] W (MEnd (none, 8) W) := by
  have KV := Lib.hid (fun w (hb : Below W.heap.size W w) => rMay_av (h1.below hb))
  have KI := Lib.hid (fun w (hb : Below W.heap.size W w) => rVInt_av (h1.below hb))
  rw [he] at KI
  clear h1 he
  generalize (inM q).1 = x at *
  have h0 : ¬ (x < 0) := by omega
  have h := live1 W a1 n1 c1 b1 m1 d1
  go_enter Tryz.func8, Tryz.ntmps8
  have x1 := h.out.2.1.c0
  have y1 := h.out.2.1.c1
  go_wp2_with fail
  with_reducible refine (live h (KV.out _ h.out.2.2)).mono ?_
  clear h x1 y1
  rintro e w ⟨rfl, h⟩
  have x1 := h.out.2.1.c0
  have y1 := h.out.2.1.c1
  go_wp2_with fail
  with_reducible refine (live h (KI.out _ h.out.2.2)).mono ?_
  clear h x1 y1
  rintro e w ⟨rfl, h⟩
  have y0 := h.out.1.c0
  have y3 := h.out.1.c1
  have f0 := h.out.1.f 0
  have f1 := h.out.1.f 1
  go_wp2_with fail
  have hR := h.out.1.set none 0 0 none 0 0
  have r0 := hR.c0
  have r1 := hR.c1
  exact bodyPost_ret (v := .tuple #[.agg #[.slice none 0 0, .slice none 0 0], .int .i64 8]) (by simp [results, Tryz.results8, go_sem, r0, r1]) rfl (mend_no h.out.1 h.out.2.2 (by omega))
theorem sl_new1 (w : World) (x : Int) : Sl (w.alloc (.cells #[.int .i64 x] 3)) (some ⟨w.heap.size, 0, none⟩) 1 [x] := own_sl (own_new1 w x)
theorem own_set {w : World} {B n : Nat} {e : TypeId} {v : Value} {xs : List Value} (h : w.ownsRow B e 1 v n xs) {p : Addr} (hp : p.block < B) (u : Value) : (w.setCell p u).ownsRow B e 1 v n xs := by
  refine ⟨h.1, ?_⟩
  rcases h.2 with h0 | ⟨g, cap, cur, e1, e2, hg, h2⟩
  · exact .inl h0
  · exact .inr ⟨g, cap, cur, e1, e2, (Below.heap_setCell _ _ _ g (by omega)).trans hg, h2⟩
theorem step_pushS {ops : Array Oper} {o : Oper} {a : Act} {K : Act → World → Prop} {Q : Exit → Act → World → Prop} {E : Prop} {w : World} (wr : World) (B : Nat) (s x : Operand) (av : Option Addr) (n cv : Nat) (xs : List Value) (v : ByteArray)
    (ho : o.op = .call { callee := .builtin .append, args := #[s, x], argTypes := #[23, 23] }) (hgd : o.guard = none)
    (hs : a.eval s = .slice av n cv) (hx : a.eval x = .slice (some ⟨wr.heap.size, 0, none⟩) 1 1) (hh : w.heap = wr.heap.push (.cells #[.string v] 9)) (h1 : w.os = wr.os) (h2 : w.tape = wr.tape) (h3 : w.output = wr.output)
    (hown : wr.ownsRow B 9 1 (.slice av n cv) n xs) (hsz : B ≤ wr.heap.size) (hn : n ≤ 100000)
    (h : ∀ av' cv' w', w'.ownsRow B 9 1 (.slice av' (n + 1) cv') (n + 1) (xs ++ [.string v]) → Below B wr w' → K (a.put o.dst (.slice av' (n + 1) cv')) w') :
    if Region.wanted o (yielded ops a.tmps) = true then Oper.wp Tryz.prog o a w K Q else E := by
  obtain ⟨i0, hi, hz0, hz1, hz2⟩ := info_parts infoStr
  have hown2 : w.ownsRow B 9 1 (.slice av n cv) n xs := by
    have h4 := hown.alloc (.cells #[.string v] 9)
    unfold World.ownsRow at h4 ⊢
    rw [hh]
    exact h4
  have hb2 : Below B wr w := by
    have h4 := (Below.refl B wr).alloc hsz (.cells #[.string v] 9)
    exact ⟨h1, h2, h3, by rw [hh]; exact h4.size, fun k hk => by rw [hh]; exact h4.block k hk⟩
  refine step_append_lies w hgd s x 23 ho B 9 i0 (.string ⟨#[]⟩) 1 16 Tryz.underlying23 hi hz0 hz1 hz2 rfl (by decide) _ _ _ hs hown2 ⟨wr.heap.size, 0, none⟩ 1 1 [.string v] hx rfl ?_ ?_ (by decide) (by unfold maxLen; omega) (by omega) (by rw [hh, Array.size_push]; omega) _ rfl ?_
  · exact World.news_of_block (t := 9) (fr := (0, 0)) (cs := #[.string v]) (by rw [hh]; simp)
  · intro u hu
    rw [List.mem_singleton] at hu
    rw [hu]; rfl
  · intro g cap w' o1 o2 _ _
    exact h _ _ w' o1 (hb2.grown o2 (by rw [hh, Array.size_push]; omega) (fun q hq => (hown2.lt q hq).1))
theorem valsS_map_snoc (xs : List Int) (x : Int) : valsS ((xs ++ [x]).map S) = valsS (xs.map S) ++ [.string (S x)] := by rw [List.map_append]; exact valsS_snoc _ _
theorem upM_snoc (k : Nat) : upM (k + 1) = upM k ++ [(k : Int)] := by simp [upM, List.range_succ]
set_option maxRecDepth 100000 in
set_option maxHeartbeats 3200000 in
theorem rio_yes {a1 b1 : Option Addr} {n1 c1 m1 d1 : Nat} {l : List Int} {es : List ByteArray} {W : World} {q : Ar} {t : Nat} (h1 : Av W a1 n1 c1 b1 m1 d1 l es (some q)) (he : inM q = ((t : Int), 0)) (ht : t ≤ 4096) :
    Calls Tryz.prog 8 #[.agg #[.slice a1 n1 c1, .slice b1 m1 d1]] W (MEnd (some ([(t : Int)], upM t), 0) W) := by
  have KV := Lib.hid (fun w (hb : Below W.heap.size W w) => rMay_av (h1.below hb))
  have KI := Lib.hid (fun w (hb : Below W.heap.size W w) => rVInt_av (h1.below hb))
  rw [he] at KI
  have KT := Lib.hid (fun (k : Nat) (hk : k < t) w => rtext_is (x := (k : Int)) (by unfold I64; omega) w)
  have HR0 := Lib.hid (up_rok ht)
  have hx0 : ¬ ((t : Int) < 0) := by omega
  have hx1 : ¬ ((4096 : Int) < (t : Int)) := by omega
  clear h1 he
  have h := live1 W a1 n1 c1 b1 m1 d1
  go_enter Tryz.func8, Tryz.ntmps8
  have x1 := h.out.2.1.c0
  have y1 := h.out.2.1.c1
  go_wp2_with fail
  with_reducible refine (live h (KV.out _ h.out.2.2)).mono ?_
  clear h x1 y1
  rintro e w ⟨rfl, h⟩
  have x1 := h.out.2.1.c0
  have y1 := h.out.2.1.c1
  go_wp2_with fail
  with_reducible refine (live h (KI.out _ h.out.2.2)).mono ?_
  clear h x1 y1
  rintro e w ⟨rfl, h⟩
  go_wp2_with fail
  have hA : Below w.heap.size w (w.alloc (.cells #[.int .i64 (t : Int)] 3)) := (Below.refl _ _).alloc (Nat.le_refl _) _
  have HS := Lib.hid (sl_new1 w (t : Int))
  have hO := Bx.newG (w.alloc (.cells #[.int .i64 (t : Int)] 3)) (w.heap.size + 1) (by simp) (some ⟨w.heap.size, 0, none⟩) 1 1 none 0 0
  have hbO : Below (w.heap.size + 1) (w.alloc (.cells #[.int .i64 (t : Int)] 3)) ((w.alloc (.cells #[.int .i64 (t : Int)] 3)).alloc (.cells #[.slice (some ⟨w.heap.size, 0, none⟩) 1 1, .slice none 0 0] 25)) := (Below.refl _ _).alloc (by simp) _
  replace h := Lib.hid (live_bel h hA (Nat.le_refl _))
  clear hA
  go_loopw [7] (fun iv wr => ∃ (k : Nat) (av : Option Addr) (cv : Nat), iv = .int .i64 k ∧ k ≤ t ∧ Bx wr (w.heap.size + 1) (some ⟨w.heap.size, 0, none⟩) 1 1 av k cv ∧ wr.ownsRow (w.heap.size + 1 + 1) 9 1 (.slice av k cv) k (valsS ((upM k).map S)) ∧ Below (w.heap.size + 1) (w.alloc (.cells #[.int .i64 (t : Int)] 3)) wr) (fun iv _ => t - (intOf iv).toNat)
  case atStart => exact ⟨0, none, 0, rfl, by omega, hO, World.ownsRow_nil _ _ _ _, hbO⟩
  case round =>
    obtain ⟨k, av, cv, rfl, hk, hO1, ho1, hb1⟩ := hrel
    clear hO hbO
    by_cases hlt : k < t
    · have e2 : (k : Int) < (t : Int) := by omega
      have Q1 := KT.out k hlt
      have HN := Lib.hid (show valsS ((upM (k + 1)).map S) = valsS ((upM k).map S) ++ [.string (S ((k : Int)))] by rw [upM_snoc]; exact valsS_map_snoc _ _)
      generalize S ((k : Int)) = tx at *
      have HQ : Hid (∀ z, Below wr.heap.size wr z → Calls Tryz.prog 34 #[.int .i64 ((k : Int))] z fun e w' => e = .returned (.string tx) ∧ Below wr.heap.size wr w') := Lib.hid fun z hz => (Q1 z).mono fun e w' h => ⟨h.1, hz.trans (h.2.mono hz.size)⟩
      have u1 := hO1.c1
      have lO := hO1.lt
      have HO := Lib.hid hO1
      have HR := Lib.hid ho1
      have HB := Lib.hid hb1
      clear hO1 ho1 hb1 Q1
      have hq : Below wr.heap.size wr wr := Below.refl _ _
      have hqz := hq.size
      have wq0 : ∃ z, z = wr := ⟨_, rfl⟩
      obtain ⟨wq, hwq⟩ := wq0
      go_wp2_with fail
      go_region_law (first | (go_simp; go_at_call 34; refine (HQ.out _ (by repeat' (first | exact hq | refine Below.drew ?_ | refine below_drewN ?_ _ | refine Below.alloc ?_ ?_ _ | exact hqz | exact Nat.le_refl _ | omega | (simp; done) | (simp; omega)))).mono ?_; rintro e wq ⟨rfl, hq⟩; have hqz := hq.size; have u2 := (HO.out.below hq lO).c1; have l2 := (HO.out.below hq lO).lt; have u3 := ((HO.out.below hq lO).alloc (.cells #[.string tx] 9)).c1) | (refine step_pushS wq (w.heap.size + 1 + 1) (.tmp 36) (.tmp 39) av k cv (valsS ((upM k).map S)) tx rfl rfl rfl rfl rfl rfl rfl rfl (own_below HR.out hq) (by omega) (by omega) ?_; intro av' cv' w9 hown9 hb9; have hO9 := HO.out.below ((hq.mono (by omega)).trans hb9) (by omega); have z1 := hO9.c1; have g2 := hO9.f 1))
      all_goals
        rw [← HN.out] at hown9
        have hb10 := HB.out.trans (((hq.mono (by omega)).trans hb9).mono (by omega))
        have hO11 := Lib.hid (hO9.set1 av' (k + 1) cv')
        have hr11 := Lib.hid (own_set hown9 (p := ⟨w.heap.size + 1, 1, none⟩) (Nat.lt_succ_self _) (.slice av' (k + 1) cv'))
        have hb11 := Lib.hid (hb10.setCell (p := ⟨w.heap.size + 1, 1, none⟩) (Nat.le_refl _) (.slice av' (k + 1) cv'))
        clear hO9 hb9 hown9 hb10 u1 z1 g2 hq HO HR HB
        go_wp2_with fail
        go_roundw
        case rel => exact ⟨k + 1, av', cv', by go_num, by omega, hO11.out, hr11.out, hb11.out⟩
        case measure => simp [intOf]; omega
    · have e2 : ¬ (k : Int) < (t : Int) := by omega
      obtain rfl : k = t := by omega
      have x0 := hO1.c0
      have x1 := hO1.c1
      replace h := live_bel h.out hb1 (by simp)
      have hvl := Lib.hid (show Vl wr (some ⟨w.heap.size, 0, none⟩) 1 av k [(k : Int)] ((upM k).map S) from ⟨HS.out.below (hb1.mono (by simp)), own_st ho1, by omega⟩)
      have hcp := Lib.hid (show Cp 1 1 k cv from ⟨Nat.le_refl _, by unfold maxLen; omega, (own_caps ho1).1, (own_caps ho1).2⟩)
      clear hO1 ho1 hb1
      have y0 := h.out.1.c0
      have y3 := h.out.1.c1
      have f0 := h.out.1.f 0
      have f1 := h.out.1.f 1
      go_wp2_with fail
      have hR := h.out.1.set (some ⟨w.heap.size, 0, none⟩) 1 1 av k cv
      have r0 := hR.c0
      have r1 := hR.c1
      exact bodyPost_ret (v := .tuple #[.agg #[.slice (some ⟨w.heap.size, 0, none⟩) 1 1, .slice av k cv], .int .i64 0]) (by simp [results, Tryz.results8, go_sem, r0, r1]) rfl (mend_box (r := (some ([(k : Int)], upM k), 0)) h.out.1 h.out.2.2 (by omega) hvl.out hcp.out HR0.out)
theorem rIota_is {a1 b1 : Option Addr} {n1 c1 m1 d1 : Nat} {l : List Int} {es : List ByteArray} {W : World} {o : Option Ar} (h1 : Av W a1 n1 c1 b1 m1 d1 l es o) : Calls Tryz.prog 8 #[.agg #[.slice a1 n1 c1, .slice b1 m1 d1]] W (MEnd (ioM o) W) := by
  cases o with
  | none => exact rio_no h1
  | some q =>
    by_cases he : (inM q).2 = 0
    · by_cases h0 : (inM q).1 < 0
      · have e : ioM (some q) = (none, 5) := by unfold ioM; dsimp only; rw [if_neg (fun h => h he), if_pos h0]
        rw [e]; exact rio_low h1 he h0
      · by_cases h4 : 4096 < (inM q).1
        · have e : ioM (some q) = (none, 8) := by unfold ioM; dsimp only; rw [if_neg (fun h => h he), if_neg h0, if_pos h4]
          rw [e]; exact rio_big h1 he h4
        · obtain ⟨t, ht⟩ : ∃ t : Nat, (inM q).1 = (t : Int) := ⟨(inM q).1.toNat, by omega⟩
          have e : ioM (some q) = (some ([(t : Int)], upM t), 0) := by
            unfold ioM; dsimp only; rw [if_neg (fun h => h he), if_neg h0, if_neg h4, ht, Int.toNat_natCast]
          rw [e]; exact rio_yes h1 (Prod.ext ht he) (by omega)
    · have e : ioM (some q) = (none, (inM q).2) := by unfold ioM; dsimp only; rw [if_pos he]
      rw [e]; exact rio_err h1 he
theorem live_it {P : World → Prop} {w : World} {f : FuncId} {args : Array Value} {v : Int} {l : List Int} (h : Lv P w) (hc : Calls Tryz.prog f args w (ItPost v l w))
    (hs : Stb P := by repeat' (first | exact Stb.bel _ | exact Stb.bx | exact Stb.vl | refine Stb.and ?_ ?_ | exact Stb.triv)) :
    Calls Tryz.prog f args w fun e w' => ∃ a n c, e = .returned (.tuple #[.int .i64 v, .slice a n c]) ∧ Lv P w' ∧ Sl w' a n l ∧ n ≤ 20 :=
  hc.mono fun _ _ ⟨a, n, c, h1, h2, h3, h4⟩ => ⟨a, n, c, h1, ⟨hs _ _ h.out h4⟩, h2, h3⟩
theorem own_newS1 (w : World) (s : ByteArray) : (w.alloc (.cells #[.string s] 9)).ownsRow w.heap.size 9 1 (.slice (some ⟨w.heap.size, 0, none⟩) 1 1) 1 (valsS [s]) :=
  ⟨rfl, .inr ⟨w.heap.size, 1, #[.string s], rfl, Nat.le_refl _, heap_alloc_new w _, Nat.le_refl _, by unfold maxLen; omega, rfl, rfl⟩⟩
set_option maxRecDepth 100000 in
set_option maxHeartbeats 3200000 in
theorem rta_no {a1 b1 : Option Addr} {n1 c1 m1 d1 : Nat} {l : List Int} {es : List ByteArray} {W : World} (h1 : Av W a1 n1 c1 b1 m1 d1 l es none) :
    Calls Tryz.prog 10 #[.agg #[.slice a1 n1 c1, .slice b1 m1 d1]] W (MEnd (none, 1) W) := by
  have KV := Lib.hid (fun w (hb : Below W.heap.size W w) => rMay_av (h1.below hb))
  clear h1
  have h := live1 W a1 n1 c1 b1 m1 d1
  go_enter Tryz.func10, Tryz.ntmps10
  have x1 := h.out.2.1.c0
  have y1 := h.out.2.1.c1
  go_wp2_with fail
  with_reducible refine (live h (KV.out _ h.out.2.2)).mono ?_
  clear h x1 y1
  rintro e w ⟨rfl, h⟩
  have y0 := h.out.1.c0
  have y3 := h.out.1.c1
  have f0 := h.out.1.f 0
  have f1 := h.out.1.f 1
  go_wp2_with fail
  have hR := h.out.1.set none 0 0 none 0 0
  have r0 := hR.c0
  have r1 := hR.c1
  exact bodyPost_ret (v := .tuple #[.agg #[.slice none 0 0, .slice none 0 0], .int .i64 1]) (by simp [results, Tryz.results10, go_sem, r0, r1]) rfl (mend_no h.out.1 h.out.2.2 (by omega))
set_option maxRecDepth 100000 in
set_option maxHeartbeats 3200000 in
theorem rta_yes {a1 b1 : Option Addr} {n1 c1 m1 d1 : Nat} {l : List Int} {es : List ByteArray} {W : World} {q : Ar} (h1 : Av W a1 n1 c1 b1 m1 d1 l es (some q)) :
    Calls Tryz.prog 10 #[.agg #[.slice a1 n1 c1, .slice b1 m1 d1]] W (MEnd (some ([], [(mN l : Int)]), 0) W) := by
  have KV := Lib.hid (fun w (hb : Below W.heap.size W w) => rMay_av (h1.below hb))
  have hb := h1.items.2.2.1
  have hn3 := h1.n3
  have KM := fun w (hb : Below W.heap.size W w) => rItems_is a1 n1 c1 l w (h1.v.s.below hb) (by omega) h1.c.1 h1.c.2
  rw [← h1.items.2.1] at KM
  replace KM := Lib.hid KM
  have KT := Lib.hid (fun w => rtext_is (x := (mN l : Int)) (by unfold I64; omega) w)
  have HR : Hid (Rok (some ([], [(mN l : Int)]))) := Lib.hid ⟨(by decide : szE [] = 0), (rfl : ((1 : Nat) : Int) = pr []), fun x hx => by
    rw [List.mem_singleton] at hx
    exact Nat.lt_of_lt_of_le (show x.natAbs < 10000000000000000000000 by omega) lim_big⟩
  clear h1 hb hn3
  generalize mN l = N at *
  have h := live1 W a1 n1 c1 b1 m1 d1
  go_enter Tryz.func10, Tryz.ntmps10
  have x1 := h.out.2.1.c0
  have y1 := h.out.2.1.c1
  go_wp2_with fail
  with_reducible refine (live h (KV.out _ h.out.2.2)).mono ?_
  clear h x1 y1
  rintro e w ⟨rfl, h⟩
  have x1 := h.out.2.1.c0
  go_wp2_with fail
  with_reducible refine (live_it h (KM.out _ h.out.2.2)).mono ?_
  clear h x1
  rintro e w ⟨ar, nr, cr, rfl, h, _, _⟩
  go_wp2_with fail
  with_reducible refine (live h (KT.out _)).mono ?_
  clear h
  rintro e w ⟨rfl, h⟩
  have y0 := h.out.1.c0
  have y3 := h.out.1.c1
  have f0 := h.out.1.f 0
  have f1 := h.out.1.f 1
  have l0 := h.out.1.lt
  go_wp2_with fail
  have hA : Below w.heap.size w (w.alloc (.cells #[.string (S (N : Int))] 9)) := (Below.refl _ _).alloc (Nat.le_refl _) _
  have hx := own_newS1 w (S (N : Int))
  replace h := live_to h hA
  have hR := h.out.1.set none 0 0 (some ⟨w.heap.size, 0, none⟩) 1 1
  have r0 := hR.c0
  have r1 := hR.c1
  have hE := mend_box (a := none) (n := 0) (c := 0) (b := some ⟨w.heap.size, 0, none⟩) (m := 1) (d := 1) (r := (some ([], [(N : Int)]), 0)) h.out.1 h.out.2.2 (by omega) ⟨Sl.nil _ _, own_st hx, by omega⟩ ⟨by omega, by unfold maxLen; omega, by omega, by unfold maxLen; omega⟩ HR.out
  rw [World.setCell_alloc_past (hn := l0), World.setCell_alloc_past (hn := by simpa using l0)] at hE r0 r1
  exact bodyPost_ret (v := .tuple #[.agg #[.slice none 0 0, .slice (some ⟨w.heap.size, 0, none⟩) 1 1], .int .i64 0]) (by simp [results, Tryz.results10, go_sem, r0, r1]) rfl hE
theorem rTally_is {a1 b1 : Option Addr} {n1 c1 m1 d1 : Nat} {l : List Int} {es : List ByteArray} {W : World} {o : Option Ar} (h1 : Av W a1 n1 c1 b1 m1 d1 l es o) : Calls Tryz.prog 10 #[.agg #[.slice a1 n1 c1, .slice b1 m1 d1]] W (MEnd (taM o) W) := by
  cases o with
  | none => exact rta_no h1
  | some q =>
    have e : taM (some q) = (some ([], [(mN l : Int)]), 0) := by rw [h1.items.2.1, ← h1.fst]; rfl
    rw [e]; exact rta_yes h1
set_option maxRecDepth 100000 in
set_option maxHeartbeats 3200000 in
theorem rsh_no {a1 b1 : Option Addr} {n1 c1 m1 d1 : Nat} {l : List Int} {es : List ByteArray} {W : World} (h1 : Av W a1 n1 c1 b1 m1 d1 l es none) :
    Calls Tryz.prog 12 #[.agg #[.slice a1 n1 c1, .slice b1 m1 d1]] W (MEnd (none, 1) W) := by
  have KV := Lib.hid (fun w (hb : Below W.heap.size W w) => rMay_av (h1.below hb))
  clear h1
  have h := live1 W a1 n1 c1 b1 m1 d1
  go_enter Tryz.func12, Tryz.ntmps12
  have x1 := h.out.2.1.c0
  have y1 := h.out.2.1.c1
  go_wp2_with fail
  with_reducible refine (live h (KV.out _ h.out.2.2)).mono ?_
  clear h x1 y1
  rintro e w ⟨rfl, h⟩
  have y0 := h.out.1.c0
  have y3 := h.out.1.c1
  have f0 := h.out.1.f 0
  have f1 := h.out.1.f 1
  go_wp2_with fail
  have hR := h.out.1.set none 0 0 none 0 0
  have r0 := hR.c0
  have r1 := hR.c1
  exact bodyPost_ret (v := .tuple #[.agg #[.slice none 0 0, .slice none 0 0], .int .i64 1]) (by simp [results, Tryz.results12, go_sem, r0, r1]) rfl (mend_no h.out.1 h.out.2.2 (by omega))
theorem takeI_snoc {l : List Int} {k : Nat} (hk : k < l.length) : l.take (k + 1) = l.take k ++ [l.getD k 0] := by
  rw [List.take_add_one, List.getD_eq_getElem?_getD, List.getElem?_eq_getElem hk]; rfl
set_option maxRecDepth 100000 in
set_option maxHeartbeats 3200000 in
theorem rsh_yes {a1 b1 : Option Addr} {n1 c1 m1 d1 : Nat} {l : List Int} {es : List ByteArray} {W : World} {q : Ar} (h1 : Av W a1 n1 c1 b1 m1 d1 l es (some q)) :
    Calls Tryz.prog 12 #[.agg #[.slice a1 n1 c1, .slice b1 m1 d1]] W (MEnd (some ([(n1 : Int)], l), 0) W) := by
  have KV := Lib.hid (fun w (hb : Below W.heap.size W w) => rMay_av (h1.below hb))
  have hmay := szE_may.1 h1.sz
  have hl := h1.v.s.1
  have hn3 := h1.n3
  have KT := Lib.hid (fun (k : Nat) (hk : k < n1) w => rtext_is (x := l.getD k 0) (by have := hmay.nn k (by omega); have := hmay.le k (by omega); unfold I64; omega) w)
  have HV := Lib.hid h1.v.s
  have HR0 := Lib.hid (vec_rok (t := n1) (xs := l) (by have := h1.n3; omega) hl fun x hx => by
    obtain ⟨j, hj, rfl⟩ := List.getElem_of_mem hx
    have e1 := hmay.nn j hj
    have e2 := hmay.le j hj
    rw [List.getD_eq_getElem?_getD, List.getElem?_eq_getElem hj, Option.getD_some] at e1 e2
    exact small_rok (by omega))
  clear h1 hmay hl
  have h := live1 W a1 n1 c1 b1 m1 d1
  go_enter Tryz.func12, Tryz.ntmps12
  have x1 := h.out.2.1.c0
  have y1 := h.out.2.1.c1
  go_wp2_with fail
  with_reducible refine (live h (KV.out _ h.out.2.2)).mono ?_
  clear h x1 y1
  rintro e w ⟨rfl, h⟩
  have x1 := h.out.2.1.c0
  go_wp2_with fail
  have hA : Below w.heap.size w (w.alloc (.cells #[.int .i64 (n1 : Int)] 3)) := (Below.refl _ _).alloc (Nat.le_refl _) _
  have HS := Lib.hid (sl_new1 w (n1 : Int))
  have hO := Bx.newG (w.alloc (.cells #[.int .i64 (n1 : Int)] 3)) (w.heap.size + 1) (by simp) (some ⟨w.heap.size, 0, none⟩) 1 1 none 0 0
  have hbO : Below (w.heap.size + 1) (w.alloc (.cells #[.int .i64 (n1 : Int)] 3)) ((w.alloc (.cells #[.int .i64 (n1 : Int)] 3)).alloc (.cells #[.slice (some ⟨w.heap.size, 0, none⟩) 1 1, .slice none 0 0] 25)) := (Below.refl _ _).alloc (by simp) _
  replace h := Lib.hid (live_bel h hA (Nat.le_refl _))
  clear hA x1
  go_loopw [5] (fun iv wr => ∃ (k : Nat) (av : Option Addr) (cv : Nat), iv = .int .i64 k ∧ k ≤ n1 ∧ Bx wr (w.heap.size + 1) (some ⟨w.heap.size, 0, none⟩) 1 1 av k cv ∧ wr.ownsRow (w.heap.size + 1 + 1) 9 1 (.slice av k cv) k (valsS ((l.take k).map S)) ∧ Below (w.heap.size + 1) (w.alloc (.cells #[.int .i64 (n1 : Int)] 3)) wr) (fun iv _ => n1 - (intOf iv).toNat)
  case atStart => exact ⟨0, none, 0, rfl, by omega, hO, World.ownsRow_nil _ _ _ _, hbO⟩
  case round =>
    obtain ⟨k, av, cv, rfl, hk, hO1, ho1, hb1⟩ := hrel
    clear hO hbO
    have hh := live_bel h.out hb1 (by simp)
    have x1 := hh.out.2.1.c0
    have lv := hh.out.2.1.lt
    by_cases hlt : k < n1
    · have e2 : (k : Int) < (n1 : Int) := by omega
      have Q1 := KT.out k hlt
      have HN := Lib.hid (show valsS ((l.take (k + 1)).map S) = valsS ((l.take k).map S) ++ [.string (S (l.getD k 0))] by rw [takeI_snoc (by rw [HV.out.1]; exact hlt)]; exact valsS_map_snoc _ _)
      obtain ⟨bb, off, rfl, hc⟩ := HV.out.2 (by omega)
      have hck := (hh.out.2.2.cell (p := ⟨bb, off + k, none⟩) (World.block_lt_of_cell? W _ (hc k hlt))).trans (hc k hlt)
      generalize l.getD k 0 = x at *
      clear hc hh
      generalize S (x) = tx at *
      have HQ : Hid (∀ z, Below wr.heap.size wr z → Calls Tryz.prog 34 #[.int .i64 (x)] z fun e w' => e = .returned (.string tx) ∧ Below wr.heap.size wr w') := Lib.hid fun z hz => (Q1 z).mono fun e w' h => ⟨h.1, hz.trans (h.2.mono hz.size)⟩
      have u1 := hO1.c1
      have lO := hO1.lt
      have HO := Lib.hid hO1
      have HR := Lib.hid ho1
      have HB := Lib.hid hb1
      clear hO1 ho1 hb1 Q1
      have hq : Below wr.heap.size wr wr := Below.refl _ _
      have hqz := hq.size
      have wq0 : ∃ z, z = wr := ⟨_, rfl⟩
      obtain ⟨wq, hwq⟩ := wq0
      go_wp2_with fail
      go_region_law (first | (go_simp; go_at_call 34; refine (HQ.out _ (by repeat' (first | exact hq | refine Below.drew ?_ | refine below_drewN ?_ _ | refine Below.alloc ?_ ?_ _ | exact hqz | exact Nat.le_refl _ | omega | (simp; done) | (simp; omega)))).mono ?_; rintro e wq ⟨rfl, hq⟩; have hqz := hq.size; have u2 := (HO.out.below hq lO).c1; have l2 := (HO.out.below hq lO).lt; have u3 := ((HO.out.below hq lO).alloc (.cells #[.string tx] 9)).c1) | (refine step_pushS wq (w.heap.size + 1 + 1) (.tmp 23) (.tmp 30) av k cv (valsS ((l.take k).map S)) tx rfl rfl rfl rfl rfl rfl rfl rfl (own_below HR.out hq) (by omega) (by omega) ?_; intro av' cv' w9 hown9 hb9; have hO9 := HO.out.below ((hq.mono (by omega)).trans hb9) (by omega); have z1 := hO9.c1; have g2 := hO9.f 1))
      all_goals
        rw [← HN.out] at hown9
        have hb10 := HB.out.trans (((hq.mono (by omega)).trans hb9).mono (by omega))
        have hO11 := Lib.hid (hO9.set1 av' (k + 1) cv')
        have hr11 := Lib.hid (own_set hown9 (p := ⟨w.heap.size + 1, 1, none⟩) (Nat.lt_succ_self _) (.slice av' (k + 1) cv'))
        have hb11 := Lib.hid (hb10.setCell (p := ⟨w.heap.size + 1, 1, none⟩) (Nat.le_refl _) (.slice av' (k + 1) cv'))
        clear hO9 hb9 hown9 hb10 u1 z1 g2 hq HO HR HB
        go_wp2_with fail
        go_roundw
        case rel => exact ⟨k + 1, av', cv', by go_num, by omega, hO11.out, hr11.out, hb11.out⟩
        case measure => simp [intOf]; omega
    · have e2 : ¬ (k : Int) < (n1 : Int) := by omega
      obtain rfl : k = n1 := by omega
      have x0 := hO1.c0
      have x1 := hO1.c1
      replace h := live_bel h.out hb1 (by simp)
      have hvl := Lib.hid (show Vl wr (some ⟨w.heap.size, 0, none⟩) 1 av k [(k : Int)] ((l.take k).map S) from ⟨HS.out.below (hb1.mono (by simp)), own_st ho1, by omega⟩)
      have hcp := Lib.hid (show Cp 1 1 k cv from ⟨Nat.le_refl _, by unfold maxLen; omega, (own_caps ho1).1, (own_caps ho1).2⟩)
      clear hO1 ho1 hb1
      have y0 := h.out.1.c0
      have y3 := h.out.1.c1
      have f0 := h.out.1.f 0
      have f1 := h.out.1.f 1
      go_wp2_with fail
      have hR := h.out.1.set (some ⟨w.heap.size, 0, none⟩) 1 1 av k cv
      have r0 := hR.c0
      have r1 := hR.c1
      rw [List.take_of_length_le (by rw [HV.out.1]; exact Nat.le_refl _)] at hvl
      exact bodyPost_ret (v := .tuple #[.agg #[.slice (some ⟨w.heap.size, 0, none⟩) 1 1, .slice av k cv], .int .i64 0]) (by simp [results, Tryz.results12, go_sem, r0, r1]) rfl (mend_box (r := (some ([(k : Int)], l), 0)) h.out.1 h.out.2.2 (by omega) hvl.out hcp.out HR0.out)
theorem rShape_is {a1 b1 : Option Addr} {n1 c1 m1 d1 : Nat} {l : List Int} {es : List ByteArray} {W : World} {o : Option Ar} (h1 : Av W a1 n1 c1 b1 m1 d1 l es o) : Calls Tryz.prog 12 #[.agg #[.slice a1 n1 c1, .slice b1 m1 d1]] W (MEnd (shM o) W) := by
  cases o with
  | none => exact rsh_no h1
  | some q =>
    have e : shM (some q) = (some ([(n1 : Int)], l), 0) := by rw [← h1.fst, ← h1.v.s.1, ← h1.fst]; rfl
    rw [e]; exact rsh_yes h1
set_option maxRecDepth 100000 in
set_option maxHeartbeats 3200000 in
theorem rra_no {a1 b1 : Option Addr} {n1 c1 m1 d1 : Nat} {l : List Int} {es : List ByteArray} {W : World} (h1 : Av W a1 n1 c1 b1 m1 d1 l es none) :
    Calls Tryz.prog 14 #[.agg #[.slice a1 n1 c1, .slice b1 m1 d1]] W (MEnd (none, 1) W) := by
  have KV := Lib.hid (fun w (hb : Below W.heap.size W w) => rMay_av (h1.below hb))
  clear h1
  have h := live1 W a1 n1 c1 b1 m1 d1
  go_enter Tryz.func14, Tryz.ntmps14
  have x1 := h.out.2.1.c0
  have y1 := h.out.2.1.c1
  go_wp2_with fail
  with_reducible refine (live h (KV.out _ h.out.2.2)).mono ?_
  clear h x1 y1
  rintro e w ⟨rfl, h⟩
  have y0 := h.out.1.c0
  have y3 := h.out.1.c1
  have f0 := h.out.1.f 0
  have f1 := h.out.1.f 1
  go_wp2_with fail
  have hR := h.out.1.set none 0 0 none 0 0
  have r0 := hR.c0
  have r1 := hR.c1
  exact bodyPost_ret (v := .tuple #[.agg #[.slice none 0 0, .slice none 0 0], .int .i64 1]) (by simp [results, Tryz.results14, go_sem, r0, r1]) rfl (mend_no h.out.1 h.out.2.2 (by omega))
set_option maxRecDepth 100000 in
set_option maxHeartbeats 3200000 in
theorem rra_yes {a1 b1 : Option Addr} {n1 c1 m1 d1 : Nat} {l : List Int} {es : List ByteArray} {W : World} {q : Ar} (h1 : Av W a1 n1 c1 b1 m1 d1 l es (some q)) :
    Calls Tryz.prog 14 #[.agg #[.slice a1 n1 c1, .slice b1 m1 d1]] W (MEnd (some ([(m1 : Int)], q.2), 0) W) := by
  have KV := Lib.hid (fun w (hb : Below W.heap.size W w) => rMay_av (h1.below hb))
  obtain ⟨hm, hp, hm4⟩ := h1.mlen
  have HV := Lib.hid (h1.v.t)
  have HC := Lib.hid h1.c
  have hes := h1.i.2.1
  have HR := Lib.hid (vec_rok (t := m1) (xs := q.2) hm4 hm.symm h1.i.2.2.2)
  subst hes
  clear h1 hm hp
  have h := live1 W a1 n1 c1 b1 m1 d1
  go_enter Tryz.func14, Tryz.ntmps14
  have x1 := h.out.2.1.c0
  have y1 := h.out.2.1.c1
  go_wp2_with fail
  with_reducible refine (live h (KV.out _ h.out.2.2)).mono ?_
  clear h x1 y1
  rintro e w ⟨rfl, h⟩
  have x1 := h.out.2.1.c0
  have x2 := h.out.2.1.c1
  have y0 := h.out.1.c0
  have y3 := h.out.1.c1
  have f0 := h.out.1.f 0
  have f1 := h.out.1.f 1
  have l0 := h.out.1.lt
  have l1 := h.out.2.1.lt
  go_wp2_with fail
  have hA : Below w.heap.size w (w.alloc (.cells #[.int .i64 (m1 : Int)] 3)) := (Below.refl _ _).alloc (Nat.le_refl _) _
  have hx := sl_new1 w (m1 : Int)
  replace h := live_to h hA
  have hR := h.out.1.set (some ⟨w.heap.size, 0, none⟩) 1 1 b1 m1 d1
  have r0 := hR.c0
  have r1 := hR.c1
  have hE := mend_box (a := some ⟨w.heap.size, 0, none⟩) (n := 1) (c := 1) (b := b1) (m := m1) (d := d1) (r := (some ([(m1 : Int)], q.2), 0)) h.out.1 h.out.2.2 (by omega) ⟨hx, HV.out.below h.out.2.2, by omega⟩ ⟨Nat.le_refl _, by unfold maxLen; omega, HC.out.3, HC.out.4⟩ HR.out
  rw [World.setCell_alloc_past (hn := l0), World.setCell_alloc_past (hn := by simpa using l0)] at hE r0 r1
  exact bodyPost_ret (v := .tuple #[.agg #[.slice (some ⟨w.heap.size, 0, none⟩) 1 1, .slice b1 m1 d1], .int .i64 0]) (by simp [results, Tryz.results14, go_sem, r0, r1]) rfl hE
theorem rRavel_is {a1 b1 : Option Addr} {n1 c1 m1 d1 : Nat} {l : List Int} {es : List ByteArray} {W : World} {o : Option Ar} (h1 : Av W a1 n1 c1 b1 m1 d1 l es o) : Calls Tryz.prog 14 #[.agg #[.slice a1 n1 c1, .slice b1 m1 d1]] W (MEnd (raM o) W) := by
  cases o with
  | none => exact rra_no h1
  | some q =>
    have e : raM (some q) = (some ([(m1 : Int)], q.2), 0) := by rw [h1.mlen.1]; rfl
    rw [e]; exact rra_yes h1
end Go.Proofs.YtjpjccilnmlmnaaGreatDoor

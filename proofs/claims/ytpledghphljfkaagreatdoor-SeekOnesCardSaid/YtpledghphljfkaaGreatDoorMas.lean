import Derived.Test.YtpledghphljfkaaGreatDoorMar
/-
  The reference's text, one, Int, All, run, turned and May, by their contracts.
-/
namespace Go.Proofs.YtpledghphljfkaaGreatDoor
set_option linter.unusedVariables false
set_option linter.unusedSimpArgs false
open Go.RowKit

set_option maxRecDepth 10000 in
set_option maxHeartbeats 1600000 in
theorem rVMay_is {a b : Option Addr} {n c m d : Nat} {l : List Int} {es : List ByteArray} (W : World) (h : Vl W a n b m l es) (hz : ∀ j, j < m → (es.getD j ByteArray.empty).size ≤ maxLen) :
    Calls Tryz.prog 38 #[.agg #[.slice a n c, .slice b m d]] W (BoolEnd (mayV l es) W) := by
  have K1 := Lib.hid (fun w (hb : Below W.heap.size W w) => rSize_is a n c l w (h.s.below hb))
  have r2 := h.mm
  have HT := Lib.hid h.t
  have HZ := Lib.hid hz
  clear h hz
  have hb0 : Below W.heap.size W (W.alloc (.cells #[.slice a n c, .slice b m d] 25)) := (Below.refl _ _).alloc (Nat.le_refl _) _
  by_cases he : szE l = 0
  · by_cases hm : (m : Int) = szV l
    · have hmv : ∀ (h : ∀ j, j < m → mayL (es.getD j ByteArray.empty).data.toList = true), mayV l es = true := fun h => mayV_yes.2 ⟨he, by rw [HT.out.1, hm, szV_pr he], by rw [HT.out.1]; exact h⟩
      have hmn : ∀ j, j < m → mayL (es.getD j ByteArray.empty).data.toList = false → mayV l es = false := fun j hj h => mayV_at (by rw [HT.out.1]; exact hj) h
      have HM := Lib.hid (And.intro hmv hmn)
      clear hmv hmn
      rw [← hm, he] at K1
      clear hm he
      generalize mayV l es = v at HM ⊢
      go_enter Tryz.func38, Tryz.ntmps38
      go_wp2_with fail
      refine (K1.out _ hb0).mono ?_
      rintro x w1 ⟨rfl, rfl⟩
      go_wp2_with fail
      go_loop [5] (fun i => ∃ k : Nat, i = .int .i64 k ∧ k ≤ m ∧ Hid (∀ j, j < k → mayL (es.getD j ByteArray.empty).data.toList = true)) (fun i => m - (intOf i).toNat)
      case atStart => exact ⟨0, rfl, by omega, Lib.hid fun j hj => by omega⟩
      case round =>
        obtain ⟨k, rfl, hk, HI⟩ := hrel
        by_cases hlt : k < m
        · have e2 : (k : Int) < (m : Int) := by omega
          obtain ⟨bb, off, rfl, hc⟩ := HT.out.2 (by omega)
          have hck := (hb0.cell (p := ⟨bb, off + k, none⟩) (World.block_lt_of_cell? W _ (hc k hlt))).trans (hc k hlt)
          have hs := HZ.out k hlt
          clear hc
          obtain ⟨s, hse⟩ : ∃ s, s = es.getD k ByteArray.empty := ⟨_, rfl⟩
          rw [← hse] at hck hs
          have KM := Lib.hid (rMay_any s hs)
          have HE := Lib.hid hse
          clear hse hs
          cases hv : mayL s.data.toList
          · rw [hv] at KM
            obtain rfl : v = false := HM.out.2 k hlt (by rw [← HE.out]; exact hv)
            clear hv
            go_wp2_with fail
            refine (KM.out _).mono ?_
            rintro x w2 ⟨rfl, rfl⟩
            go_wp2_with fail
            go_ret
            exact ⟨rfl, hb0⟩
          · rw [hv] at KM
            have HV := Lib.hid hv
            clear hv
            go_wp2_with fail
            refine (KM.out _).mono ?_
            rintro x w2 ⟨rfl, rfl⟩
            go_wp2_with fail
            refine ⟨⟨k + 1, by go_num, by omega, Lib.hid fun j hj => ?_⟩, by simp [intOf]; omega⟩
            rcases Nat.lt_or_ge j k with h2 | h2
            · exact HI.out j h2
            · rw [show j = k by omega, ← HE.out]; exact HV.out
        · have e2 : ¬ (k : Int) < (m : Int) := by omega
          obtain rfl : v = true := HM.out.1 fun j hj => HI.out j (by omega)
          go_wp2_with fail
          go_ret
          exact ⟨rfl, hb0⟩
    · have hv := mayV_len (l := l) (es := es) (by rw [HT.out.1]; exact hm)
      rw [hv]
      rw [he] at K1
      clear hv he
      generalize szV l = P at *
      have hPm : (P != (m : Int)) = true := bne_iff_ne.2 fun e => hm e.symm
      go_enter Tryz.func38, Tryz.ntmps38
      go_wp2_with fail
      refine (K1.out _ hb0).mono ?_
      rintro x w1 ⟨rfl, rfl⟩
      go_wp2_with fail
      go_ret
      exact ⟨rfl, hb0⟩
  · have hv := mayV_e (es := es) he
    rw [hv]
    rw [szV_zero he] at K1
    clear hv
    generalize szE l = E at *
    have hE : (E != 0) = true := by simpa using he
    go_enter Tryz.func38, Tryz.ntmps38
    go_wp2_with fail
    refine (K1.out _ hb0).mono ?_
    rintro x w1 ⟨rfl, rfl⟩
    go_wp2_with fail
    all_goals
      go_ret
      exact ⟨rfl, hb0⟩
theorem rMay_av {W : World} {a b : Option Addr} {n c m d : Nat} {l : List Int} {es : List ByteArray} {o : Option Ar} (h : Av W a n c b m d l es o) : Calls Tryz.prog 38 #[.agg #[.slice a n c, .slice b m d]] W (BoolEnd o.isSome W) := by
  have e := rVMay_is (c := c) (d := d) W h.v h.z
  rwa [h.i.may] at e
set_option maxRecDepth 10000 in
theorem rone_yes (s : ByteArray) (x : Int) (W : World) (hi : RIntIs s x true) (hf : nearM x = true) : Calls Tryz.prog 54 #[.string s] W (NearEnd x 0 W) := by
  obtain ⟨h0, h1⟩ := nearM_yes.1 hf
  have c1 : ¬ x < -1099511627776 := by omega
  have c2 : ¬ 1099511627776 < x := by omega
  have K := Lib.hid (hi W)
  clear hi hf h0 h1
  go_enter Tryz.func54, Tryz.ntmps54
  go_wp2_with fail
  refine K.out.mono ?_
  rintro x w1 ⟨rfl, hb⟩
  go_wp2_with fail
  go_ret2
  exact ⟨rfl, hb⟩
set_option maxRecDepth 10000 in
theorem rone_no (s : ByteArray) (x : Int) (v : Bool) (W : World) (hi : RIntIs s x v) (hf : v = false ∨ nearM x = false) : Calls Tryz.prog 54 #[.string s] W (NearEnd 0 5 W) := by
  have K := Lib.hid (hi W)
  clear hi
  rcases Bool.eq_false_or_eq_true v with rfl | rfl
  · have hf : nearM x = false := by rcases hf with h | h; cases h; exact h
    have hc : x < -1099511627776 ∨ 1099511627776 < x := by
      rw [← Bool.not_eq_true, nearM_yes] at hf; omega
    clear hf
    by_cases c1 : x < -1099511627776
    · have c2 : ¬ 1099511627776 < x := by omega
      clear hc
      go_enter Tryz.func54, Tryz.ntmps54
      go_wp2_with fail
      refine K.out.mono ?_
      rintro x w1 ⟨rfl, hb⟩
      go_wp2_with fail
      go_ret2
      exact ⟨rfl, hb⟩
    · have c2 : 1099511627776 < x := by omega
      clear hc
      go_enter Tryz.func54, Tryz.ntmps54
      go_wp2_with fail
      refine K.out.mono ?_
      rintro x w1 ⟨rfl, hb⟩
      go_wp2_with fail
      go_ret2
      exact ⟨rfl, hb⟩
  · clear hf
    go_enter Tryz.func54, Tryz.ntmps54
    go_wp2_with fail
    refine K.out.mono ?_
    rintro x w1 ⟨rfl, hb⟩
    go_wp2_with fail
    go_ret2
    exact ⟨rfl, hb⟩
theorem rone_is {x : Int} (hl : x.natAbs < lim) (W : World) : Calls Tryz.prog 54 #[.string (S x)] W (NearEnd (if nearM x then x else 0) (if nearM x then 0 else 5) W) := by
  have hi := rInt_opt (s := S x) (o := some x) ⟨rfl, hl⟩
  unfold intO at hi
  dsimp only at hi
  cases hf : nearM x
  · by_cases h : I64 x
    · rw [if_pos h] at hi
      exact rone_no (S x) _ _ W hi (.inr hf)
    · rw [if_neg h] at hi
      exact rone_no (S x) _ _ W hi (.inl rfl)
  · have h := nearM_yes.1 hf
    rw [if_pos (show I64 x by unfold I64; omega)] at hi
    exact rone_yes (S x) x W hi hf
section
variable {W : World} {a b : Option Addr} {n c m d : Nat} {l : List Int} {es : List ByteArray} {q : Ar}
end

/-! ### run, turned -/
/-- The numbers from one on, so many. -/
def fromM (f : Int) (k : Nat) : List Int := (List.range k).map fun i : Nat => f + (i : Int)
theorem from_succ (f : Int) (k : Nat) : valsI (fromM f (k + 1)) = valsI (fromM f k) ++ [.int .i64 (f + (k : Int))] := by simp [fromM, valsI, List.range_succ]
/-- The last ones of a list, the last one first. -/
def backM (l : List Int) (k : Nat) : List Int := (List.range k).map fun i : Nat => l.getD (l.length - 1 - i) 0
theorem back_succ (l : List Int) (k : Nat) : valsI (backM l (k + 1)) = valsI (backM l k) ++ [.int .i64 (l.getD (l.length - 1 - k) 0)] := by simp [backM, valsI, List.range_succ]
theorem back_all (l : List Int) : backM l l.length = l.reverse := by
  apply List.ext_getElem?
  intro j
  by_cases hj : j < l.length
  · rw [backM, List.getElem?_map, List.getElem?_range hj, List.getElem?_reverse hj, Option.map_some, List.getD_eq_getElem?_getD, List.getElem?_eq_getElem (show l.length - 1 - j < l.length by omega)]
    rfl
  · rw [List.getElem?_eq_none (by simp [backM]; omega), List.getElem?_eq_none (by simp; omega)]
theorem pre_succ {l : List Int} {k : Nat} (hk : k < l.length) : valsI (l.take (k + 1)) = valsI (l.take k) ++ [.int .i64 (l.getD k 0)] := by
  have e : l.take (k + 1) = l.take k ++ [l.getD k 0] := by
    rw [List.take_add_one, List.getD_eq_getElem?_getD, List.getElem?_eq_getElem hk]; rfl
  rw [e]; simp [valsI]
set_option maxRecDepth 10000 in
set_option maxHeartbeats 1600000 in
theorem rAll_av {a b : Option Addr} {k c n d : Nat} {s l : List Int} (W : World) (h : Vl W a k b n s (l.map S)) (hl : ∀ x ∈ l, x.natAbs < lim) (hn : n ≤ 1000000) :
    Calls Tryz.prog 29 #[.agg #[.slice a k c, .slice b n d]] W (AlO l W) := by
  have hll : l.length = n := by have := h.t.1; rwa [List.length_map] at this
  have HL := Lib.hid hll
  have HT := Lib.hid h.t
  have HI := Lib.hid (fun j (hj : j < n) => hl (l.getD j 0) (by
    rw [List.getD_eq_getElem?_getD, List.getElem?_eq_getElem (by omega)]
    exact List.getElem_mem _))
  clear h hl hll
  go_enter Tryz.func29, Tryz.ntmps29
  have hA := Bx.new W a k c b n d
  have hb0 : Below W.heap.size W (W.alloc (.cells #[.slice a k c, .slice b n d] 25)) := (Below.refl _ _).alloc (Nat.le_refl _) _
  go_wp2_with fail
  go_loopw [4, 5] (fun lv i wr => ∃ q : Nat, i = .int .i64 (q : Int) ∧ q ≤ n ∧ Bx wr W.heap.size a k c b n d ∧ wr.ownsRow (W.heap.size + 1) 3 1 lv q (valsI (l.take q)) ∧ Hid (∀ j, j < q → nearM (l.getD j 0) = true) ∧ Below W.heap.size W wr) (fun _ i _ => n - (intOf i).toNat)
  case atStart => exact ⟨0, rfl, Nat.zero_le _, hA, World.ownsRow_nil _ _ _ _, Lib.hid (fun j hj => by omega), hb0⟩
  case round =>
    obtain ⟨q, rfl, hq, hA1, hown, HF, hb1⟩ := hrel
    clear hA hb0
    have x1 := hA1.c1
    by_cases hlt : q < n
    · have e2 : (q : Int) < (n : Int) := by omega
      obtain ⟨bb, off, rfl, hc⟩ := HT.out.2 (by omega)
      have hck := (hb1.cell (p := ⟨bb, off + q, none⟩) (World.block_lt_of_cell? W _ (hc q hlt))).trans (hc q hlt)
      rw [map_getD l (by rw [HL.out]; exact hlt)] at hck
      have hs1 := Lib.hid (pre_succ (l := l) (k := q) (by rw [HL.out]; exact hlt))
      obtain ⟨x, hx⟩ : ∃ x, x = l.getD q 0 := ⟨_, rfl⟩
      rw [← hx] at hck hs1
      have KN := Lib.hid (rone_is (x := x) (by rw [hx]; exact HI.out q hlt) wr)
      have HX := Lib.hid hx
      have HA := Lib.hid hA1
      have HO := Lib.hid hown
      have HB := Lib.hid hb1
      clear hc hx hA1 hown hb1
      generalize hs : S x = t at hck KN
      clear hs
      rcases Bool.eq_false_or_eq_true (nearM x) with hf | hf
      · have HFX := Lib.hid hf
        rw [hf] at KN
        simp only [if_true] at KN
        clear hf
        go_wp2_with fail
        refine KN.out.mono ?_
        rintro e w2 ⟨rfl, hb⟩
        have hA2 := Lib.hid (HA.out.below hb HA.out.lt)
        have hb2 := Lib.hid (HB.out.trans (hb.mono HB.out.size))
        have ho2 := Lib.hid ((own_below HO.out hb).alloc (.cells #[.int .i64 x] 3))
        have hlt2 : W.heap.size < w2.heap.size := hA2.out.lt
        clear HA HB HO hb hck x1
        obtain ⟨i0, hi0, hz0, hz1, hz2⟩ := info_parts infoInt
        go_wp2_with (at_builtin; refine wpList_append_own _ rfl _ _ 22 rfl (W.heap.size + 1) 3 i0 (.int .i64 0) 1 8 Tryz.underlying22 hi0 hz0 hz1 hz2 rfl (by decide) _ _ _ rfl ho2.out ⟨w2.heap.size, 0, none⟩ 1 1 [.int .i64 x] rfl rfl (cell_one_new _ _ _) (by simp [Value.oneCell']) (by unfold maxLen; omega) (by omega) (by simp; omega) ?_; intro av' w3 hown3 hg3 _)
        have hb4 : Below (W.heap.size + 1) w2 w3 := ((Below.refl _ _).alloc (by omega) _).trans (grown_below' hg3 (fun g' hg' => (ho2.out.lt g' hg').1) (by simp; omega))
        rw [← hs1.out] at hown3
        have hA3 := hA2.out.below hb4 (by omega)
        have hb5 := hb2.out.trans (hb4.mono (by omega))
        have HF2 : Hid (∀ j, j < q + 1 → nearM (l.getD j 0) = true) := Lib.hid fun j hj => by
          by_cases hjk : j = q
          · rw [hjk, ← HX.out]; exact HFX.out
          · exact HF.out j (by omega)
        clear hg3 ho2 hs1 hb4 hA2 hb2
        go_wp2_with fail
        go_roundw
        case rel => exact ⟨q + 1, by go_num, by omega, hA3, hown3, HF2, hb5⟩
        case measure => simp [intOf]; omega
      · have HN := Lib.hid (near_some (l := l) (j := q) (by rw [HL.out]; exact hlt) (by rw [← HX.out]; exact hf))
        rw [hf] at KN
        simp only [Bool.false_eq_true, if_false] at KN
        clear hf
        go_wp2_with fail
        refine KN.out.mono ?_
        rintro e w2 ⟨rfl, hb⟩
        have hb2 := HB.out.trans (hb.mono HB.out.size)
        go_wp2_with fail
        go_ret2
        exact ⟨none, 0, 0, 5, rfl, .inr ⟨HN.out, rfl⟩, hb2⟩
    · have e2 : ¬ (q : Int) < (n : Int) := by omega
      obtain rfl : q = n := by omega
      have HAll := Lib.hid (near_all.2 fun j hj => HF.out j (by rw [HL.out] at hj; exact hj))
      obtain ⟨ae, ce, rfl⟩ := own_form hown
      rw [List.take_of_length_le (by rw [HL.out]; exact Nat.le_refl _)] at hown
      have HO := Lib.hid hown
      clear hown
      go_wp2_with fail
      go_ret2
      exact ⟨_, _, _, 0, rfl, .inl ⟨HAll.out, rfl, HL.out.symm, own_sl HO.out, (own_caps HO.out).1, (own_caps HO.out).2⟩, hb1⟩
end Go.Proofs.YtpledghphljfkaaGreatDoor
/-
  The reference's Iota, Tally, Shape, Ravel, by their contracts.
-/
namespace Go.Proofs.YtpledghphljfkaaGreatDoor
set_option linter.unusedVariables false
set_option linter.unusedSimpArgs false
open Go.RowKit

theorem live_bel {P : World → Prop} {w w' : World} {B : Nat} (h : Lv P w) (hb : Below B w w') (hB : w.heap.size ≤ B)
    (hs : Stb P := by repeat' (first | exact Stb.bel _ | exact Stb.bx | exact Stb.vl | refine Stb.and ?_ ?_ | exact Stb.triv)) : Lv P w' := ⟨hs _ _ h.out (hb.mono hB)⟩
theorem sl_new1 (w : World) (x : Int) : Sl (w.alloc (.cells #[.int .i64 x] 3)) (some ⟨w.heap.size, 0, none⟩) 1 [x] := own_sl (own_new1 w x)
theorem own_set {w : World} {B n : Nat} {e : TypeId} {v : Value} {xs : List Value} (h : w.ownsRow B e 1 v n xs) {p : Addr} (hp : p.block < B) (u : Value) : (w.setCell p u).ownsRow B e 1 v n xs := by
  refine ⟨h.1, ?_⟩
  rcases h.2 with h0 | ⟨g, cap, cur, e1, e2, hg, h2⟩
  · exact .inl h0
  · exact .inr ⟨g, cap, cur, e1, e2, (Below.heap_setCell _ _ _ g (by omega)).trans hg, h2⟩
theorem step_pushS {ops : Array Oper} {o : Oper} {a : Act} {K : Act → World → Prop} {Q : Exit → Act → World → Prop} {E : Prop} {w : World} (wr : World) (B : Nat) (s x : Operand) (av : Option Addr) (n cv : Nat) (xs : List Value) (v : ByteArray)
    (ho : o.op = .call { callee := .builtin .append, args := #[s, x], argTypes := #[23, 23] }) (hgd : o.guard = none)
    (hs : a.eval s = .slice av n cv) (hx : a.eval x = .slice (some ⟨wr.heap.size, 0, none⟩) 1 1) (hh : w.heap = wr.heap.push (.cells #[.string v] 9)) (h1 : w.os = wr.os) (h2 : w.tape = wr.tape) (h3 : w.output = wr.output)
    (hown : wr.ownsRow B 9 1 (.slice av n cv) n xs) (hsz : B ≤ wr.heap.size) (hn : n ≤ 100000)
    (h : ∀ av' cv' w', w'.ownsRow B 9 1 (.slice av' (n + 1) cv') (n + 1) (xs ++ [.string v]) → Below B wr w' → K (a.put o.dst (.slice av' (n + 1) cv')) w') :
    if Region.wanted o (yielded ops a.tmps) = true then Oper.wp Tryz.prog o a w K Q else E := by
  obtain ⟨i0, hi, hz0, hz1, hz2⟩ := info_parts infoStr
  have hown2 : w.ownsRow B 9 1 (.slice av n cv) n xs := by
    have h4 := hown.alloc (.cells #[.string v] 9)
    unfold World.ownsRow at h4 ⊢
    rw [hh]
    exact h4
  have hb2 : Below B wr w := by
    have h4 := (Below.refl B wr).alloc hsz (.cells #[.string v] 9)
    exact ⟨h1, h2, h3, by rw [hh]; exact h4.size, fun k hk => by rw [hh]; exact h4.block k hk⟩
  refine step_append_lies w hgd s x 23 ho B 9 i0 (.string ⟨#[]⟩) 1 16 Tryz.underlying23 hi hz0 hz1 hz2 rfl (by decide) _ _ _ hs hown2 ⟨wr.heap.size, 0, none⟩ 1 1 [.string v] hx rfl ?_ ?_ (by decide) (by unfold maxLen; omega) (by omega) (by rw [hh, Array.size_push]; omega) _ rfl ?_
  · exact World.news_of_block (t := 9) (fr := (0, 0)) (cs := #[.string v]) (by rw [hh]; simp)
  · intro u hu
    rw [List.mem_singleton] at hu
    rw [hu]; rfl
  · intro g cap w' o1 o2 _ _
    exact h _ _ w' o1 (hb2.grown o2 (by rw [hh, Array.size_push]; omega) (fun q hq => (hown2.lt q hq).1))
theorem valsS_map_snoc (xs : List Int) (x : Int) : valsS ((xs ++ [x]).map S) = valsS (xs.map S) ++ [.string (S x)] := by rw [List.map_append]; exact valsS_snoc _ _
theorem upM_snoc (k : Nat) : upM (k + 1) = upM k ++ [(k : Int)] := by simp [upM, List.range_succ]
theorem live_it {P : World → Prop} {w : World} {f : FuncId} {args : Array Value} {v : Int} {l : List Int} (h : Lv P w) (hc : Calls Tryz.prog f args w (ItPost v l w))
    (hs : Stb P := by repeat' (first | exact Stb.bel _ | exact Stb.bx | exact Stb.vl | refine Stb.and ?_ ?_ | exact Stb.triv)) :
    Calls Tryz.prog f args w fun e w' => ∃ a n c, e = .returned (.tuple #[.int .i64 v, .slice a n c]) ∧ Lv P w' ∧ Sl w' a n l ∧ n ≤ 20 :=
  hc.mono fun _ _ ⟨a, n, c, h1, h2, h3, h4⟩ => ⟨a, n, c, h1, ⟨hs _ _ h.out h4⟩, h2, h3⟩
theorem own_newS1 (w : World) (s : ByteArray) : (w.alloc (.cells #[.string s] 9)).ownsRow w.heap.size 9 1 (.slice (some ⟨w.heap.size, 0, none⟩) 1 1) 1 (valsS [s]) :=
  ⟨rfl, .inr ⟨w.heap.size, 1, #[.string s], rfl, Nat.le_refl _, heap_alloc_new w _, Nat.le_refl _, by unfold maxLen; omega, rfl, rfl⟩⟩
theorem takeI_snoc {l : List Int} {k : Nat} (hk : k < l.length) : l.take (k + 1) = l.take k ++ [l.getD k 0] := by
  rw [List.take_add_one, List.getD_eq_getElem?_getD, List.getElem?_eq_getElem hk]; rfl
end Go.Proofs.YtpledghphljfkaaGreatDoor

/-
  The reference's Val and To of typed arrays, by their contracts.
-/
import Derived.Test.YtdehcdnbalbdbaaDoorTs
import Derived.Deep.RegionLaw
import Derived.Deep.AppendLies
namespace Go.Proofs.YtdehcdnbalbdbaaDoor
open Go.RowKit

theorem txs_succ (f : Nat → Int) (k : Nat) : txs f (k + 1) = txs f k ++ [S (f k)] := by
  unfold txs
  rw [List.range_succ, List.map_append]; rfl
theorem valsS_snoc (l : List ByteArray) (s : ByteArray) : valsS (l ++ [s]) = valsS l ++ [.string s] := by simp [valsS]
theorem Bx.newG (W : World) (g : Nat) (hg : g = W.heap.size) (a : Option Addr) (n c : Nat) (b : Option Addr) (m d : Nat) : Bx (W.alloc (.cells #[.slice a n c, .slice b m d] 25)) g a n c b m d := by rw [hg]; exact Bx.new W a n c b m d
theorem Bx.set1 {W : World} {g : Nat} {a : Option Addr} {n c : Nat} {b : Option Addr} {m d : Nat} (h : Bx W g a n c b m d) (b' : Option Addr) (m' d' : Nat) : Bx (W.setCell ⟨g, 1, none⟩ (.slice b' m' d')) g a n c b' m' d' := by
  unfold Bx at h ⊢
  simp [World.setCell, Array.getElem?_modify, h]
theorem own_set {w : World} {B n : Nat} {e : TypeId} {v : Value} {xs : List Value} (h : w.ownsRow B e 1 v n xs) {p : Addr} (hp : p.block < B) (u : Value) : (w.setCell p u).ownsRow B e 1 v n xs := by
  refine ⟨h.1, ?_⟩
  rcases h.2 with h0 | ⟨g, cap, cur, e1, e2, hg, h2⟩
  · exact .inl h0
  · exact .inr ⟨g, cap, cur, e1, e2, (Below.heap_setCell _ _ _ g (by omega)).trans hg, h2⟩
/-- 'append(l, f(x))' of texts, as one step of a region that draws. -/
theorem step_push_s {ops : Array Oper} {o : Oper} {a : Act} {K : Act → World → Prop} {Q : Exit → Act → World → Prop} {E : Prop} {w : World} (wr : World) (s x : Operand) (base : Nat) (av : Option Addr) (n cv : Nat) (xs : List Value) (v : ByteArray)
    (ho : o.op = .call { callee := .builtin .append, args := #[s, x], argTypes := #[23, 23] }) (hgd : o.guard = none)
    (hs : a.eval s = .slice av n cv) (hx : a.eval x = .slice (some ⟨wr.heap.size, 0, none⟩) 1 1) (hh : w.heap = wr.heap.push (.cells #[.string v] 9)) (h1 : w.os = wr.os) (h2 : w.tape = wr.tape) (h3 : w.output = wr.output)
    (hown : wr.ownsRow base 9 1 (.slice av n cv) n xs) (hbase : base ≤ wr.heap.size) (hn : n ≤ 5000)
    (h : ∀ av' cv' w', w'.ownsRow base 9 1 (.slice av' (n + 1) cv') (n + 1) (xs ++ [.string v]) → Below base wr w' → K (a.put o.dst (.slice av' (n + 1) cv')) w') :
    if Region.wanted o (yielded ops a.tmps) = true then Oper.wp Tryd.prog o a w K Q else E := by
  obtain ⟨i0, hi, hz0, hz1, hz2⟩ := info_parts infoStr
  have hown2 : w.ownsRow base 9 1 (.slice av n cv) n xs := by
    have h4 := hown.alloc (.cells #[.string v] 9)
    unfold World.ownsRow at h4 ⊢
    rw [hh]
    exact h4
  have hb2 : Below base wr w := by
    have h4 := (Below.refl base wr).alloc hbase (.cells #[.string v] 9)
    exact ⟨h1, h2, h3, by rw [hh]; exact h4.size, fun k hk => by rw [hh]; exact h4.block k hk⟩
  refine step_append_lies w hgd s x 23 ho base 9 i0 (.string ⟨#[]⟩) 1 16 Tryd.underlying23 hi hz0 hz1 hz2 rfl (by decide) _ _ _ hs hown2 ⟨wr.heap.size, 0, none⟩ 1 1 [.string v] hx rfl ?_ ?_ (by decide) (by unfold maxLen; omega) (by omega) (by rw [hh, Array.size_push]; omega) _ rfl ?_
  · exact World.news_of_block (t := 9) (fr := (0, 0)) (cs := #[.string v]) (by rw [hh]; simp)
  · intro u hu
    rw [List.mem_singleton] at hu
    rw [hu]; rfl
  · intro g cap w' o1 o2 _ _
    exact h _ _ w' o1 (hb2.grown o2 (by rw [hh, Array.size_push]; omega) (fun q hq => (hown2.lt q hq).1))
/-- What the reference's Val hands back. -/
def RvEnd (a : Option Addr) (n c m : Nat) (es : List ByteArray) (W : World) (e : Ending) (W' : World) : Prop :=
  ∃ b d, e = .returned (.tuple #[.agg #[.slice a n c, .slice b m d], .bool true]) ∧ St W' b m es ∧ Below W.heap.size W W'
set_option maxRecDepth 10000 in
set_option maxHeartbeats 3200000 in
theorem rTVal_yes {w : Int} {a : Option Addr} {n c b m : Nat} {l : List Int} {s : ByteArray} (W : World) (hl : Sl W a n l) (hs : s.size ≤ 1000000) (hM : MayT w l s b m) :
    Calls Tryd.prog 19 #[.agg #[.int .i64 w, .slice a n c, .string s]] W (RvEnd a n c m (txs (el s b) m) W) := by
  have KY := fun w' (hb : Below W.heap.size W w') => rTMay_is (w := w) (c := c) (s := s) w' (hl.below hb) hs
  rw [hM.yes] at KY
  have KM := fun w' (hb : Below W.heap.size W w') => rTMany_is (w := w) (c := c) (s := s) w' (hl.below hb) hs
  rw [hM.tm] at KM
  have KA := Lib.hid (fun w' (hb : Below W.heap.size W w') k (hk : k < m) => rTAt_yes (c := c) w' (hl.below hb) hs hM hk)
  have KO := Lib.hid (fun k (hk : k < m) => rOf_any ((el_fit hM.bw hM.sz hk).i64 hM.bw))
  have hm := hM.le
  replace KY := Lib.hid KY
  replace KM := Lib.hid KM
  have hA := ((Tx.new 33 W w a n c s).alloc (.cells #[.slice none 0 0, .slice none 0 0] 25))
  have s1 : (W.alloc (.cells #[.int .i64 w, .slice a n c, .string s] 33)).heap.size = W.heap.size + 1 := by simp
  have hR := Bx.newG (W.alloc (.cells #[.int .i64 w, .slice a n c, .string s] 33)) (W.heap.size + 1) s1.symm none 0 0 none 0 0
  have hb0 := (box_below W (.cells #[.int .i64 w, .slice a n c, .string s] 33)).alloc (by omega) (.cells #[.slice none 0 0, .slice none 0 0] 25)
  clear hl hM s1 hs
  go_enter Tryd.func19, Tryd.ntmps19
  go_wp2_with fail
  refine (KY.out _ hb0).mono ?_
  rintro e w1 ⟨rfl, hb⟩
  have hA1 := hA.on hb
  have hR1 := hR.below hb hR.lt
  have hb1 := hb0.trans (hb.mono hb0.size)
  clear hA hR hb0 hb
  have x1 := hA1.c1
  go_wp2_with fail
  have hbl := box_below w1 (.cells #[.slice a n c, .slice none 0 0] 25)
  have hA2 := hA1.on hbl
  have hR2 := hR1.below hbl hR1.lt
  have hV2 := Bx.new w1 a n c none 0 0
  have hb2 := hb1.alloc hb1.size (.cells #[.slice a n c, .slice none 0 0] 25)
  have hg1 : W.heap.size + 1 < w1.heap.size := hR1.lt
  clear hA1 hR1 hb1 hbl x1
  go_loopw [5] (fun iv wr => ∃ (k : Nat) (av : Option Addr) (cv : Nat), iv = .int .i64 k ∧ k ≤ m ∧ Tx 33 wr W.heap.size w a n c s ∧ Bx wr (W.heap.size + 1) none 0 0 none 0 0 ∧ Bx wr w1.heap.size a n c av k cv ∧ wr.ownsRow (w1.heap.size + 1) 9 1 (.slice av k cv) k (valsS (txs (el s b) k)) ∧ Below W.heap.size W wr) (fun iv _ => m - (intOf iv).toNat)
  case atStart => exact ⟨0, none, 0, rfl, by omega, hA2, hR2, hV2, World.ownsRow_nil _ _ _ _, hb2⟩
  case round =>
    obtain ⟨k, av, cv, rfl, hk, hA3, hR3, hV3, hO3, hb3⟩ := hrel
    clear hA2 hR2 hV2 hb2
    have x0 := hA3.c0
    have x1 := hA3.c1
    have x2 := hA3.c2
    have hgs : w1.heap.size + 1 ≤ wr.heap.size := hV3.lt
    by_cases hlt : k < m
    · have e2 : (k : Int) < (m : Int) := by omega
      have KAk := KA.out
      replace KAk := Lib.hid (fun w' hb => KAk w' hb k hlt)
      have KOk := KO.out k hlt
      have hvs : valsS (txs (el s b) (k + 1)) = valsS (txs (el s b) k) ++ [.string (S (el s b k))] := by rw [txs_succ, valsS_snoc]
      have HVS := Lib.hid hvs
      clear hvs
      generalize el s b k = x at KAk KOk HVS
      generalize S x = sx at KOk HVS
      have KOk := Lib.hid KOk
      go_wp2_with fail
      refine (KM.out _ hb3).mono ?_
      rintro e w4 ⟨rfl, hb⟩
      have hA4 := hA3.on hb
      have hR4 := hR3.below hb hR3.lt
      have hV4 := hV3.below hb hV3.lt
      have hO4 := own_below hO3 hb
      have hb4 := hb3.trans (hb.mono hb3.size)
      have hgs4 := Nat.le_trans hgs hb.size
      clear hA3 hR3 hV3 hO3 hb3 hb x0 x1 x2 hgs
      have x0 := hA4.c0
      have x1 := hA4.c1
      have x2 := hA4.c2
      go_wp2_with fail
      refine (KAk.out _ hb4).mono ?_
      rintro e w5 ⟨rfl, hb⟩
      have hA5 := hA4.on hb
      have hR5 := hR4.below hb hR4.lt
      have hV5 := hV4.below hb hV4.lt
      have hO5 := own_below hO4 hb
      have hb5 := hb4.trans (hb.mono hb4.size)
      have hgs5 := Nat.le_trans hgs4 hb.size
      clear hA4 hR4 hV4 hO4 hb4 hb x0 x1 x2 hgs4
      have HV5 := Lib.hid hV5
      have HO5 := Lib.hid hO5
      have x1 := hV5.c1
      have d1 : w5.drew.cell? ⟨w1.heap.size, 1, none⟩ = _ := x1
      clear hV5 hO5
      have hk5 : k ≤ 5000 := by omega
      go_upto_region 8 with fail
      go_region_law (first
        | (go_simp; go_at_call 42; refine (KOk.out _).mono ?_; rintro e w9 ⟨rfl, hb9⟩; have hr9 : Below w5.heap.size w5 w9 := (by first | exact hb9 | exact (Below.refl _ _).drew.trans hb9); have hV9 := HV5.out.below hr9 HV5.out.lt; have hO9 := own_below HO5.out hr9; have y1 := hV9.c1; have y2 := (hV9.alloc (.cells #[.string sx] 9)).c1; have y3 : (w9.alloc (.cells #[.string sx] 9)).drew.cell? ⟨w1.heap.size, 1, none⟩ = _ := y2; have y4 : w9.drew.cell? ⟨w1.heap.size, 1, none⟩ = _ := y1; have hgs9 := Nat.le_trans hgs5 hr9.size)
        | (refine step_push_s w9 (.tmp 28) (.tmp 31) (w1.heap.size + 1) av k cv (valsS (txs (el s b) k)) _ rfl rfl rfl rfl rfl rfl rfl rfl hO9 hgs9 hk5 ?_; intro av' cv' w3 hown3 hbel3; have hV10 := hV9.below hbel3 (Nat.lt_succ_self _); have z1 := hV10.c1; have f1 := hV10.f 1))
      all_goals
        have hV11 := hV10.set1 av' (k + 1) cv'
        have hO11 := own_set hown3 (p := ⟨w1.heap.size, 1, none⟩) (Nat.lt_succ_self _) (.slice av' (k + 1) cv')
        rw [← HVS.out] at hO11
        have hA11 := ((hA5.on hr9).below hbel3 (by omega)).setOther (p := ⟨w1.heap.size, 1, none⟩) (show W.heap.size ≠ w1.heap.size by omega) (.slice av' (k + 1) cv')
        have hR11 := ((hR5.below hr9 hR5.lt).below hbel3 (by omega)).setOther (p := ⟨w1.heap.size, 1, none⟩) (show W.heap.size + 1 ≠ w1.heap.size by omega) (.slice av' (k + 1) cv')
        have hb11 := ((hb5.trans (hr9.mono hb5.size)).trans (hbel3.mono (by omega))).setCell (p := ⟨w1.heap.size, 1, none⟩) (show W.heap.size ≤ w1.heap.size by omega) (.slice av' (k + 1) cv')
        clear hA5 hR5 hb5 hV10 hown3 hbel3 x1 d1 y1 y2 y3 y4 z1 f1 hV9 hO9 hr9 hb9
        go_wp2_with fail
        go_roundw
        case rel => exact ⟨k + 1, av', cv', by go_num, by omega, hA11, hR11, hV11, hO11, hb11⟩
        case measure => simp [intOf]; omega
    · have e2 : ¬ (k : Int) < (m : Int) := by omega
      obtain rfl : k = m := by omega
      go_wp2_with fail
      refine (KM.out _ hb3).mono ?_
      rintro e w4 ⟨rfl, hb⟩
      have hR4 := hR3.below hb hR3.lt
      have hV4 := hV3.below hb hV3.lt
      have hO4 := own_below hO3 hb
      have hb4 := hb3.trans (hb.mono hb3.size)
      clear hA3 hR3 hV3 hO3 hb3 hb x0 x1 x2 hgs
      have x0 := hV4.c0
      have x1 := hV4.c1
      have z0 := hR4.c0
      have z1 := hR4.c1
      have f0 := hR4.f 0
      have f1 := hR4.f 1
      go_wp2_with fail
      have hB5 := hR4.set a n c av k cv
      have r0 := hB5.c0
      have r1 := hB5.c1
      exact bodyPost_ret (v := .tuple #[.agg #[.slice a n c, .slice av k cv], .bool true]) (by simp [results, Tryd.results19, go_sem, r0, r1]) rfl ⟨_, _, rfl, hR4.st (own_st hO4) _ _, below_made hb4 (by omega) _ _⟩
set_option maxRecDepth 10000 in
set_option maxHeartbeats 1600000 in
theorem rTVal_no {w : Int} {a : Option Addr} {n c : Nat} {l : List Int} {s : ByteArray} (W : World) (hl : Sl W a n l) (hs : s.size ≤ 1000000) (hM : mayT w l s = false) :
    Calls Tryd.prog 19 #[.agg #[.int .i64 w, .slice a n c, .string s]] W (NoEnd W) := by
  have K1 := fun w' (hb : Below W.heap.size W w') => rTMay_is (w := w) (c := c) (s := s) w' (hl.below hb) hs
  rw [hM] at K1
  have K1 := Lib.hid K1
  have s1 : (W.alloc (.cells #[.int .i64 w, .slice a n c, .string s] 33)).heap.size = W.heap.size + 1 := by simp
  have hB := Bx.newG (W.alloc (.cells #[.int .i64 w, .slice a n c, .string s] 33)) (W.heap.size + 1) s1.symm none 0 0 none 0 0
  have hb0 := (box_below W (.cells #[.int .i64 w, .slice a n c, .string s] 33)).alloc (by omega) (.cells #[.slice none 0 0, .slice none 0 0] 25)
  clear hl hM s1
  go_enter Tryd.func19, Tryd.ntmps19
  go_wp2_with fail
  refine (K1.out _ hb0).mono ?_
  rintro e w1 ⟨rfl, hb⟩
  have hB1 := hB.below hb hB.lt
  have hb1 := hb0.trans (hb.mono hb0.size)
  have y0 := hB1.c0
  have y1 := hB1.c1
  have f0 := hB1.f 0
  have f1 := hB1.f 1
  clear hB hb0 hb
  go_wp2_with fail
  have hB4 := hB1.set none 0 0 none 0 0
  have r0 := hB4.c0
  have r1 := hB4.c1
  exact bodyPost_ret (v := .tuple #[.agg #[.slice none 0 0, .slice none 0 0], .bool false]) (by simp [results, Tryd.results19, go_sem, r0, r1]) rfl ⟨rfl, below_made hb1 (by omega) _ _⟩

/-! ### To -/
set_option maxRecDepth 10000 in
set_option maxHeartbeats 3200000 in
theorem rTTo_yes {w w2 : Int} {a : Option Addr} {n c b b2 m : Nat} {l : List Int} {s : ByteArray} (W : World) (hl : Sl W a n l) (hs : s.size ≤ 1000000) (hM : MayT w l s b m) (hw2 : Bw w2 b2) (hf : ∀ i, i < m → Fit (el s b i) w2) :
    Calls Tryd.prog 21 #[.agg #[.int .i64 w, .slice a n c, .string s], .int .i64 w2] W (AggEnd (.tuple #[.agg #[.int .i64 w2, .slice a n c, .string (Eb b2 (el s b) m)], .bool true]) W) := by
  have KV := Lib.hid (fun w' (hb : Below W.heap.size W w') => rTVal_yes (c := c) w' (hl.below hb) hs hM)
  have KK := known_is w2
  rw [hw2.isW] at KK
  replace KK := Lib.hid KK
  have hm := hM.le
  have KI : ∀ k, k < m → RInIs (S (el s b k)) w2 true := fun k hk => by
    have h1 := (el_fit hM.bw hM.sz hk).i64 hM.bw
    have := rin_any (el s b k) w2 (lim_i64 h1.1 h1.2)
    rwa [decide_eq_true (hf k hk)] at this
  replace KI := Lib.hid KI
  have KL := Lib.hid (fun w' av d (hb : Below W.heap.size W w') (hv : St w' av m (txs (el s b) m)) => rLay_is (w := w2) (c := c) (d := d) (f := el s b) w' ⟨hl.below hb, hv, by omega⟩ hw2 hm (fun j hj => ⟨txs_get hj, (el_fit hM.bw hM.sz hj).i64 hM.bw⟩))
  have hA := ((Tx.new 33 W w a n c s).alloc (.cells #[.int .i64 0, .slice none 0 0, .string ⟨#[]⟩] 33))
  have s1 : (W.alloc (.cells #[.int .i64 w, .slice a n c, .string s] 33)).heap.size = W.heap.size + 1 := by simp
  have hR := Tx.new' 33 (W.alloc (.cells #[.int .i64 w, .slice a n c, .string s] 33)) s1.symm 0 none 0 0 ⟨#[]⟩
  have hb0 := (box_below W (.cells #[.int .i64 w, .slice a n c, .string s] 33)).alloc (by omega) (.cells #[.int .i64 0, .slice none 0 0, .string ⟨#[]⟩] 33)
  clear hl hM s1 hs hw2 hf
  generalize Eb b2 (el s b) m = s2 at KL ⊢
  go_enter Tryd.func21, Tryd.ntmps21
  go_wp2_with fail
  refine (KV.out _ hb0).mono ?_
  rintro e w1 ⟨av, d, rfl, hT, hb⟩
  have hbl := box_below w1 (.cells #[.slice a n c, .slice av m d] 25)
  have hR1 := (hR.on hb).on hbl
  have hV1 := Bx.new w1 a n c av m d
  have hT1 := hT.below hbl
  have hb1 := (hb0.trans (hb.mono hb0.size)).alloc (Nat.le_trans hb0.size hb.size) (.cells #[.slice a n c, .slice av m d] 25)
  clear hA hR hb0 hb hbl hT
  go_wp2_with fail
  refine (KK.out _).mono ?_
  rintro e w2' ⟨rfl, rfl⟩
  go_wp2_with fail
  go_loopw [8] (fun iv wr => ∃ k : Nat, iv = .int .i64 k ∧ k ≤ m ∧ Tx 33 wr (W.heap.size + 1) 0 none 0 0 ⟨#[]⟩ ∧ Bx wr w1.heap.size a n c av m d ∧ St wr av m (txs (el s b) m) ∧ Below W.heap.size W wr) (fun iv _ => m - (intOf iv).toNat)
  case atStart => exact ⟨0, rfl, by omega, hR1, hV1, hT1, hb1⟩
  case round =>
    obtain ⟨k, rfl, hk, hR2, hV2, hT2, hb2⟩ := hrel
    clear hR1 hV1 hT1 hb1
    have x0 := hV2.c0
    have x1 := hV2.c1
    by_cases hlt : k < m
    · have e2 : (k : Int) < (m : Int) := by omega
      obtain ⟨gb, off, rfl, hc⟩ := hT2.2 (by omega)
      have hck := hc k hlt
      rw [txs_get hlt] at hck
      have KIk := Lib.hid (KI.out k hlt)
      clear hc
      generalize S (el s b k) = sx at hck KIk
      have HT2 := Lib.hid hT2
      clear hT2
      go_wp2_with fail
      refine (KIk.out _).mono ?_
      rintro e w4 ⟨rfl, hb⟩
      have hR3 := hR2.on hb
      have hV3 := hV2.below hb hV2.lt
      have hT3 := HT2.out.below hb
      have hb3 := hb2.trans (hb.mono hb2.size)
      clear hR2 hV2 hb2 hb x0 x1 hck
      go_wp2_with fail
      refine ⟨⟨k + 1, by go_num, by omega, hR3, hV3, hT3, hb3⟩, by simp [intOf]; omega⟩
    · have e2 : ¬ (k : Int) < (m : Int) := by omega
      obtain rfl : k = m := by omega
      go_wp2_with fail
      refine (KL.out _ _ _ hb2 hT2).mono ?_
      rintro e w4 ⟨rfl, hb⟩
      have hR3 := hR2.on hb
      have hb3 := hb2.trans (hb.mono hb2.size)
      have y0 := hR3.c0
      have y1 := hR3.c1
      have y2 := hR3.c2
      have f0 := hR3.f 0
      have f1 := hR3.f 1
      have f2 := hR3.f 2
      clear hR2 hV2 hT2 hb2 hb x0 x1
      go_wp2_with fail
      have hB4 := hR3.set w2 a n c s2
      have r0 := hB4.c0
      have r1 := hB4.c1
      have r2 := hB4.c2
      exact bodyPost_ret (v := .tuple #[.agg #[.int .i64 w2, .slice a n c, .string s2], .bool true]) (by simp [results, Tryd.results21, go_sem, r0, r1, r2]) rfl ⟨rfl, below_made3 hb3 (by omega) _ _ _⟩
end Go.Proofs.YtdehcdnbalbdbaaDoor

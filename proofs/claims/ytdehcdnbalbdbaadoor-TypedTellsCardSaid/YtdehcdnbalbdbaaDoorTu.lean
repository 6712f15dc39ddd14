/-
  The reference's To where it tells nothing; the program's answers and the reference's are one.
-/
import Derived.Test.YtdehcdnbalbdbaaDoorTt
namespace Go.Proofs.YtdehcdnbalbdbaaDoor
open Go.RowKit

set_option maxRecDepth 10000 in
set_option maxHeartbeats 1600000 in
theorem rTTo_no {w w2 : Int} {a : Option Addr} {n c : Nat} {l : List Int} {s : ByteArray} (W : World) (hl : Sl W a n l) (hs : s.size ≤ 1000000) (hno : isW w2 = false ∨ mayT w l s = false) :
    Calls Tryd.prog 21 #[.agg #[.int .i64 w, .slice a n c, .string s], .int .i64 w2] W (TzEnd (.bool false) W) := by
  have s1 : (W.alloc (.cells #[.int .i64 w, .slice a n c, .string s] 33)).heap.size = W.heap.size + 1 := by simp
  have hR := Tx.new' 33 (W.alloc (.cells #[.int .i64 w, .slice a n c, .string s] 33)) s1.symm 0 none 0 0 ⟨#[]⟩
  have hb0 := (box_below W (.cells #[.int .i64 w, .slice a n c, .string s] 33)).alloc (by omega) (.cells #[.int .i64 0, .slice none 0 0, .string ⟨#[]⟩] 33)
  rcases Bool.eq_false_or_eq_true (mayT w l s) with hM | hM
  · have hw : isW w2 = false := by rcases hno with h | h; exact h; rw [hM] at h; cases h
    obtain ⟨b, m, hM⟩ := mayT_yes.1 hM
    have KV := Lib.hid (fun w' (hb : Below W.heap.size W w') => rTVal_yes (c := c) w' (hl.below hb) hs hM)
    have KK := known_is w2
    rw [hw] at KK
    replace KK := Lib.hid KK
    clear hl hM s1 hs hno hw
    go_enter Tryd.func21, Tryd.ntmps21
    go_wp2_with fail
    refine (KV.out _ hb0).mono ?_
    rintro e w1 ⟨av, d, rfl, hT, hb⟩
    have hR1 := (hR.on hb).on (box_below w1 (.cells #[.slice a n c, .slice av m d] 25))
    have hb1 := (hb0.trans (hb.mono hb0.size)).alloc (Nat.le_trans hb0.size hb.size) (.cells #[.slice a n c, .slice av m d] 25)
    clear hR hb0 hb hT
    go_wp2_with fail
    refine (KK.out _).mono ?_
    rintro e w2' ⟨rfl, rfl⟩
    have hR3 := hR1
    have hb3 := hb1
    have y0 := hR3.c0
    have y1 := hR3.c1
    have y2 := hR3.c2
    have f0 := hR3.f 0
    have f1 := hR3.f 1
    have f2 := hR3.f 2
    go_wp2_with fail
    have hB4 := hR3.set 0 none 0 0 ⟨#[]⟩
    have r0 := hB4.c0
    have r1 := hB4.c1
    have r2 := hB4.c2
    exact bodyPost_ret (v := .tuple #[.agg #[.int .i64 0, .slice none 0 0, .string ⟨#[]⟩], .bool false]) (by simp [results, Tryd.results21, go_sem, r0, r1, r2]) rfl ⟨rfl, below_made3 hb3 (by omega) _ _ _⟩
  · have KV := Lib.hid (fun w' (hb : Below W.heap.size W w') => rTVal_no (c := c) w' (hl.below hb) hs hM)
    clear hl hM s1 hs hno
    go_enter Tryd.func21, Tryd.ntmps21
    go_wp2_with fail
    refine (KV.out _ hb0).mono ?_
    rintro e w1 ⟨rfl, hb⟩
    have hR3 := (hR.on hb).on (box_below w1 (.cells #[.slice none 0 0, .slice none 0 0] 25))
    have hb3 := (hb0.trans (hb.mono hb0.size)).alloc (Nat.le_trans hb0.size hb.size) (.cells #[.slice none 0 0, .slice none 0 0] 25)
    clear hR hb0 hb
    have y0 := hR3.c0
    have y1 := hR3.c1
    have y2 := hR3.c2
    have f0 := hR3.f 0
    have f1 := hR3.f 1
    have f2 := hR3.f 2
    go_wp2_with fail
    have hB4 := hR3.set 0 none 0 0 ⟨#[]⟩
    have r0 := hB4.c0
    have r1 := hB4.c1
    have r2 := hB4.c2
    exact bodyPost_ret (v := .tuple #[.agg #[.int .i64 0, .slice none 0 0, .string ⟨#[]⟩], .bool false]) (by simp [results, Tryd.results21, go_sem, r0, r1, r2]) rfl ⟨rfl, below_made3 hb3 (by omega) _ _ _⟩
set_option maxRecDepth 10000 in
set_option maxHeartbeats 3200000 in
theorem rTTo_unfit {w w2 : Int} {a : Option Addr} {n c b b2 m j0 : Nat} {l : List Int} {s : ByteArray} (W : World) (hl : Sl W a n l) (hs : s.size ≤ 1000000) (hM : MayT w l s b m) (hw2 : Bw w2 b2) (hj0 : j0 < m) (hf : ∀ i, i < j0 → Fit (el s b i) w2) (hnf : ¬ Fit (el s b j0) w2) :
    Calls Tryd.prog 21 #[.agg #[.int .i64 w, .slice a n c, .string s], .int .i64 w2] W (TzEnd (.bool false) W) := by
  have KV := Lib.hid (fun w' (hb : Below W.heap.size W w') => rTVal_yes (c := c) w' (hl.below hb) hs hM)
  have KK := known_is w2
  rw [hw2.isW] at KK
  replace KK := Lib.hid KK
  have hm := hM.le
  have KI : ∀ k, k < j0 → RInIs (S (el s b k)) w2 true := fun k hk => by
    have h1 := (el_fit hM.bw hM.sz (show k < m by omega)).i64 hM.bw
    have := rin_any (el s b k) w2 (lim_i64 h1.1 h1.2)
    rwa [decide_eq_true (hf k hk)] at this
  replace KI := Lib.hid KI
  have KN : RInIs (S (el s b j0)) w2 false := by
    have h1 := (el_fit hM.bw hM.sz hj0).i64 hM.bw
    have := rin_any (el s b j0) w2 (lim_i64 h1.1 h1.2)
    rwa [decide_eq_false hnf] at this
  replace KN := Lib.hid KN
  have hA := ((Tx.new 33 W w a n c s).alloc (.cells #[.int .i64 0, .slice none 0 0, .string ⟨#[]⟩] 33))
  have s1 : (W.alloc (.cells #[.int .i64 w, .slice a n c, .string s] 33)).heap.size = W.heap.size + 1 := by simp
  have hR := Tx.new' 33 (W.alloc (.cells #[.int .i64 w, .slice a n c, .string s] 33)) s1.symm 0 none 0 0 ⟨#[]⟩
  have hb0 := (box_below W (.cells #[.int .i64 w, .slice a n c, .string s] 33)).alloc (by omega) (.cells #[.int .i64 0, .slice none 0 0, .string ⟨#[]⟩] 33)
  clear hl hM s1 hs hw2 hf hnf
  go_enter Tryd.func21, Tryd.ntmps21
  go_wp2_with fail
  refine (KV.out _ hb0).mono ?_
  rintro e w1 ⟨av, d, rfl, hT, hb⟩
  have hbl := box_below w1 (.cells #[.slice a n c, .slice av m d] 25)
  have hR1 := (hR.on hb).on hbl
  have hV1 := Bx.new w1 a n c av m d
  have hT1 := hT.below hbl
  have hb1 := (hb0.trans (hb.mono hb0.size)).alloc (Nat.le_trans hb0.size hb.size) (.cells #[.slice a n c, .slice av m d] 25)
  clear hA hR hb0 hb hbl hT
  go_wp2_with fail
  refine (KK.out _).mono ?_
  rintro e w2' ⟨rfl, rfl⟩
  go_wp2_with fail
  go_loopw [8] (fun iv wr => ∃ k : Nat, iv = .int .i64 k ∧ k ≤ j0 ∧ Tx 33 wr (W.heap.size + 1) 0 none 0 0 ⟨#[]⟩ ∧ Bx wr w1.heap.size a n c av m d ∧ St wr av m (txs (el s b) m) ∧ Below W.heap.size W wr) (fun iv _ => m - (intOf iv).toNat)
  case atStart => exact ⟨0, rfl, by omega, hR1, hV1, hT1, hb1⟩
  case round =>
    obtain ⟨k, rfl, hk, hR2, hV2, hT2, hb2⟩ := hrel
    clear hR1 hV1 hT1 hb1
    have x0 := hV2.c0
    have x1 := hV2.c1
    have hltm : k < m := by omega
    have e2 : (k : Int) < (m : Int) := by omega
    obtain ⟨gb, off, rfl, hc⟩ := hT2.2 (by omega)
    have hck := hc k hltm
    rw [txs_get hltm] at hck
    clear hc
    have HT2 := Lib.hid hT2
    clear hT2
    by_cases hlt : k < j0
    · have KIk := Lib.hid (KI.out k hlt)
      generalize S (el s b k) = sx at hck KIk
      go_wp2_with fail
      refine (KIk.out _).mono ?_
      rintro e w4 ⟨rfl, hb⟩
      have hR3 := hR2.on hb
      have hV3 := hV2.below hb hV2.lt
      have hT3 := HT2.out.below hb
      have hb3 := hb2.trans (hb.mono hb2.size)
      clear hR2 hV2 hb2 hb x0 x1 hck
      go_wp2_with fail
      refine ⟨⟨k + 1, by go_num, by omega, hR3, hV3, hT3, hb3⟩, by simp [intOf]; omega⟩
    · obtain rfl : k = j0 := by omega
      generalize S (el s b k) = sx at hck KN
      go_wp2_with fail
      refine (KN.out _).mono ?_
      rintro e w4 ⟨rfl, hb⟩
      have hR3 := hR2.on hb
      have hb3 := hb2.trans (hb.mono hb2.size)
      have y0 := hR3.c0
      have y1 := hR3.c1
      have y2 := hR3.c2
      have f0 := hR3.f 0
      have f1 := hR3.f 1
      have f2 := hR3.f 2
      clear hR2 hV2 hb2 hb x0 x1 hck
      go_wp2_with fail
      have hB4 := hR3.set 0 none 0 0 ⟨#[]⟩
      have r0 := hB4.c0
      have r1 := hB4.c1
      have r2 := hB4.c2
      exact bodyPost_ret (v := .tuple #[.agg #[.int .i64 0, .slice none 0 0, .string ⟨#[]⟩], .bool false]) (by simp [results, Tryd.results21, go_sem, r0, r1, r2]) rfl ⟨rfl, below_made3 hb3 (by omega) _ _ _⟩
/-! ### Both answers are one -/
def AtB (W : World) (f : FuncId) (t : Value) (i v : Int) (p : Bool) : Prop := ∀ w', Below W.heap.size W w' → Calls Tryd.prog f #[t, .int .i64 i] w' (AtEnd v p w')
def ValB (W : World) (f : FuncId) (t : Value) (l : List Int) (es : List ByteArray) (p : Bool) : Prop := ∀ w', Below W.heap.size W w' → Calls Tryd.prog f #[t] w' fun e W' =>
  ∃ a n c b m d, e = .returned (.tuple #[.agg #[.slice a n c, .slice b m d], .bool p]) ∧ Vl W' a n b m l es ∧ n ≤ 20 ∧ Below w'.heap.size w' W'
def ToB (W : World) (f : FuncId) (t : Value) (w2 w : Int) (l : List Int) (s : ByteArray) (p : Bool) : Prop := ∀ w', Below W.heap.size W w' → Calls Tryd.prog f #[t, .int .i64 w2] w' fun e W' =>
  ∃ a n c, e = .returned (.tuple #[.agg #[.int .i64 w, .slice a n c, .string s], .bool p]) ∧ Sl W' a n l ∧ n ≤ 20 ∧ Below w'.heap.size w' W'
section
variable {w i w2 : Int} {a : Option Addr} {n c : Nat} {l : List Int} {s : ByteArray} {W : World}
theorem at_both (hl : Sl W a n l) (ht : WT W) (hs : s.size ≤ 2400) : ∃ v p, AtB W 16 (.agg #[.int .i64 w, .slice a n c, .string s]) i v p ∧ AtB W 17 (.agg #[.int .i64 w, .slice a n c, .string s]) i v p := by
  have hsm : s.size ≤ maxLen := by unfold maxLen; omega
  rcases Bool.eq_false_or_eq_true (mayT w l s) with hM | hM
  · obtain ⟨b, m, hM'⟩ := mayT_yes.1 hM
    by_cases hi : 0 ≤ i ∧ i < (m : Int)
    · obtain ⟨j, rfl⟩ := Int.eq_ofNat_of_zero_le hi.1
      exact ⟨el s b j, true, fun w' hb => TAt_yes w' (hl.below hb) (ht.below hb).wid hsm hM' (by omega), fun w' hb => rTAt_yes w' (hl.below hb) (by omega) hM' (by omega)⟩
    · have ho : i < 0 ∨ tm w l s ≤ i := by rw [hM'.tm]; omega
      exact ⟨0, false, fun w' hb => TAt_no w' (hl.below hb) (ht.below hb).wid hsm ho, fun w' hb => rTAt_no w' (hl.below hb) (by omega) (.inr ho)⟩
  · have ho : i < 0 ∨ tm w l s ≤ i := by rw [tm_no hM]; omega
    exact ⟨0, false, fun w' hb => TAt_no w' (hl.below hb) (ht.below hb).wid hsm ho, fun w' hb => rTAt_no w' (hl.below hb) (by omega) (.inl hM)⟩
theorem val_both (hl : Sl W a n l) (hn : n ≤ 20) (ht : WT W) (hs : s.size ≤ 2400) : ∃ k es p, ValB W 18 (.agg #[.int .i64 w, .slice a n c, .string s]) k es p ∧ ValB W 19 (.agg #[.int .i64 w, .slice a n c, .string s]) k es p := by
  have hsm : s.size ≤ maxLen := by unfold maxLen; omega
  rcases Bool.eq_false_or_eq_true (mayT w l s) with hM | hM
  · obtain ⟨b, m, hM'⟩ := mayT_yes.1 hM
    have hm := hM'.le
    refine ⟨l, txs (el s b) m, true, fun w' hb => TVal_yes w' (hl.below hb) hn (ht.below hb) hsm hM', fun w' hb => (rTVal_yes w' (hl.below hb) (by omega) hM').mono ?_⟩
    rintro e W' ⟨av, d, rfl, hT, hb'⟩
    exact ⟨a, n, c, av, m, d, rfl, ⟨(hl.below hb).below hb', hT, by omega⟩, hn, hb'⟩
  · refine ⟨[], [], false, fun w' hb => (TVal_no w' (hl.below hb) (ht.below hb).wid hsm hM).mono ?_, fun w' hb => (rTVal_no w' (hl.below hb) (by omega) hM).mono ?_⟩
    · rintro e W' ⟨rfl, hb'⟩
      exact ⟨none, 0, 0, none, 0, 0, rfl, Vl.none_ _, by omega, hb'⟩
    · rintro e W' ⟨rfl, hb'⟩
      exact ⟨none, 0, 0, none, 0, 0, rfl, Vl.none_ _, by omega, hb'⟩
theorem tz_to {f : FuncId} {t : Value} (h : ∀ w', Below W.heap.size W w' → Calls Tryd.prog f #[t, .int .i64 w2] w' (TzEnd (.bool false) w')) : ToB W f t w2 0 [] ⟨#[]⟩ false := fun w' hb => (h w' hb).mono fun e W' ⟨h1, h2⟩ => ⟨none, 0, 0, h1, Sl.nil _ _, by omega, h2⟩
theorem to_both (hl : Sl W a n l) (hn : n ≤ 20) (ht : WT W) (hs : s.size ≤ 2400) : ∃ w' k s' p, ToB W 20 (.agg #[.int .i64 w, .slice a n c, .string s]) w2 w' k s' p ∧ ToB W 21 (.agg #[.int .i64 w, .slice a n c, .string s]) w2 w' k s' p := by
  have hsm : s.size ≤ maxLen := by unfold maxLen; omega
  rcases Bool.eq_false_or_eq_true (mayT w l s) with hM | hM
  · obtain ⟨b, m, hM'⟩ := mayT_yes.1 hM
    rcases Bool.eq_false_or_eq_true (isW w2) with hw | hw
    · obtain ⟨b2, hb2⟩ := isW_yes.1 hw
      by_cases hf : ∀ i, i < m → Fit (el s b i) w2
      · refine ⟨w2, l, Eb b2 (el s b) m, true, fun w' hb => TTo_yes w' (hl.below hb) hn (ht.below hb).wid hsm hM' hb2 hf, fun w' hb => (rTTo_yes w' (hl.below hb) (by omega) hM' hb2 hf).mono ?_⟩
        rintro e W' ⟨rfl, hb'⟩
        exact ⟨a, n, c, rfl, (hl.below hb).below hb', hn, hb'⟩
      · obtain ⟨j0, h1, h2, h3⟩ := first_no (p := fun i => Fit (el s b i) w2) (m := m) (Classical.byContradiction fun hh => hf fun i hi => Classical.byContradiction fun h5 => hh ⟨i, hi, h5⟩)
        exact ⟨0, [], ⟨#[]⟩, false, tz_to fun w' hb => TTo_unfit w' (hl.below hb) hn (ht.below hb).wid hsm hM' hb2 h1 h2 h3, tz_to fun w' hb => rTTo_unfit w' (hl.below hb) (by omega) hM' hb2 h1 h2 h3⟩
    · exact ⟨0, [], ⟨#[]⟩, false, tz_to fun w' hb => TTo_no w' (hl.below hb) (ht.below hb).wid hsm (.inl hw), tz_to fun w' hb => rTTo_no w' (hl.below hb) (by omega) (.inl hw)⟩
  · exact ⟨0, [], ⟨#[]⟩, false, tz_to fun w' hb => TTo_no w' (hl.below hb) (ht.below hb).wid hsm (.inr hM), tz_to fun w' hb => rTTo_no w' (hl.below hb) (by omega) (.inr hM)⟩
end
end Go.Proofs.YtdehcdnbalbdbaaDoor

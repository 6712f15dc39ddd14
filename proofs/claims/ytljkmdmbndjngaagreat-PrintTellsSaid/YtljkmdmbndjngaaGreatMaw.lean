import Derived.Test.YtljkmdmbndjngaaGreatMar
import Derived.Laws.MakeOwn
import Derived.BigRegion
import Derived.BigQuiet
import Derived.Test.YtljkmdmbndjngaaGreatMaq
import Derived.Deep.RegionHeld3
import Derived.Deep.DeepCutAuto
import Derived.Deep.RegionWith
import Derived.Deep.QuietTactic
import Derived.RegionTactic
/-
  The parser's sound: of parts as Lex tells them, the same parts.
-/
namespace Go.Proofs.YtljkmdmbndjngaaGreat
set_option linter.unusedVariables false
set_option linter.unusedSimpArgs false
open Go.RowKit

theorem infoTok : (Tryz.prog.info? 80).map (fun i => (i.zero, i.size, i.bytes)) = some (some (.agg #[.int .i64 0, .string ⟨#[]⟩, .int .i64 0]), 3, 32) := by kernel_rfl
/-- Cells of a row of parts, of which the first are there. -/
def Fst (ts : List Tk) (n k : Nat) (cs : List Value) : Prop := cs.length = n * 3 ∧ ∀ j, j < k → cs[j * 3]? = some (.int .i64 (rtk ts j).k) ∧ cs[j * 3 + 1]? = some (.string (rtk ts j).x) ∧ cs[j * 3 + 2]? = some (.int .i64 (rtk ts j).p)
theorem Fst.step {ts : List Tk} {n k : Nat} {cs : List Value} (h : Fst ts n k cs) (hk : k < n) : Fst ts n (k + 1) (((cs.set (k * 3) (.int .i64 (rtk ts k).k)).set (k * 3 + 1) (.string (rtk ts k).x)).set (k * 3 + 2) (.int .i64 (rtk ts k).p)) := by
  have hl := h.1
  refine ⟨by simp [hl], fun j hj => ?_⟩
  simp only [List.getElem?_set, List.length_set, hl]
  by_cases hjk : j = k
  · subst hjk
    refine ⟨?_, ?_, ?_⟩
    · rw [if_neg (by omega), if_neg (by omega), if_pos rfl, if_pos (by omega)]
    · rw [if_neg (by omega), if_pos rfl, if_pos (by omega)]
    · rw [if_pos rfl, if_pos (by omega)]
  · obtain ⟨h1, h2, h3⟩ := h.2 j (by omega)
    refine ⟨?_, ?_, ?_⟩
    · rw [if_neg (by omega), if_neg (by omega), if_neg (by omega)]; exact h1
    · rw [if_neg (by omega), if_neg (by omega), if_neg (by omega)]; exact h2
    · rw [if_neg (by omega), if_neg (by omega), if_neg (by omega)]; exact h3
theorem Fst.pq {ts : List Tk} {W : World} {g n : Nat} {cs : List Value} (h : Fst ts n n cs) (hn : n = ts.length) (hB : Bk 80 W g cs) : Pq W (some ⟨g, 0, none⟩) ts := by
  refine ⟨fun _ => ⟨g, 0, rfl, fun j hj => ?_⟩, fun _ => ⟨g, 0, _, _, rfl, hB⟩⟩
  obtain ⟨h1, h2, h3⟩ := h.2 j (by omega)
  rw [Nat.zero_add]
  exact ⟨(hB.c _).trans h1, (hB.c _).trans h2, (hB.c _).trans h3⟩
set_option maxRecDepth 10000 in
set_option maxHeartbeats 6400000 in
theorem sound_is (ts : List Tk) (hP : Pall ts) (a : Option Addr) (n c : Nat) (W : World) (h : Qs W a n (rtk ts)) (hn : n = ts.length) (hm : n ≤ 300) :
    Calls Tryz.prog 59 #[.slice a n c] W (fun e W' => ∃ g, e = .returned (.slice (some ⟨g, 0, none⟩) n n) ∧ Pq W' (some ⟨g, 0, none⟩) ts ∧ Below W.heap.size W W') := by
  obtain ⟨i0, hi0, hz0, hz1, hz2⟩ := info_parts infoTok
  have hmake := run_make (P := Tryz.prog) W 61 80 i0 (.agg #[.int .i64 0, .string ⟨#[]⟩, .int .i64 0]) Tryz.underlying61 hi0 hz0 .i64 .i64 (n : Int) (n : Int) (by omega) (Int.le_refl _) (by rw [hz2]; omega) (by omega)
  rw [hz1, Int.toNat_natCast] at hmake
  obtain ⟨cs0, hcs0⟩ : ∃ cs0, cs0 = madeCells (Value.agg #[.int .i64 0, .string ⟨#[]⟩, .int .i64 0]).cells (n * 3) := ⟨_, rfl⟩
  rw [← hcs0] at hmake
  have hF0 : Fst ts n 0 cs0.toList := ⟨by rw [Array.length_toList, hcs0, size_madeCells], fun j hj => by omega⟩
  have hB0 : Bk 80 (W.alloc (.cells cs0 80)) W.heap.size cs0.toList := by
    have := Bk.new 80 W cs0.toList
    rwa [Array.toArray_toList] at this
  have hb0 := box_below W (.cells cs0 80)
  have HQ := Lib.hid h
  have HB0 := Lib.hid (show ∃ cs, Bk 80 (W.alloc (.cells cs0 80)) W.heap.size cs ∧ Fst ts n 0 cs from ⟨_, hB0, hF0⟩)
  have Hb0 := Lib.hid hb0
  have HN := Lib.hid hn
  clear h hcs0 hF0 hB0 hb0 hn
  go_enter Tryz.func59, Tryz.ntmps59
  go_wp2_with fail
  clear hmake
  go_loopw [14] (fun iv wr => ∃ k : Nat, iv = .int .i64 k ∧ k ≤ n ∧ (∃ cs, Bk 80 wr W.heap.size cs ∧ Fst ts n k cs) ∧ Below W.heap.size W wr) (fun iv _ => n - (intOf iv).toNat)
  case atStart => exact ⟨0, rfl, Nat.zero_le _, HB0.out, Hb0.out⟩
  case round =>
    clear HB0 Hb0
    obtain ⟨k, rfl, hk, ⟨cs, hB, hF⟩, hb⟩ := hrel
    by_cases hlt : k < n
    · obtain ⟨t, ht⟩ : ∃ t, ts[k]? = some t := ⟨_, List.getElem?_eq_getElem (by have := HN.out; omega)⟩
      obtain ⟨b, off, rfl, hc⟩ := HQ.out (by omega)
      obtain ⟨ck, cx, cp⟩ := hc k hlt
      have hst := hF.step hlt
      rw [rtk_at ht] at ck cx cp hst
      have hbW : b < W.heap.size := World.block_lt_of_cell? W _ ck
      have hpk : t.pk ∈ pks ts := List.mem_map.2 ⟨t, List.mem_of_getElem? ht, rfl⟩
      obtain ⟨⟨k9, hk9, hrun⟩, hl9⟩ := hP t.pk hpk
      have hk9 : t.kind = k9 := by have : (t.kind : Int) = (k9 : Int) := hk9; omega
      subst hk9
      have hrun : Run numB t.text 0 [⟨t.kind, t.text, 0⟩] none := hrun
      have hl9 : t.text.length ≤ 256 := hl9
      have KL := Lib.hid (fun w => lex_is (tx t.text) (by rw [tx_size]; exact hl9) [⟨t.kind, t.text, 0⟩] none (by rw [tx_list]; exact hrun) w)
      obtain ⟨T, hT⟩ : ∃ T, T = tx t.text := ⟨_, rfl⟩
      obtain ⟨kd, hkd⟩ : ∃ kd : Int, kd = (t.kind : Int) := ⟨_, rfl⟩
      obtain ⟨pp, hpp⟩ : ∃ pp : Int, pp = (t.at_ : Int) := ⟨_, rfl⟩
      replace KL := Lib.hid (show ∀ w, Calls Tryz.prog 37 #[.string T] w (fun e W' => ∃ b9 off9 c9, e = .returned (.tuple #[.slice (some ⟨b9, off9, none⟩) 1 c9, .int .i64 0, .int .i64 0]) ∧ W'.cell? ⟨b9, off9, none⟩ = some (.int .i64 kd) ∧ W'.cell? ⟨b9, off9 + 1, none⟩ = some (.string T) ∧ Below w.heap.size w W') from fun w => by
        rw [hT]
        refine (KL.out w).mono ?_
        rintro e W' ⟨a9, c9, rfl, _, hq9, hb9⟩
        obtain ⟨b9, off9, rfl, hc9⟩ := hq9 (by simp)
        have hc9 := hc9 0 (by simp)
        rw [Nat.zero_mul, Nat.add_zero] at hc9
        exact ⟨b9, off9, c9, rfl, hc9.1.trans (by rw [hkd]; rfl), hc9.2.1, hb9⟩)
      replace ck := (hb.cell (p := ⟨b, off + k * 3, none⟩) hbW).trans ck
      replace cx := (hb.cell (p := ⟨b, off + k * 3 + 1, none⟩) hbW).trans cx
      replace cp := (hb.cell (p := ⟨b, off + k * 3 + 2, none⟩) hbW).trans cp
      simp only at ck cx cp hst
      rw [← hkd] at ck hst
      rw [← hT] at cx hst
      rw [← hpp] at cp hst
      have hbx := box_below wr (.cells #[.int .i64 kd, .string T, .int .i64 pp] 80)
      have hX := Bk.new 80 wr [.int .i64 kd, .string T, .int .i64 pp]
      have HX := Lib.hid hX
      have HBX := Lib.hid (hB.below hbx hB.lt)
      have HST := Lib.hid hst
      have HFL := Lib.hid hF.1
      have HBB := Lib.hid (hb.alloc hb.size (.cells #[.int .i64 kd, .string T, .int .i64 pp] 80))
      have hgx : W.heap.size < wr.heap.size := hB.lt
      have e2 : (k : Int) < (n : Int) := by omega
      have hx1 := hX.p1
      clear hB hF hst hc hb hbx hX hT hkd hpp hpk hrun ht hl9
      go_upto_region 5 with fail
      generalize wr.alloc (.cells #[.int .i64 kd, .string T, .int .i64 pp] 80) = w1 at *
      clear ck cx cp
      go_wp2_with fail
      refine (KL.out w1).mono ?_
      rintro e w2 ⟨b9, off9, c9, rfl, g0, g1, hb2⟩
      have hX2 := HX.out.on hb2
      have HX2 := Lib.hid hX2
      have HB2 := Lib.hid (HBX.out.on hb2)
      have HBB2 := Lib.hid (HBB.out.trans (hb2.mono HBB.out.size))
      have x0 := hX2.p0
      have x1 := hX2.p1
      have i1 : (0 : Int) < 1 := by decide
      clear hb2 hX2 HX HBX HBB hx1 KL
      go_wp2_with fail
      go_quiet (fail)
      have HX3 := Lib.hid (HX2.out.drewN nq)
      have HB3 := Lib.hid (HB2.out.drewN nq)
      have HBB3 := Lib.hid (below_drewN HBB2.out nq)
      clear g0 g1 x0 x1 HX2 HB2 HBB2
      generalize w2.drewN nq = w3 at *
      have x0 := HX3.out.p0
      have x1 := HX3.out.p1
      have x2 := HX3.out.p2
      have hcl : ∀ j, j < 3 → ∃ u, w3.cell? ⟨W.heap.size, k * 3 + j, none⟩ = some u := fun j hj => by
        rw [HB3.out.c]
        exact ⟨_, List.getElem?_eq_getElem (by have := HFL.out; omega)⟩
      obtain ⟨u0, hu0⟩ := hcl 0 (by omega)
      obtain ⟨u1, hu1⟩ := hcl 1 (by omega)
      obtain ⟨u2, hu2⟩ := hcl 2 (by omega)
      rw [Nat.add_zero] at hu0
      have fz0 := HB3.out.f (k * 3)
      have fz1 := HB3.out.f (k * 3 + 1)
      have fz2 := HB3.out.f (k * 3 + 2)
      have w9 : IntKind.i64.wrap ((k : Int) + 1) = (k : Int) + 1 := wrn (by omega) (by omega)
      clear hcl
      go_wp2_with fail
      have hB4 := ((HB3.out.set (k * 3) (.int .i64 kd)).set (k * 3 + 1) (.string T)).set (k * 3 + 2) (.int .i64 pp)
      have hb4 := ((HBB3.out.setCell (p := ⟨W.heap.size, k * 3, none⟩) (Nat.le_refl _) (.int .i64 kd)).setCell (p := ⟨W.heap.size, k * 3 + 1, none⟩) (Nat.le_refl _) (.string T)).setCell (p := ⟨W.heap.size, k * 3 + 2, none⟩) (Nat.le_refl _) (.int .i64 pp)
      refine ⟨⟨k + 1, by go_num, by omega, ⟨_, hB4, HST.out⟩, hb4⟩, by simp [intOf]; omega⟩
    · obtain rfl : k = n := by omega
      have e2 : ¬ (k : Int) < (k : Int) := by omega
      have HFIN := Lib.hid (⟨hF.pq HN.out hB, hb⟩ : Pq wr (some ⟨W.heap.size, 0, none⟩) ts ∧ Below W.heap.size W wr)
      clear hB hF hb hlt
      go_wp2_with fail
      go_ret
      exact ⟨_, rfl, HFIN.out⟩
end Go.Proofs.YtljkmdmbndjngaaGreat
/-
  The reference's term.
-/
namespace Go.Proofs.YtljkmdmbndjngaaGreat
set_option linter.unusedVariables false
set_option linter.unusedSimpArgs false
open Go.RowKit

theorem brk_inv {M : List UInt8 → List UInt8} {L : List Tn} {l r : List Pk} {x : Option (List Tn)} (h : Rd' M (.brk L) l x r) :
    (¬ isMk 91 l ∧ x = some L ∧ r = l) ∨ (isMk 91 l ∧ x = none ∧ Rd' M (.cl 93) l.tail none r) ∨ ∃ I r1, isMk 91 l ∧ Rd' M (.cl 93) l.tail (some I) r1 ∧ Rd' M (.brk (⟨8, [], [], [], []⟩ :: (L ++ I))) r1 x r := by
  cases h with
  | b_end h => exact .inl ⟨h, rfl, rfl⟩
  | b_bad h ht h1 => exact .inr (.inl ⟨⟨h, ht⟩, rfl, h1⟩)
  | b_is h ht h1 h2 => exact .inr (.inr ⟨_, _, ⟨h, ht⟩, h1, h2⟩)
theorem node_base {B : Nat} {wb w : World} {args : Array Value} {L : List Tn} (hb : Below wb.heap.size wb w) (h : Calls Tryz.prog 84 args w (NlEnd B L w)) :
    Calls Tryz.prog 84 args w fun e W' => ∃ a n c, e = .returned (.slice a n c) ∧ Nl B W' a n c L ∧ Below wb.heap.size wb W' :=
  h.mono fun _ _ ⟨a, n, c, h1, h2, h3⟩ => ⟨a, n, c, h1, h2, hb.trans (h3.mono hb.size)⟩
/-- A head alone. -/
def headN (k : Int) (x : ByteArray) : Nd := ⟨k, ⟨#[]⟩, ⟨#[]⟩, x, none, 0, 0, []⟩
theorem headN_on (k : Int) (x : ByteArray) (W : World) (h : x.size ≤ maxLen) (h0 : 0 ≤ k) (h1 : k ≤ 10) : (headN k x).on W := ⟨St.nil _ _, Nat.le_refl _, Nat.zero_le _, (by omega : (-9223372036854775808 : Int) ≤ k), (by omega : k ≤ 9223372036854775807), Nat.zero_le _, Nat.zero_le _, h, fun s hs => by cases hs⟩
theorem Nl.drew {B : Nat} {W : World} {a : Option Addr} {n c : Nat} {L : List Tn} (h : Nl B W a n c L) : Nl B W.drew a n c L := h.below ((Below.refl _ W).drew)
set_option maxRecDepth 10000 in
set_option maxHeartbeats 6400000 in
theorem term_is (ts : List Tk) (i : Nat) (a : Option Addr) (n c : Nat) (W : World) (x : Option (List Tn)) (r : List Pk) (h : Qs W a n (rtk ts)) (hn : n = ts.length) (hm : n ≤ 300) (hi : i ≤ n) (hf : Few ts) (HC : ClosedBehind ts i) (hR : Rd' numT .term ((pks ts).drop i) x r) :
    Calls Tryz.prog 105 #[.slice a n c, .int .i64 i] W (GtEnd x (n - r.length) W) := by
  have hb0 := box_below W (.cells #[.slice none 0 0, .int .i64 0, .bool false] 87)
  have hB := Bk.new 87 W [.slice none 0 0, .int .i64 0, .bool false]
  have hl : (pks ts).length = n := by rw [pks_len, hn]
  obtain ⟨x1, r1, h1, hx1⟩ : ∃ x1 r1, Rd' numT .atom ((pks ts).drop i) x1 r1 ∧ ((x1 = none ∧ x = none ∧ r = r1) ∨ ∃ L, x1 = some L ∧ Rd' numT (.brk L) r1 x r) := by
    cases hR with
    | t_bad h1 => exact ⟨none, _, h1, .inl ⟨rfl, rfl, rfl⟩⟩
    | t_is h1 h2 => exact ⟨_, _, h1, .inr ⟨_, rfl, h2⟩⟩
  have K1 := Lib.hid (atom_is ts i a n c (W.alloc (.cells #[.slice none 0 0, .int .i64 0, .bool false] 87)) x1 r1 (h.below hb0) hn hm hi hf HC h1)
  obtain ⟨e1, hj1⟩ := suf_drop h1.suffix (by omega)
  rw [hl] at e1 hj1
  have hfew : ∀ L, x1 = some L → L.length ≤ n - r1.length := by
    intro L hL
    have := h1.few L hL
    rw [List.length_drop, hl] at this
    simp only [Rl.many] at this
    omega
  obtain ⟨p1, hp1⟩ : ∃ p1, p1 = n - r1.length := ⟨_, rfl⟩
  obtain ⟨p, hp⟩ : ∃ p, p = n - r.length := ⟨_, rfl⟩
  rw [← hp1] at K1 e1 hj1 hfew
  rw [← hp]
  have hp1n : p1 ≤ n := by omega
  rw [e1] at hx1
  have HX := Lib.hid hx1
  have HF := Lib.hid hfew
  have HP := Lib.hid (⟨hp, hp1⟩ : p = n - r.length ∧ p1 = n - r1.length)
  have HL := Lib.hid hl
  have HQ := Lib.hid h
  have HN := Lib.hid hn
  have HB := Lib.hid hB
  have HB0 := Lib.hid hb0
  have KM := Lib.hid (fun w (hb : Below W.heap.size W w) (j : Nat) => rmark_is ts a n c w (h.below hb) hn (by omega) j ⟨#[91]⟩)
  have KC := Lib.hid (fun w (hb : Below W.heap.size W w) (j : Nat) x2 r2 (hj : i < j) (hj2 : j ≤ n) h2 => HC j 93 a n c w x2 r2 hj (h.below hb) hn hm hj2 h2)
  clear hx1 hfew hp hp1 hl h hn hB hb0 e1 h1 hR HC
  go_enter Tryz.func105, Tryz.ntmps105
  go_wp2_with fail
  refine K1.out.mono ?_
  rintro e w1 ⟨a1, n1, c1, L1, rfl, hL1, hn1, hL1x, hb1⟩
  have hB1 := HB.out.on hb1
  have hbb1 := HB0.out.trans (hb1.mono HB0.out.size)
  have HL1 := Lib.hid (hL1.base HB0.out.size)
  have HLX := Lib.hid hL1x
  clear K1 HB HB0 hb1 hL1 hL1x
  go_wp2_with fail
  obtain ⟨g, hg⟩ : ∃ g, g = w1.heap.size := ⟨_, rfl⟩
  have hgB : W.heap.size < g := by have := hB1.lt; omega
  have hG := Bk.new' 87 w1 hg [.slice a1 n1 c1, .int .i64 p1, .bool x1.isSome]
  have hB2 := hB1.alloc (.cells #[.slice a1 n1 c1, .int .i64 p1, .bool x1.isSome] 87)
  have hbb2 := hbb1.alloc hbb1.size (.cells #[.slice a1 n1 c1, .int .i64 p1, .bool x1.isSome] 87)
  have HL2 := Lib.hid (HL1.out.below (box_below w1 (.cells #[.slice a1 n1 c1, .int .i64 p1, .bool x1.isSome] 87)))
  rw [← hg]
  go_loopw [6] (fun pv wr => ∃ (j : Nat) (aL : Option Addr) (nL cL : Nat) (ok : Bool) (L : List Tn), Bk 87 wr g [.slice aL nL cL, .int .i64 j, .bool ok] ∧ Bk 87 wr W.heap.size [.slice none 0 0, .int .i64 0, .bool false] ∧ Below W.heap.size W wr ∧ Nl W.heap.size wr aL nL cL L ∧ i ≤ j ∧ j ≤ n ∧ nL ≤ 1000 ∧ Hid ((ok = false ∧ x = none ∧ j = p) ∨ (ok = true ∧ Rd' numT (.brk L) ((pks ts).drop j) x r ∧ L.length ≤ j))) (fun pv w => n - (intOf ((w.cell? ⟨g, 1, none⟩).getD (.bool false))).toNat)
  case atStart =>
    refine ⟨p1, a1, n1, c1, x1.isSome, L1, hG, hB2, hbb2, HL2.out, hj1, hp1n, hn1, Lib.hid ?_⟩
    rcases HX.out with ⟨e1, e2, e3⟩ | ⟨L, e1, e2⟩
    · exact .inl ⟨by rw [e1]; rfl, e2, by rw [HP.out.1, e3, List.length_drop, HL.out]; omega⟩
    · have := HLX.out L e1
      subst this
      exact .inr ⟨by rw [e1]; rfl, e2, HF.out _ e1⟩
  case round =>
    clear hG hB2 hbb2 HL2 hg HL1 HLX hB1 hbb1 HX HF
    obtain ⟨j, aL, nL, cL, ok, L, hG, hB, hb, hL, hij, hjn, hnL, HI⟩ := hrel
    have hgW : g ≠ W.heap.size := by omega
    have g0 := hG.p0
    have g1 := hG.p1
    have g2 := hG.p2
    have f0 := hB.f 0
    have f1 := hB.f 1
    have f2 := hB.f 2
    have y0 := hB.p0
    have y1 := hB.p1
    have y2 := hB.p2
    rcases HI.out with ⟨rfl, rfl, rfl⟩ | ⟨rfl, hrd, hLj⟩
    · have HB := Lib.hid hB
      have HL2 := Lib.hid (hL.fill (a' := aL) (n' := nL) (c' := cL) (i' := (j : Int)) (b' := false) hB)
      have HB2 := Lib.hid hb
      clear hG hB hL hb HI
      go_wp2_with fail
      have hR := HB.out.set3 (.slice aL nL cL) (.int .i64 (j : Int)) (.bool false)
      have r0 := hR.p0
      have r1 := hR.p1
      have r2 := hR.p2
      exact bodyPost_ret (v := .agg #[.slice aL nL cL, .int .i64 (j : Int), .bool false]) (by simp [results, Tryz.results105, go_sem, r0, r1, r2]) rfl ⟨_, _, _, _, rfl, HL2.out, hnL, (fun X hX => by cases hX), below3 HB2.out (Nat.le_refl _) _ _ _⟩
    · have A1 := KM.out wr hb j
      replace A1 : Calls Tryz.prog 82 #[.slice a n c, .int .i64 j, .string ⟨#[91]⟩] wr (PureEnd (.bool (mkB ((pks ts).drop j) [91])) wr) := A1
      rcases brk_inv hrd with ⟨hno, rfl, hr⟩ | hyes
      · rw [mkB_no hno] at A1
        replace A1 := Lib.hid A1
        have hpj : p = j := by rw [HP.out.1, hr, List.length_drop, HL.out]; omega
        subst hpj
        have HB := Lib.hid hB
        have HL2 := Lib.hid (hL.fill (a' := aL) (n' := nL) (c' := cL) (i' := (p : Int)) (b' := true) hB)
        have HB2 := Lib.hid hb
        clear hG hB hL hb HI hrd hno hr
        go_wp2_with fail
        refine A1.out.mono ?_
        rintro e w2 ⟨rfl, rfl⟩
        go_wp2_with fail
        have hR := HB.out.set3 (.slice aL nL cL) (.int .i64 (p : Int)) (.bool true)
        have r0 := hR.p0
        have r1 := hR.p1
        have r2 := hR.p2
        exact bodyPost_ret (v := .agg #[.slice aL nL cL, .int .i64 (p : Int), .bool true]) (by simp [results, Tryz.results105, go_sem, r0, r1, r2]) rfl ⟨_, _, _, _, rfl, HL2.out, hnL, (fun X hX => by cases hX; rfl), below3 HB2.out (Nat.le_refl _) _ _ _⟩
      · obtain ⟨hmk, x2, r2, h2, hy⟩ : isMk 91 ((pks ts).drop j) ∧ ∃ x2 r2, Rd' numT (.cl 93) ((pks ts).drop (j + 1)) x2 r2 ∧ ((x2 = none ∧ x = none ∧ r = r2) ∨ ∃ I, x2 = some I ∧ Rd' numT (.brk (⟨8, [], [], [], []⟩ :: (L ++ I))) r2 x r) := by
          rcases hyes with ⟨h1, h2, h3⟩ | ⟨I, r1, h1, h3, h4⟩
          · exact ⟨h1, none, r, by rw [← List.drop_drop]; simpa using h3, .inl ⟨rfl, h2, rfl⟩⟩
          · exact ⟨h1, some I, r1, by rw [← List.drop_drop]; simpa using h3, .inr ⟨I, rfl, h4⟩⟩
        have hjn2 : j + 1 ≤ n := by
          rcases Nat.lt_or_ge j n with h | h
          · omega
          · rw [List.drop_eq_nil_of_le (by rw [HL.out]; exact h)] at hmk
            exact hmk.elim
        rw [mkB_yes.2 hmk] at A1
        replace A1 := Lib.hid A1
        obtain ⟨e2, hj2⟩ := suf_drop h2.suffix (by rw [HL.out]; exact hjn2)
        rw [HL.out] at e2 hj2
        have hfew : ∀ I, x2 = some I → L.length + I.length + 1 ≤ n - r2.length := by
          intro I hI
          have := h2.few I hI
          rw [List.length_drop, HL.out] at this
          simp only [Rl.many] at this
          omega
        have A2 := KC.out wr hb (j + 1) x2 r2 (by omega) hjn2 h2
        rw [Int.natCast_add] at A2
        replace A2 : Calls Tryz.prog 86 #[.slice a n c, .int .i64 ((j : Int) + 1), .string ⟨#[93]⟩] wr (GtEnd x2 (n - r2.length) wr) := A2
        obtain ⟨q, hq⟩ : ∃ q, q = n - r2.length := ⟨_, rfl⟩
        rw [← hq] at A2 e2 hj2 hfew
        rw [e2] at hy
        have hqn : q ≤ n := by omega
        replace A2 := Lib.hid A2
        have HY := Lib.hid hy
        have HF := Lib.hid hfew
        have HLL := Lib.hid hL
        have HG := Lib.hid hG
        have HB := Lib.hid hB
        have HBB := Lib.hid hb
        have HQ2 := Lib.hid hq
        have w5 : IntKind.i64.wrap ((j : Int) + 1) = (j : Int) + 1 := wrn (by omega) (by omega)
        clear hG hB hL hb HI hrd hyes hmk h2 hy e2 hfew hq f0 f1 f2 y0 y1 y2
        go_wp2_with fail
        refine A1.out.mono ?_
        rintro e w2 ⟨rfl, rfl⟩
        go_wp2_with fail
        refine A2.out.mono ?_
        rintro e w2 ⟨a2, n2, c2, L2, rfl, hL2, hn2, hx2, hb2⟩
        have hbb2 := HBB.out.trans (hb2.mono HBB.out.size)
        replace hL2 := hL2.base HBB.out.size
        have hGL : g < wr.heap.size := HG.out.lt
        obtain ⟨u, hu⟩ : ∃ u, u = w2.heap.size := ⟨_, rfl⟩
        have hgu : g < u := by have := hb2.size; omega
        rcases HY.out with ⟨rfl, rfl, hr⟩ | ⟨I, rfl, hrd⟩
        · have hqp : p = q := by rw [HP.out.1, hr, List.length_drop, HL.out]; omega
          subst hqp
          have hU := Bk.new' 87 w2 hu [.slice a2 n2 c2, .int .i64 p, .bool false]
          have hB3 := (HB.out.on hb2).alloc (.cells #[.slice a2 n2 c2, .int .i64 p, .bool false] 87)
          have hL3 := hL2.below (box_below w2 (.cells #[.slice a2 n2 c2, .int .i64 p, .bool false] 87))
          have HL3 := Lib.hid (hL3.fill (a' := a2) (n' := n2) (c' := c2) (i' := (p : Int)) (b' := false) hB3)
          have hb3 := hbb2.alloc hbb2.size (.cells #[.slice a2 n2 c2, .int .i64 p, .bool false] 87)
          have HB3 := Lib.hid hB3
          have HU := Lib.hid hU
          have HBB3 := Lib.hid hb3
          have f0 := hB3.f 0
          have f1 := hB3.f 1
          have f2 := hB3.f 2
          have y0 := hB3.p0
          have y1 := hB3.p1
          have y2 := hB3.p2
          have u0 := hU.p0
          have u1 := hU.p1
          have u2 := hU.p2
          have HUU := Lib.hid hu
          clear hU hB3 hL3 hb3 hbb2 hL2 hx2 hb2 hr g0 g1 g2 A1 A2 HY
          rw [Option.isSome_none]
          go_wp2_with fail
          have hR := HB3.out.set3 (.slice a2 n2 c2) (.int .i64 (p : Int)) (.bool false)
          have r0 := hR.p0
          have r1 := hR.p1
          have r2 := hR.p2
          exact bodyPost_ret (v := .agg #[.slice a2 n2 c2, .int .i64 (p : Int), .bool false]) (by simp [results, Tryz.results105, go_sem, r0, r1, r2]) rfl ⟨_, _, _, _, rfl, HL3.out, hn2, (fun X hX => by cases hX), below3 HBB3.out (Nat.le_refl _) _ _ _⟩
        · have g1W := g1
          clear g0 g1 g2
          obtain rfl : L2 = I := hx2 I rfl
          have hG3 := (HG.out.on hb2).alloc (.cells #[.slice a2 n2 c2, .int .i64 q, .bool true] 87)
          have hU := Bk.new' 87 w2 hu [.slice a2 n2 c2, .int .i64 q, .bool true]
          have hB3 := (HB.out.on hb2).alloc (.cells #[.slice a2 n2 c2, .int .i64 q, .bool true] 87)
          have hbx := box_below w2 (.cells #[.slice a2 n2 c2, .int .i64 q, .bool true] 87)
          have hL3 := hL2.below hbx
          have hLL3 := (HLL.out.below hb2).below hbx
          have hb3 := hbb2.alloc hbb2.size (.cells #[.slice a2 n2 c2, .int .i64 q, .bool true] 87)
          have g0 := hG3.p0
          have g1 := hG3.p1
          have g2 := hG3.p2
          have u0 := hU.p0
          have u1 := hU.p1
          have u2 := hU.p2
          obtain ⟨w3, hw3⟩ : ∃ w3, w3 = w2.alloc (.cells #[.slice a2 n2 c2, .int .i64 q, .bool true] 87) := ⟨_, rfl⟩
          rw [← hw3] at hG3 hU hB3 hL3 hLL3 hb3
          have HW3 := Lib.hid hw3
          have hWl : W.heap.size < w3.heap.size := hB3.lt
          have hnL2 : n2 ≤ 100000 := by omega
          have hnL1 : nL ≤ 100000 := by omega
          have KN := Lib.hid (fun w' (hb : Below w3.heap.size w3 w') => (node_base hb (by have := rnode_is W.heap.size (headN 8 ⟨#[]⟩) aL a2 none nL cL n2 c2 0 0 L L2 [] w' (Nat.le_trans (Nat.le_of_lt hWl) hb.size) rfl (headN_on 8 ⟨#[]⟩ w' (Nat.zero_le _) (by omega) (by omega)) (hLL3.below hb) (hL3.below hb) (Nl.nil _ _) hnL1 hnL2 (Nat.zero_le _); rw [List.append_nil] at this; exact this) : Calls Tryz.prog 84 #[.agg #[.int .i64 8, .string ⟨#[]⟩, .string ⟨#[]⟩, .string ⟨#[]⟩, .slice none 0 0], .slice aL nL cL, .slice a2 n2 c2, .slice none 0 0] w' fun e W' => ∃ a n c, e = .returned (.slice a n c) ∧ Nl W.heap.size W' a n c (⟨8, [], [], [], []⟩ :: (L ++ L2)) ∧ Below w3.heap.size w3 W'))
          have HG3 := Lib.hid hG3
          have HU3 := Lib.hid hU
          have HB3 := Lib.hid hB3
          have HBB3 := Lib.hid hb3
          have HRD := Lib.hid hrd
          have hgl : g < w3.heap.size := hG3.lt
          have hul : u < w3.heap.size := hU.lt
          have hlL := hLL3.len
          have hl2 := hL3.len
          have hcount := HF.out _ rfl
          have HUU := Lib.hid hu
          clear hG3 hU hB3 hbx hL3 hLL3 hb3 hw3 hbb2 hL2 hx2 hb2 hrd HY A1 A2 HG HB HLL HBB HF hu
          rw [Option.isSome_some]
          go_wp2_with fail
          have HW4 := HW3.out
          rw [← HW4] at g0 g1 g2 u0 u1 u2 ⊢
          rw [← HUU.out]
          clear HW4
          have hq : Below w3.heap.size w3 w3 := Below.refl _ _
          have q0 : ∀ w', Below w3.heap.size w3 w' → w'.cell? ⟨u, 0, none⟩ = some (.slice a2 n2 c2) := fun w' hb => (hb.cell (p := ⟨u, 0, none⟩) hul).trans u0
          have q1 : ∀ w', Below w3.heap.size w3 w' → w'.cell? ⟨u, 1, none⟩ = some (.int .i64 q) := fun w' hb => (hb.cell (p := ⟨u, 1, none⟩) hul).trans u1
          have HQ0 := Lib.hid q0
          have HQ1 := Lib.hid q1
          clear q0 q1
          go_region_with
            (first
              | (go_at_call 84; (with_reducible refine (KN.out _ (by repeat' (first | exact hq | refine Below.drew ?_))).mono ?_); rintro e wa ⟨a9, n9, c9, rfl, hN9, hq⟩; have hGa := HG3.out.below hq hgl; have fa0 := hGa.f 0; have fa1 := hGa.f 1; have fa2 := hGa.f 2; have ca0 := hGa.p0; have ca1 := hGa.p1; have ca2 := hGa.p2; have cu1 := HQ1.out _ hq))
          all_goals
            have hG9 := hGa.set3 (.slice a9 n9 c9) (.int .i64 (q : Int)) (.bool true)
            have hBa := (((HB3.out.below hq hWl).setOther (p := ⟨g, 0, none⟩) (show W.heap.size ≠ g by omega) (.slice a9 n9 c9)).setOther (p := ⟨g, 1, none⟩) (show W.heap.size ≠ g by omega) (.int .i64 (q : Int))).setOther (p := ⟨g, 2, none⟩) (show W.heap.size ≠ g by omega) (.bool true)
            have hN10 := hN9.fill (a' := a9) (n' := n9) (c' := c9) (i' := (q : Int)) (b' := true) hGa
            have hn9 := hN9.len
            have hb9 := below3 (HBB3.out.trans (hq.mono (Nat.le_of_lt hWl))) (show W.heap.size ≤ g by omega) (.slice a9 n9 c9) (.int .i64 (q : Int)) (.bool true)
            simp only [List.length_cons, List.length_append] at hn9
            have hlen : (⟨8, [], [], [], []⟩ :: (L ++ L2) : List Tn).length ≤ q := by simp only [List.length_cons, List.length_append]; omega
            have hn99 : n9 ≤ 1000 := by omega
            have c9' := hG9.p1
            have HG9 := Lib.hid hG9
            have HBA := Lib.hid hBa
            have HN10 := Lib.hid hN10
            have HB9 := Lib.hid hb9
            have HLE := Lib.hid hlen
            clear hG9 hBa hN10 hb9 hlen hn9 hN9 hGa fa0 fa1 fa2 ca0 ca1 ca2 cu1 hq g0 g1 g2 u0 u1 u2 hlL hl2
            generalize ((wa.setCell ⟨g, 0, none⟩ (.slice a9 n9 c9)).setCell ⟨g, 1, none⟩ (.int .i64 (q : Int))).setCell ⟨g, 2, none⟩ (.bool true) = wz at *
            go_wp2_with fail
            refine ⟨⟨q, a9, n9, c9, true, _, HG9.out, HBA.out, HB9.out, HN10.out, by omega, hqn, hn99, Lib.hid (.inr ⟨rfl, HRD.out, HLE.out⟩)⟩, ?_⟩
            rw [c9', g1W]
            simp [intOf]
            omega
end Go.Proofs.YtljkmdmbndjngaaGreat
/-
  The reference's closed, and verb.
-/
namespace Go.Proofs.YtljkmdmbndjngaaGreat
set_option linter.unusedVariables false
set_option linter.unusedSimpArgs false
open Go.RowKit

/-- expr, at a place. -/
def ExprAt (ts : List Tk) (i : Nat) : Prop := ∀ (a : Option Addr) (n c : Nat) (W : World) (x : Option (List Tn)) (r : List Pk), Qs W a n (rtk ts) → n = ts.length → n ≤ 300 → i ≤ n → Rd' numT .expr ((pks ts).drop i) x r →
    Calls Tryz.prog 83 #[.slice a n c, .int .i64 i] W (GtEnd x (n - r.length) W)
theorem cl_inv {M : List UInt8 → List UInt8} {ch : UInt8} {l r : List Pk} {x : Option (List Tn)} (h : Rd' M (.cl ch) l x r) :
    ∃ x1 r1, Rd' M .expr l x1 r1 ∧ ((x1 = none ∧ x = none ∧ r = r1) ∨ (∃ L, x1 = some L ∧ ¬ isMk ch r1 ∧ x = none ∧ r = r1) ∨ ∃ L, x1 = some L ∧ isMk ch r1 ∧ x = some L ∧ r = r1.tail) := by
  cases h with
  | c_bad h1 => exact ⟨_, _, h1, .inl ⟨rfl, rfl, rfl⟩⟩
  | c_not h1 h => exact ⟨_, _, h1, .inr (.inl ⟨_, rfl, h, rfl, rfl⟩)⟩
  | c_is h1 h ht => exact ⟨_, _, h1, .inr (.inr ⟨_, rfl, ⟨h, ht⟩, rfl, rfl⟩)⟩
set_option maxRecDepth 10000 in
set_option maxHeartbeats 3200000 in
theorem closed_is (ts : List Tk) (i : Nat) (ch : UInt8) (a : Option Addr) (n c : Nat) (W : World) (x : Option (List Tn)) (r : List Pk) (h : Qs W a n (rtk ts)) (hn : n = ts.length) (hm : n ≤ 300) (hi : i ≤ n) (HE : ExprAt ts i) (hR : Rd' numT (.cl ch) ((pks ts).drop i) x r) :
    Calls Tryz.prog 86 #[.slice a n c, .int .i64 i, .string ⟨#[ch]⟩] W (GtEnd x (n - r.length) W) := by
  have hb0 := box_below W (.cells #[.slice none 0 0, .int .i64 0, .bool false] 87)
  have hB := Bk.new 87 W [.slice none 0 0, .int .i64 0, .bool false]
  have hl : (pks ts).length = n := by rw [pks_len, hn]
  obtain ⟨x1, r1, h1, hx1⟩ := cl_inv hR
  have K1 := Lib.hid (HE a n c (W.alloc (.cells #[.slice none 0 0, .int .i64 0, .bool false] 87)) x1 r1 (h.below hb0) hn hm hi h1)
  obtain ⟨e1, hj1⟩ := suf_drop h1.suffix (by omega)
  rw [hl] at e1 hj1
  obtain ⟨p1, hp1⟩ : ∃ p1, p1 = n - r1.length := ⟨_, rfl⟩
  obtain ⟨p, hp⟩ : ∃ p, p = n - r.length := ⟨_, rfl⟩
  rw [← hp1] at K1 e1 hj1
  rw [← hp]
  have hp1n : p1 ≤ n := by omega
  have KM := fun w (hb : Below W.heap.size W w) => rmark_is ts a n c w (h.below hb) hn (by omega) p1 ⟨#[ch]⟩
  rw [← e1, show (ByteArray.mk #[ch]).data.toList = [ch] from rfl] at KM
  have HX := Lib.hid hx1
  have HP := Lib.hid (⟨hp, hp1⟩ : p = n - r.length ∧ p1 = n - r1.length)
  have HB := Lib.hid hB
  have HB0 := Lib.hid hb0
  have hrl : r1.length ≤ n := by have := h1.suffix.length_le; rw [List.length_drop] at this; omega
  have hlt : isMk ch r1 → p1 < n ∧ 1 ≤ r1.length ∧ r1.length ≤ n := by
    intro g
    cases r1 with
    | nil => exact g.elim
    | cons q l => simp only [List.length_cons] at hp1 hrl ⊢; omega
  have HLT := Lib.hid hlt
  have HE1 := Lib.hid e1
  have HL := Lib.hid hl
  replace KM := Lib.hid KM
  clear hx1 hp hp1 hl h hn hB hb0 e1 h1 hR HE hlt
  go_enter Tryz.func86, Tryz.ntmps86
  go_wp2_with fail
  refine K1.out.mono ?_
  rintro e w1 ⟨a1, n1, c1, L1, rfl, hL1, hn1, hL1x, hb1⟩
  have hB1 := HB.out.on hb1
  have hbb1 := HB0.out.trans (hb1.mono HB0.out.size)
  obtain ⟨g, hg⟩ : ∃ g, g = w1.heap.size := ⟨_, rfl⟩
  have hgB : W.heap.size < g := by have := hB1.lt; omega
  have hG := Bk.new' 87 w1 hg [.slice a1 n1 c1, .int .i64 p1, .bool x1.isSome]
  have hB2 := hB1.alloc (.cells #[.slice a1 n1 c1, .int .i64 p1, .bool x1.isSome] 87)
  have hbb2 := hbb1.alloc hbb1.size (.cells #[.slice a1 n1 c1, .int .i64 p1, .bool x1.isSome] 87)
  have hL2 := (hL1.base HB0.out.size).below (box_below w1 (.cells #[.slice a1 n1 c1, .int .i64 p1, .bool x1.isSome] 87))
  have HBB := Lib.hid hbb2
  have HB2 := Lib.hid hB2
  have g0 := hG.p0
  have g1 := hG.p1
  have g2 := hG.p2
  have f0 := hB2.f 0
  have f1 := hB2.f 1
  have f2 := hB2.f 2
  have y0 := hB2.p0
  have y1 := hB2.p1
  have y2 := hB2.p2
  have HG := Lib.hid hg
  rw [hg] at g0 g1 g2
  rcases HX.out with ⟨rfl, rfl, hr⟩ | ⟨L, rfl, hno, rfl, hr⟩ | ⟨L, rfl, hyes, rfl, hr⟩
  · have hpp : p = p1 := by rw [HP.out.1, HP.out.2, hr]
    subst hpp
    have HL3 := Lib.hid (hL2.fill (a' := a1) (n' := n1) (c' := c1) (i' := (p : Int)) (b' := false) hB2)
    clear HX K1 HB HB0 hb1 hL1 hL1x hL2 hB1 hbb1 hG hB2 hbb2 hr hg
    rw [Option.isSome_none] at *
    go_wp2_with fail
    have hR := HB2.out.set3 (.slice a1 n1 c1) (.int .i64 (p : Int)) (.bool false)
    have r0 := hR.p0
    have r1 := hR.p1
    have r2 := hR.p2
    exact bodyPost_ret (v := .agg #[.slice a1 n1 c1, .int .i64 (p : Int), .bool false]) (by simp [results, Tryz.results86, go_sem, r0, r1, r2]) rfl ⟨_, _, _, _, rfl, HL3.out, hn1, (fun X hX => by cases hX), below3 HBB.out (Nat.le_refl _) _ _ _⟩
  · have hpp : p = p1 := by rw [HP.out.1, HP.out.2, hr]
    subst hpp
    have K2 := KM.out _ hbb2
    rw [mkB_no hno] at K2
    replace K2 := Lib.hid K2
    clear HX K1 HB HB0 hb1 hL1 hL1x hL2 hB1 hbb1 hG hB2 hbb2 hr hg KM hno
    rw [Option.isSome_some] at *
    go_wp2_with fail
    refine K2.out.mono ?_
    rintro e w2 ⟨rfl, rfl⟩
    go_wp2_with fail
    have hR := HB2.out.set3 (.slice none 0 0) (.int .i64 (p : Int)) (.bool false)
    have r0 := hR.p0
    have r1 := hR.p1
    have r2 := hR.p2
    exact bodyPost_ret (v := .agg #[.slice none 0 0, .int .i64 (p : Int), .bool false]) (by simp [results, Tryz.results86, go_sem, r0, r1, r2]) rfl ⟨_, _, _, _, rfl, Nl.nil _ _, by omega, (fun X hX => by cases hX), below3 HBB.out (Nat.le_refl _) _ _ _⟩
  · have hpp : p = p1 + 1 := by
      have h9 := HLT.out hyes
      have e := HP.out.2
      have e2 := HP.out.1
      rw [hr, List.length_tail] at e2
      omega
    subst hpp
    have K2 := KM.out _ hbb2
    rw [mkB_yes.2 hyes] at K2
    replace K2 := Lib.hid K2
    obtain rfl : L1 = L := hL1x L rfl
    have hp3 := (HLT.out hyes).1
    have HL3 := Lib.hid (hL2.fill (a' := a1) (n' := n1) (c' := c1) (i' := (p1 : Int) + 1) (b' := true) hB2)
    clear HX K1 HB HB0 hb1 hL1 hL1x hL2 hB1 hbb1 hG hB2 hbb2 hr hg KM hyes
    rw [Option.isSome_some] at *
    go_wp2_with fail
    refine K2.out.mono ?_
    rintro e w2 ⟨rfl, rfl⟩
    go_wp2_with fail
    have hR := HB2.out.set3 (.slice a1 n1 c1) (.int .i64 ((p1 : Int) + 1)) (.bool true)
    have r0 := hR.p0
    have r1 := hR.p1
    have r2 := hR.p2
    exact bodyPost_ret (v := .agg #[.slice a1 n1 c1, .int .i64 ((p1 : Int) + 1), .bool true]) (by simp [results, Tryz.results86, go_sem, r0, r1, r2]) rfl ⟨_, _, _, _, rfl, HL3.out, hn1, (fun X hX => by cases hX; rfl), below3 HBB.out (Nat.le_refl _) _ _ _⟩
/-- What the reference's verb tells: a node, and what is below it so far. -/
def VbEnd (x : Option (List Tn)) (p : Nat) (W : World) (e : Ending) (W' : World) : Prop :=
  ∃ d a n c B, e = .returned (.tuple #[d.val, .agg #[.slice a n c, .int .i64 p, .bool x.isSome]]) ∧ d.on W' ∧ d.m = 0 ∧ Nl W.heap.size W' a n c B ∧ n ≤ 1000 ∧ (∀ V, x = some V → V = tnOf d :: B) ∧ Below W.heap.size W W'
/-- A verb's node. -/
def verbN (k : Int) (v a : ByteArray) : Nd := ⟨k, v, a, ⟨#[]⟩, none, 0, 0, []⟩
theorem verbN_on (k : Int) (v a : ByteArray) (W : World) (hv : v.size ≤ maxLen) (ha : a.size ≤ maxLen) (h0 : 0 ≤ k) (h1 : k ≤ 10) : (verbN k v a).on W := ⟨St.nil _ _, Nat.le_refl _, Nat.zero_le _, (by omega : (-9223372036854775808 : Int) ≤ k), (by omega : k ≤ 9223372036854775807), hv, ha, Nat.zero_le _, fun s hs => by cases hs⟩
/-- A verb's adverb: what is told of it, from what was read so far on. -/
theorem adv_cases {M : List UInt8 → List UInt8} {k : Int} {v : List UInt8} {B : List Tn} {l r : List Pk} {x : Option (List Tn)} (h : Rd' M (.adv k v B) l x r) :
    (kd0 l ≠ 5 ∧ x = some (⟨k, v, [], [], []⟩ :: B) ∧ r = l) ∨ (kd0 l = 5 ∧ (∃ c ∈ advs k, tx0 l = [c] ∧ x = some (⟨k, v, [c], [], []⟩ :: B) ∧ r = l.tail)) ∨ (kd0 l = 5 ∧ (∀ c ∈ advs k, tx0 l ≠ [c]) ∧ x = none ∧ r = l) := by
  cases h with
  | d_none h => exact .inl ⟨fun e => h ((kd0_yes (by decide)).1 e), rfl, rfl⟩
  | d_is h ht hc => exact .inr (.inl ⟨h, _, hc, ht, rfl, rfl⟩)
  | d_bad h ht => exact .inr (.inr ⟨h, ht, rfl, rfl⟩)
theorem vb_cases {M : List UInt8 → List UInt8} {k : Int} {l r : List Pk} {x : Option (List Tn)} (h : Rd' M (.vb k) l x r) (hp : ∀ q ∈ l, q.k = 3 ∨ q.k = 4 → q.t ≠ [123]) :
    (tx0 l ≠ [123] ∧ 0 < l.length ∧ Rd' M (.adv k (tx0 l) []) l.tail x r) ∨ (tx0 l = [123] ∧ 0 < l.length ∧ ∃ x1 r1, Rd' M (.cl 125) l.tail x1 r1 ∧ ((x1 = none ∧ x = none ∧ r = r1) ∨ ∃ B, x1 = some B ∧ Rd' M (.adv k [123] B) r1 x r)) := by
  cases h with
  | v_one h h1 => exact .inl ⟨hp _ List.mem_cons_self h, by simp, h1⟩
  | v_bad h ht h1 => exact .inr ⟨ht, by simp, _, _, h1, .inl ⟨rfl, rfl, rfl⟩⟩
  | v_body h ht h1 h2 => exact .inr ⟨ht, by simp, _, _, h1, .inr ⟨_, rfl, by rw [← ht]; exact h2⟩⟩
end Go.Proofs.YtljkmdmbndjngaaGreat

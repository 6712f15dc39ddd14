import Derived.Test.YtljkmdmbndjngaaMal
import Derived.Laws.MakeOwn
import Derived.BigRegion
import Derived.BigQuiet
import Derived.Deep.RegionHeld3
import Derived.Deep.DeepCutAuto
import Derived.Deep.RegionWith
import Derived.Deep.QuietTactic
import Derived.RegionTactic
import Derived.Test.YtljkmdmbndjngaaMaq
import Derived.Test.YtljkmdmbndjngaaMai
import Derived.Test.YtljkmdmbndjngaaMak
/-
  The parser's sound: of parts as Lex tells them, the same parts.
-/
namespace Go.Proofs.Ytljkmdmbndjngaa
set_option linter.unusedVariables false
set_option linter.unusedSimpArgs false
open Go.RowKit

theorem infoTok : (Try.prog.info? 66).map (fun i => (i.zero, i.size, i.bytes)) = some (some (.agg #[.int .i64 0, .string ⟨#[]⟩, .int .i64 0]), 3, 32) := by kernel_rfl
/-- Cells of a row of parts, of which the first are there. -/
def Fst (ts : List Tk) (n k : Nat) (cs : List Value) : Prop := cs.length = n * 3 ∧ ∀ j, j < k → cs[j * 3]? = some (.int .i64 (rtk ts j).k) ∧ cs[j * 3 + 1]? = some (.string (rtk ts j).x) ∧ cs[j * 3 + 2]? = some (.int .i64 (rtk ts j).p)
theorem Fst.step {ts : List Tk} {n k : Nat} {cs : List Value} (h : Fst ts n k cs) (hk : k < n) : Fst ts n (k + 1) (((cs.set (k * 3) (.int .i64 (rtk ts k).k)).set (k * 3 + 1) (.string (rtk ts k).x)).set (k * 3 + 2) (.int .i64 (rtk ts k).p)) := by
  have hl := h.1
  refine ⟨by simp [hl], fun j hj => ?_⟩
  simp only [List.getElem?_set, List.length_set, hl]
  by_cases hjk : j = k
  · subst hjk
    refine ⟨?_, ?_, ?_⟩
    · rw [if_neg (by omega), if_neg (by omega), if_pos rfl, if_pos (by omega)]
    · rw [if_neg (by omega), if_pos rfl, if_pos (by omega)]
    · rw [if_pos rfl, if_pos (by omega)]
  · obtain ⟨h1, h2, h3⟩ := h.2 j (by omega)
    refine ⟨?_, ?_, ?_⟩
    · rw [if_neg (by omega), if_neg (by omega), if_neg (by omega)]; exact h1
    · rw [if_neg (by omega), if_neg (by omega), if_neg (by omega)]; exact h2
    · rw [if_neg (by omega), if_neg (by omega), if_neg (by omega)]; exact h3
theorem Fst.pq {ts : List Tk} {W : World} {g n : Nat} {cs : List Value} (h : Fst ts n n cs) (hn : n = ts.length) (hB : Bk 66 W g cs) : Pq W (some ⟨g, 0, none⟩) ts := by
  refine ⟨fun _ => ⟨g, 0, rfl, fun j hj => ?_⟩, fun _ => ⟨g, 0, _, _, rfl, hB⟩⟩
  obtain ⟨h1, h2, h3⟩ := h.2 j (by omega)
  rw [Nat.zero_add]
  exact ⟨(hB.c _).trans h1, (hB.c _).trans h2, (hB.c _).trans h3⟩
set_option maxRecDepth 10000 in
set_option maxHeartbeats 6400000 in
theorem sound_is (ts : List Tk) (hP : Pall ts) (a : Option Addr) (n c : Nat) (W : World) (h : Qs W a n (rtk ts)) (hn : n = ts.length) (hm : n ≤ 300) :
    Calls Try.prog 42 #[.slice a n c] W (fun e W' => ∃ g, e = .returned (.slice (some ⟨g, 0, none⟩) n n) ∧ Pq W' (some ⟨g, 0, none⟩) ts ∧ Below W.heap.size W W') := by
  obtain ⟨i0, hi0, hz0, hz1, hz2⟩ := info_parts infoTok
  have hmake := run_make (P := Try.prog) W 46 66 i0 (.agg #[.int .i64 0, .string ⟨#[]⟩, .int .i64 0]) Try.underlying46 hi0 hz0 .i64 .i64 (n : Int) (n : Int) (by omega) (Int.le_refl _) (by rw [hz2]; omega) (by omega)
  rw [hz1, Int.toNat_natCast] at hmake
  obtain ⟨cs0, hcs0⟩ : ∃ cs0, cs0 = madeCells (Value.agg #[.int .i64 0, .string ⟨#[]⟩, .int .i64 0]).cells (n * 3) := ⟨_, rfl⟩
  rw [← hcs0] at hmake
  have hF0 : Fst ts n 0 cs0.toList := ⟨by rw [Array.length_toList, hcs0, size_madeCells], fun j hj => by omega⟩
  have hB0 : Bk 66 (W.alloc (.cells cs0 66)) W.heap.size cs0.toList := by
    have := Bk.new 66 W cs0.toList
    rwa [Array.toArray_toList] at this
  have hb0 := box_below W (.cells cs0 66)
  have HQ := Lib.hid h
  have HB0 := Lib.hid (show ∃ cs, Bk 66 (W.alloc (.cells cs0 66)) W.heap.size cs ∧ Fst ts n 0 cs from ⟨_, hB0, hF0⟩)
  have Hb0 := Lib.hid hb0
  have HN := Lib.hid hn
  clear h hcs0 hF0 hB0 hb0 hn
  go_enter Try.func42, Try.ntmps42
  go_wp2_with fail
  clear hmake
  go_loopw [14] (fun iv wr => ∃ k : Nat, iv = .int .i64 k ∧ k ≤ n ∧ (∃ cs, Bk 66 wr W.heap.size cs ∧ Fst ts n k cs) ∧ Below W.heap.size W wr) (fun iv _ => n - (intOf iv).toNat)
  case atStart => exact ⟨0, rfl, Nat.zero_le _, HB0.out, Hb0.out⟩
  case round =>
    clear HB0 Hb0
    obtain ⟨k, rfl, hk, ⟨cs, hB, hF⟩, hb⟩ := hrel
    by_cases hlt : k < n
    · obtain ⟨t, ht⟩ : ∃ t, ts[k]? = some t := ⟨_, List.getElem?_eq_getElem (by have := HN.out; omega)⟩
      obtain ⟨b, off, rfl, hc⟩ := HQ.out (by omega)
      obtain ⟨ck, cx, cp⟩ := hc k hlt
      have hst := hF.step hlt
      rw [rtk_at ht] at ck cx cp hst
      have hbW : b < W.heap.size := World.block_lt_of_cell? W _ ck
      have hpk : t.pk ∈ pks ts := List.mem_map.2 ⟨t, List.mem_of_getElem? ht, rfl⟩
      obtain ⟨⟨k9, hk9, hrun⟩, hl9⟩ := hP t.pk hpk
      have hk9 : t.kind = k9 := by have : (t.kind : Int) = (k9 : Int) := hk9; omega
      subst hk9
      have hrun : Run numB t.text 0 [⟨t.kind, t.text, 0⟩] none := hrun
      have hl9 : t.text.length ≤ 256 := hl9
      have KL := Lib.hid (fun w => lex_is (tx t.text) (by rw [tx_size]; exact hl9) [⟨t.kind, t.text, 0⟩] none (by rw [tx_list]; exact hrun) w)
      obtain ⟨T, hT⟩ : ∃ T, T = tx t.text := ⟨_, rfl⟩
      obtain ⟨kd, hkd⟩ : ∃ kd : Int, kd = (t.kind : Int) := ⟨_, rfl⟩
      obtain ⟨pp, hpp⟩ : ∃ pp : Int, pp = (t.at_ : Int) := ⟨_, rfl⟩
      replace KL := Lib.hid (show ∀ w, Calls Try.prog 20 #[.string T] w (fun e W' => ∃ b9 off9 c9, e = .returned (.tuple #[.slice (some ⟨b9, off9, none⟩) 1 c9, .int .i64 0, .int .i64 0]) ∧ W'.cell? ⟨b9, off9, none⟩ = some (.int .i64 kd) ∧ W'.cell? ⟨b9, off9 + 1, none⟩ = some (.string T) ∧ Below w.heap.size w W') from fun w => by
        rw [hT]
        refine (KL.out w).mono ?_
        rintro e W' ⟨a9, c9, rfl, _, hq9, hb9⟩
        obtain ⟨b9, off9, rfl, hc9⟩ := hq9 (by simp)
        have hc9 := hc9 0 (by simp)
        rw [Nat.zero_mul, Nat.add_zero] at hc9
        exact ⟨b9, off9, c9, rfl, hc9.1.trans (by rw [hkd]; rfl), hc9.2.1, hb9⟩)
      replace ck := (hb.cell (p := ⟨b, off + k * 3, none⟩) hbW).trans ck
      replace cx := (hb.cell (p := ⟨b, off + k * 3 + 1, none⟩) hbW).trans cx
      replace cp := (hb.cell (p := ⟨b, off + k * 3 + 2, none⟩) hbW).trans cp
      simp only at ck cx cp hst
      rw [← hkd] at ck hst
      rw [← hT] at cx hst
      rw [← hpp] at cp hst
      have hbx := box_below wr (.cells #[.int .i64 kd, .string T, .int .i64 pp] 66)
      have hX := Bk.new 66 wr [.int .i64 kd, .string T, .int .i64 pp]
      have HX := Lib.hid hX
      have HBX := Lib.hid (hB.below hbx hB.lt)
      have HST := Lib.hid hst
      have HFL := Lib.hid hF.1
      have HBB := Lib.hid (hb.alloc hb.size (.cells #[.int .i64 kd, .string T, .int .i64 pp] 66))
      have hgx : W.heap.size < wr.heap.size := hB.lt
      have e2 : (k : Int) < (n : Int) := by omega
      have hx1 := hX.p1
      clear hB hF hst hc hb hbx hX hT hkd hpp hpk hrun ht hl9
      go_upto_region 5 with fail
      generalize wr.alloc (.cells #[.int .i64 kd, .string T, .int .i64 pp] 66) = w1 at *
      clear ck cx cp
      go_wp2_with fail
      refine (KL.out w1).mono ?_
      rintro e w2 ⟨b9, off9, c9, rfl, g0, g1, hb2⟩
      have hX2 := HX.out.on hb2
      have HX2 := Lib.hid hX2
      have HB2 := Lib.hid (HBX.out.on hb2)
      have HBB2 := Lib.hid (HBB.out.trans (hb2.mono HBB.out.size))
      have x0 := hX2.p0
      have x1 := hX2.p1
      have i1 : (0 : Int) < 1 := by decide
      clear hb2 hX2 HX HBX HBB hx1 KL
      go_wp2_with fail
      go_quiet (fail)
      have HX3 := Lib.hid (HX2.out.drewN nq)
      have HB3 := Lib.hid (HB2.out.drewN nq)
      have HBB3 := Lib.hid (below_drewN HBB2.out nq)
      clear g0 g1 x0 x1 HX2 HB2 HBB2
      generalize w2.drewN nq = w3 at *
      have x0 := HX3.out.p0
      have x1 := HX3.out.p1
      have x2 := HX3.out.p2
      have hcl : ∀ j, j < 3 → ∃ u, w3.cell? ⟨W.heap.size, k * 3 + j, none⟩ = some u := fun j hj => by
        rw [HB3.out.c]
        exact ⟨_, List.getElem?_eq_getElem (by have := HFL.out; omega)⟩
      obtain ⟨u0, hu0⟩ := hcl 0 (by omega)
      obtain ⟨u1, hu1⟩ := hcl 1 (by omega)
      obtain ⟨u2, hu2⟩ := hcl 2 (by omega)
      rw [Nat.add_zero] at hu0
      have fz0 := HB3.out.f (k * 3)
      have fz1 := HB3.out.f (k * 3 + 1)
      have fz2 := HB3.out.f (k * 3 + 2)
      have w9 : IntKind.i64.wrap ((k : Int) + 1) = (k : Int) + 1 := wrn (by omega) (by omega)
      clear hcl
      go_wp2_with fail
      have hB4 := ((HB3.out.set (k * 3) (.int .i64 kd)).set (k * 3 + 1) (.string T)).set (k * 3 + 2) (.int .i64 pp)
      have hb4 := ((HBB3.out.setCell (p := ⟨W.heap.size, k * 3, none⟩) (Nat.le_refl _) (.int .i64 kd)).setCell (p := ⟨W.heap.size, k * 3 + 1, none⟩) (Nat.le_refl _) (.string T)).setCell (p := ⟨W.heap.size, k * 3 + 2, none⟩) (Nat.le_refl _) (.int .i64 pp)
      refine ⟨⟨k + 1, by go_num, by omega, ⟨_, hB4, HST.out⟩, hb4⟩, by simp [intOf]; omega⟩
    · obtain rfl : k = n := by omega
      have e2 : ¬ (k : Int) < (k : Int) := by omega
      have HFIN := Lib.hid (⟨hF.pq HN.out hB, hb⟩ : Pq wr (some ⟨W.heap.size, 0, none⟩) ts ∧ Below W.heap.size W wr)
      clear hB hF hb hlt
      go_wp2_with fail
      go_ret
      exact ⟨_, rfl, HFIN.out⟩
end Go.Proofs.Ytljkmdmbndjngaa
/-
  The reference's term.
-/
namespace Go.Proofs.Ytljkmdmbndjngaa
set_option linter.unusedVariables false
set_option linter.unusedSimpArgs false
open Go.RowKit

theorem brk_inv {M : List UInt8 → List UInt8} {L : List Tn} {l r : List Pk} {x : Option (List Tn)} (h : Rd' M (.brk L) l x r) :
    (¬ isMk 91 l ∧ x = some L ∧ r = l) ∨ (isMk 91 l ∧ x = none ∧ Rd' M (.cl 93) l.tail none r) ∨ ∃ I r1, isMk 91 l ∧ Rd' M (.cl 93) l.tail (some I) r1 ∧ Rd' M (.brk (⟨8, [], [], [], []⟩ :: (L ++ I))) r1 x r := by
  cases h with
  | b_end h => exact .inl ⟨h, rfl, rfl⟩
  | b_bad h ht h1 => exact .inr (.inl ⟨⟨h, ht⟩, rfl, h1⟩)
  | b_is h ht h1 h2 => exact .inr (.inr ⟨_, _, ⟨h, ht⟩, h1, h2⟩)
/-- A head alone. -/
def headN (k : Int) (x : ByteArray) : Nd := ⟨k, ⟨#[]⟩, ⟨#[]⟩, x, none, 0, 0, []⟩
theorem headN_on (k : Int) (x : ByteArray) (W : World) (h : x.size ≤ maxLen) (h0 : 0 ≤ k) (h1 : k ≤ 10) : (headN k x).on W := ⟨St.nil _ _, Nat.le_refl _, Nat.zero_le _, (by omega : (-9223372036854775808 : Int) ≤ k), (by omega : k ≤ 9223372036854775807), Nat.zero_le _, Nat.zero_le _, h, fun s hs => by cases hs⟩
theorem Nl.drew {B : Nat} {W : World} {a : Option Addr} {n c : Nat} {L : List Tn} (h : Nl B W a n c L) : Nl B W.drew a n c L := h.below ((Below.refl _ W).drew)
end Go.Proofs.Ytljkmdmbndjngaa
/-
  The reference's closed, and verb.
-/
namespace Go.Proofs.Ytljkmdmbndjngaa
set_option linter.unusedVariables false
set_option linter.unusedSimpArgs false
open Go.RowKit

theorem cl_inv {M : List UInt8 → List UInt8} {ch : UInt8} {l r : List Pk} {x : Option (List Tn)} (h : Rd' M (.cl ch) l x r) :
    ∃ x1 r1, Rd' M .expr l x1 r1 ∧ ((x1 = none ∧ x = none ∧ r = r1) ∨ (∃ L, x1 = some L ∧ ¬ isMk ch r1 ∧ x = none ∧ r = r1) ∨ ∃ L, x1 = some L ∧ isMk ch r1 ∧ x = some L ∧ r = r1.tail) := by
  cases h with
  | c_bad h1 => exact ⟨_, _, h1, .inl ⟨rfl, rfl, rfl⟩⟩
  | c_not h1 h => exact ⟨_, _, h1, .inr (.inl ⟨_, rfl, h, rfl, rfl⟩)⟩
  | c_is h1 h ht => exact ⟨_, _, h1, .inr (.inr ⟨_, rfl, ⟨h, ht⟩, rfl, rfl⟩)⟩
/-- What the reference's verb tells: a node, and what is below it so far. -/
def VbEnd (x : Option (List Tn)) (p : Nat) (W : World) (e : Ending) (W' : World) : Prop :=
  ∃ d a n c B, e = .returned (.tuple #[d.val, .agg #[.slice a n c, .int .i64 p, .bool x.isSome]]) ∧ d.on W' ∧ d.m = 0 ∧ Nl W.heap.size W' a n c B ∧ n ≤ 1000 ∧ (∀ V, x = some V → V = tnOf d :: B) ∧ Below W.heap.size W W'
/-- A verb's node. -/
def verbN (k : Int) (v a : ByteArray) : Nd := ⟨k, v, a, ⟨#[]⟩, none, 0, 0, []⟩
theorem verbN_on (k : Int) (v a : ByteArray) (W : World) (hv : v.size ≤ maxLen) (ha : a.size ≤ maxLen) (h0 : 0 ≤ k) (h1 : k ≤ 10) : (verbN k v a).on W := ⟨St.nil _ _, Nat.le_refl _, Nat.zero_le _, (by omega : (-9223372036854775808 : Int) ≤ k), (by omega : k ≤ 9223372036854775807), hv, ha, Nat.zero_le _, fun s hs => by cases hs⟩
/-- A verb's adverb: what is told of it, from what was read so far on. -/
theorem adv_cases {M : List UInt8 → List UInt8} {k : Int} {v : List UInt8} {B : List Tn} {l r : List Pk} {x : Option (List Tn)} (h : Rd' M (.adv k v B) l x r) :
    (kd0 l ≠ 5 ∧ x = some (⟨k, v, [], [], []⟩ :: B) ∧ r = l) ∨ (kd0 l = 5 ∧ (∃ c ∈ advs k, tx0 l = [c] ∧ x = some (⟨k, v, [c], [], []⟩ :: B) ∧ r = l.tail)) ∨ (kd0 l = 5 ∧ (∀ c ∈ advs k, tx0 l ≠ [c]) ∧ x = none ∧ r = l) := by
  cases h with
  | d_none h => exact .inl ⟨fun e => h ((kd0_yes (by decide)).1 e), rfl, rfl⟩
  | d_is h ht hc => exact .inr (.inl ⟨h, _, hc, ht, rfl, rfl⟩)
  | d_bad h ht => exact .inr (.inr ⟨h, ht, rfl, rfl⟩)
theorem vb_cases {M : List UInt8 → List UInt8} {k : Int} {l r : List Pk} {x : Option (List Tn)} (h : Rd' M (.vb k) l x r) (hp : ∀ q ∈ l, q.k = 3 ∨ q.k = 4 → q.t ≠ [123]) :
    (tx0 l ≠ [123] ∧ 0 < l.length ∧ Rd' M (.adv k (tx0 l) []) l.tail x r) ∨ (tx0 l = [123] ∧ 0 < l.length ∧ ∃ x1 r1, Rd' M (.cl 125) l.tail x1 r1 ∧ ((x1 = none ∧ x = none ∧ r = r1) ∨ ∃ B, x1 = some B ∧ Rd' M (.adv k [123] B) r1 x r)) := by
  cases h with
  | v_one h h1 => exact .inl ⟨hp _ List.mem_cons_self h, by simp, h1⟩
  | v_bad h ht h1 => exact .inr ⟨ht, by simp, _, _, h1, .inl ⟨rfl, rfl, rfl⟩⟩
  | v_body h ht h1 h2 => exact .inr ⟨ht, by simp, _, _, h1, .inr ⟨_, rfl, by rw [← ht]; exact h2⟩⟩
end Go.Proofs.Ytljkmdmbndjngaa
/-
  The reference's verb.
-/
namespace Go.Proofs.Ytljkmdmbndjngaa
set_option linter.unusedVariables false
set_option linter.unusedSimpArgs false
open Go.RowKit

theorem advs_of {k : Int} (hk : k = 3 ∨ k = 4) {A : ByteArray} (hA : A.data.toList = advs k) {j : Nat} (hj : j < (advs k).length) : A.extract j (j + 1) = tx [(advs k)[j]] := by
  refine extract_eq A j (j + 1) _ ?_
  rw [hA, Nat.add_sub_cancel_left]
  rw [List.drop_eq_getElem_cons hj]
  rfl
theorem advs_len {k : Int} (hk : k = 3 ∨ k = 4) : (advs k).length ≤ 4 ∧ 0 < (advs k).length := by
  rcases hk with rfl | rfl
  · exact ⟨by decide, by decide⟩
  · exact ⟨by decide, by decide⟩
theorem tx_one (t : List UInt8) (c : UInt8) : ((tx t).toList == (tx [c]).toList) = decide (t = [c]) := by
  rw [str_tl, str_tl, tx_list, tx_list]
  by_cases h : t = [c]
  · rw [h]; simp
  · rw [decide_eq_false h]; exact beq_eq_false_iff_ne.2 h
theorem quiet_pure {f : FuncId} {args : Array Value} {w : World} {n : Nat} {v : Value} (h : Calls Try.prog f args (w.drewN n) (PureEnd v (w.drewN n))) : Calls Try.prog f args (w.drewN n) fun e w'' => e = .returned v ∧ ∃ m, w'' = w.drewN m :=
  h.mono fun _ _ ⟨h1, h2⟩ => ⟨h1, n, h2.symm⟩
end Go.Proofs.Ytljkmdmbndjngaa
/-
  The reference's expr.
-/
namespace Go.Proofs.Ytljkmdmbndjngaa
set_option linter.unusedVariables false
set_option linter.unusedSimpArgs false
open Go.RowKit

theorem op_inv {M : List UInt8 → List UInt8} {k : Int} {L : List Tn} {l r : List Pk} {x : Option (List Tn)} (h : Rd' M (.op k L) l x r) :
    ∃ x1 r1, Rd' M (.vb k) l x1 r1 ∧ ((x1 = none ∧ x = none ∧ r = r1) ∨ ∃ V, x1 = some V ∧ ∃ x2, Rd' M .expr r1 x2 r ∧ x = x2.map (V ++ L ++ ·)) := by
  cases h with
  | o_bad h1 => exact ⟨_, _, h1, .inl ⟨rfl, rfl, rfl⟩⟩
  | o_is h1 h2 => exact ⟨_, _, h1, .inr ⟨_, rfl, _, h2, rfl⟩⟩
theorem ex_inv {M : List UInt8 → List UInt8} {l r : List Pk} {x : Option (List Tn)} (h : Rd' M .expr l x r) :
    (isVb l ∧ Rd' M (.op 3 []) l x r) ∨ (¬ isVb l ∧ ∃ x1 r1, Rd' M .term l x1 r1 ∧ ((x1 = none ∧ x = none ∧ r = r1) ∨ ∃ L, x1 = some L ∧ ((¬ isVb r1 ∧ x = some L ∧ r = r1) ∨ (isVb r1 ∧ Rd' M (.op 4 L) r1 x r)))) := by
  cases h with
  | e_verb h h1 => exact .inl ⟨h, h1⟩
  | e_bad h h1 => exact .inr ⟨h, _, _, h1, .inl ⟨rfl, rfl, rfl⟩⟩
  | e_term h h1 h2 =>
    refine .inr ⟨h, _, _, h1, .inr ⟨_, rfl, ?_⟩⟩
    cases h2 with
    | a_end h => exact .inl ⟨h, rfl, rfl⟩
    | a_op h h1 => exact .inr ⟨h, h1⟩
theorem cell_far {W : World} {g i h j : Nat} {x u : Value} (hne : g ≠ h) (hc : W.cell? ⟨g, i, none⟩ = some x) : (W.setCell ⟨h, j, none⟩ u).cell? ⟨g, i, none⟩ = some x := by
  rw [World.cell?_setCell_other _ _ _ _ (by intro e; injection e with e; exact hne (by first | exact e | exact e.symm))]
  exact hc
theorem cell_drewx {W : World} {p : Addr} {x : Value} (hc : W.cell? p = some x) : W.drew.cell? p = some x := hc
theorem verb_open {f : FuncId} {args : Array Value} {x : Option (List Tn)} {p : Nat} {W : World} (h : Calls Try.prog f args W (VbEnd x p W)) : Calls Try.prog f args W fun e W' => ∃ dk dv da dx dg dm dc dn a n c B, e = .returned (.tuple #[.agg #[.int .i64 dk, .string dv, .string da, .string dx, .slice dg dm dc], .agg #[.slice a n c, .int .i64 p, .bool x.isSome]]) ∧
    (Nd.mk dk dv da dx dg dm dc dn).on W' ∧ dm = 0 ∧ Nl W.heap.size W' a n c B ∧ n ≤ 1000 ∧ (∀ V, x = some V → V = tnOf (Nd.mk dk dv da dx dg dm dc dn) :: B) ∧ Below W.heap.size W W' :=
  h.mono fun _ _ ⟨d, a, n, c, B, h1, h2, h3, h4, h5, h6, h7⟩ => ⟨d.k, d.v, d.a, d.x, d.g, d.m, d.c, d.ns, a, n, c, B, h1, h2, h3, h4, h5, h6, h7⟩
end Go.Proofs.Ytljkmdmbndjngaa
/-
  The reference's line.
-/
namespace Go.Proofs.Ytljkmdmbndjngaa
set_option linter.unusedVariables false
set_option linter.unusedSimpArgs false
open Go.RowKit

theorem pure_base {f : FuncId} {args : Array Value} {wb w : World} {v : Value} (hb : Below wb.heap.size wb w) (h : Calls Try.prog f args w (PureEnd v w)) : Calls Try.prog f args w fun e W' => e = .returned v ∧ Below wb.heap.size wb W' :=
  h.mono fun _ _ ⟨h1, h2⟩ => ⟨h1, h2 ▸ hb⟩
/-- What a line is, by its first two parts. -/
inductive Lc (M : List UInt8 → List UInt8) (ts : List Pk) (x : Option (List Tn)) (r : List Pk) : Prop
  | assign (h : isK 2 ts) (h2 : isMk 58 ts.tail) (x1 : Option (List Tn)) (h1 : Rd' M .expr (ts.drop 2) x1 r) (hx : x = x1.map (⟨5, [], [], tx0 ts, []⟩ :: ·))
  | defbad (h : isK 3 ts) (h2 : isMk 58 ts.tail) (h3 : ¬ isMk 123 (ts.drop 2)) (hx : x = none) (hr : r = ts.drop 2)
  | define (h : isK 3 ts) (h2 : isMk 58 ts.tail) (h3 : isMk 123 (ts.drop 2)) (x1 : Option (List Tn)) (h1 : Rd' M (.cl 125) (ts.drop 3) x1 r) (hx : x = x1.map (⟨7, [], [], tx0 ts, []⟩ :: ·))
  | amend (h : isK 2 ts) (h2 : isMk 91 ts.tail) (I : List Tn) (r1 : List Pk) (h1 : Rd' M (.cl 93) (ts.drop 2) (some I) r1) (h3 : isMk 58 r1) (x1 : Option (List Tn)) (h4 : Rd' M .expr r1.tail x1 r) (hx : x = x1.map fun X => ⟨6, [], [], tx0 ts, []⟩ :: (I ++ X))
  | index (h : isK 2 ts) (h2 : isMk 91 ts.tail) (x1 : Option (List Tn)) (r1 : List Pk) (h1 : Rd' M (.cl 93) (ts.drop 2) x1 r1) (h3 : x1 = none ∨ ¬ isMk 58 r1) (h4 : Rd' M .expr ts x r)
  | plain (h1 : ¬ (isK 2 ts ∧ (isMk 58 ts.tail ∨ isMk 91 ts.tail))) (h2 : ¬ (isK 3 ts ∧ isMk 58 ts.tail)) (h : Rd' M .expr ts x r)
theorem Ln.cases {M : List UInt8 → List UInt8} {ts r : List Pk} {x : Option (List Tn)} (h : Ln M ts x r) : Lc M ts x r := by
  have nv : ∀ {q : Pk} {l : List Pk}, q.k = 2 → ¬ isVb (q :: l) := by
    intro q l hq g
    rcases (show q.k = 3 ∨ q.k = 4 ∨ (q.k = 6 ∧ q.t = [123]) from g) with g | g | g <;> omega
  cases h with
  | assign h h2 ht h1 => exact .assign h ⟨h2, ht⟩ _ h1 rfl
  | defbad h h2 ht h1 => exact .defbad h ⟨h2, ht⟩ h1 rfl rfl
  | define h h2 ht h3 hb h1 => exact .define h ⟨h2, ht⟩ ⟨h3, hb⟩ _ h1 rfl
  | idxbad h h2 ht h1 => exact .index h ⟨h2, ht⟩ _ _ h1 (.inl rfl) (.e_bad (nv h) (.t_is (.m_word h) (.b_bad h2 ht h1)))
  | amend h h2 ht h1 h3 hd h4 => exact .amend h ⟨h2, ht⟩ _ _ h1 ⟨h3, hd⟩ _ h4 rfl
  | ixbad h h2 ht h1 h3 h4 => exact .index h ⟨h2, ht⟩ _ _ h1 (.inr h3) (.e_bad (nv h) (.t_is (.m_word h) (.b_is h2 ht h1 h4)))
  | index h h2 ht h1 h3 h4 h5 => exact .index h ⟨h2, ht⟩ _ _ h1 (.inr h3) (.e_term (nv h) (.t_is (.m_word h) (.b_is h2 ht h1 h4)) h5)
  | plain h1 h2 h => exact .plain h1 h2 h
theorem not_mk2 {l : List Pk} {b d : UInt8} (h : isMk b l) (hbd : b ≠ d) : ¬ isMk d l := by
  cases l with
  | nil => exact fun g => g
  | cons q l => exact fun g => hbd (by have e := h.2.symm.trans g.2; injection e)
/-- What the reference's line tells. -/
def LtEnd (x : Option (List Tn)) (i : Nat) (W : World) (e : Ending) (W' : World) : Prop :=
  ∃ a n c L, e = .returned (.agg #[.slice a n c, .int .i64 i, .bool x.isSome]) ∧ Nl W.heap.size W' a n c L ∧ n ≤ 5000 ∧ (∀ X, x = some X → L = X) ∧ Below W.heap.size W W'
end Go.Proofs.Ytljkmdmbndjngaa
/-
  The reference's Toks, and Parse.
-/
namespace Go.Proofs.Ytljkmdmbndjngaa
set_option linter.unusedVariables false
set_option linter.unusedSimpArgs false
open Go.RowKit

/-- Where an error is: at the head of what is left, or at the end. -/
def plc (r : List Pk) (e : Int) : Int := match r with | [] => e | q :: _ => q.p
/-- What Toks tells of parts that are read so. -/
def PaEnd (x : Option (List Tn)) (r : List Pk) (z : Int) (W : World) (e : Ending) (W' : World) : Prop :=
  Below W.heap.size W W' ∧ ((told x r = none ∧ e = .returned (.tuple #[.slice none 0 0, .int .i64 (plc r z), .int .i64 2])) ∨ ∃ X d, told x r = some X ∧ Dp X 1 d ∧
    ((40 < d ∧ e = .returned (.tuple #[.slice none 0 0, .int .i64 0, .int .i64 10])) ∨ (d ≤ 40 ∧ ∃ a n c, e = .returned (.tuple #[.slice a n c, .int .i64 0, .int .i64 0]) ∧ Nl W.heap.size W' a n c X)))
theorem PaEnd.no {x : Option (List Tn)} {r : List Pk} {z : Int} {W W' : World} (hb : Below W.heap.size W W') (h : told x r = none) : PaEnd x r z W (.returned (.tuple #[.slice none 0 0, .int .i64 (plc r z), .int .i64 2])) W' := ⟨hb, .inl ⟨h, rfl⟩⟩
theorem PaEnd.deep {x : Option (List Tn)} {r : List Pk} {z : Int} {W W' : World} {X : List Tn} {d : Nat} (hb : Below W.heap.size W W') (h : told x r = some X) (hd : Dp X 1 d) (h40 : 40 < d) : PaEnd x r z W (.returned (.tuple #[.slice none 0 0, .int .i64 0, .int .i64 10])) W' := ⟨hb, .inr ⟨X, d, h, hd, .inl ⟨h40, rfl⟩⟩⟩
theorem PaEnd.ok {x : Option (List Tn)} {r : List Pk} {z : Int} {W W' : World} {X : List Tn} {d : Nat} {a : Option Addr} {n c : Nat} (hb : Below W.heap.size W W') (h : told x r = some X) (hd : Dp X 1 d) (h40 : d ≤ 40) (hl : Nl W.heap.size W' a n c X) : PaEnd x r z W (.returned (.tuple #[.slice a n c, .int .i64 0, .int .i64 0])) W' := ⟨hb, .inr ⟨X, d, h, hd, .inr ⟨h40, a, n, c, rfl, hl⟩⟩⟩
theorem told_cases (x : Option (List Tn)) (r : List Pk) : (told x r = none ∧ (x = none ∨ r ≠ [])) ∨ ∃ X, x = some X ∧ r = [] ∧ told x r = some X := by
  cases r with
  | nil =>
    cases x with
    | none => exact .inl ⟨rfl, .inl rfl⟩
    | some X => exact .inr ⟨X, rfl, rfl, rfl⟩
  | cons q r => exact .inl ⟨rfl, .inr (by simp)⟩
theorem PaEnd.base {x : Option (List Tn)} {r : List Pk} {z : Int} {W w W' : World} {e : Ending} (hb : Below W.heap.size W w) (h : PaEnd x r z w e W') : PaEnd x r z W e W' := by
  obtain ⟨h1, h2⟩ := h
  refine ⟨hb.trans (h1.mono hb.size), h2.imp id ?_⟩
  rintro ⟨X, d, h3, h4, h5⟩
  refine ⟨X, d, h3, h4, h5.imp id ?_⟩
  rintro ⟨h6, a, n, c, h7, h8⟩
  exact ⟨h6, a, n, c, h7, h8.base hb.size⟩
theorem run_few {s : ByteArray} {ts : List Tk} {e : Option Nat} (hs : s.size ≤ 256) (h : Run numB s.data.toList 0 ts e) : Few ts ∧ (∀ q ∈ pks ts, q.k = 3 ∨ q.k = 4 → q.t ≠ [123]) ∧ ts.length ≤ 256 := by
  have hl : s.data.toList.length = s.size := Array.length_toList
  refine ⟨fun t ht => ?_, fun q hq => not_brace (h.ps q hq).1, ?_⟩
  · have := (h.each t ht).2
    omega
  · have := h.span.2
    omega
section
variable (s : ByteArray) (hs : s.size ≤ 256)
include hs
end
end Go.Proofs.Ytljkmdmbndjngaa
/-
  Toks, and Parse, of the program; the reference's by the same end.
-/
namespace Go.Proofs.Ytljkmdmbndjngaa
set_option linter.unusedVariables false
set_option linter.unusedSimpArgs false
open Go.RowKit

/-- Nodes in memory that are these. -/
def Nx (W : World) (a : Option Addr) (n c : Nat) (X : List Tn) : Prop := ∃ f, Nq W a n f ∧ n ≤ c ∧ c ≤ maxLen ∧ tnF f n = X
theorem Nx.below {W W' : World} {a : Option Addr} {n c : Nat} {X : List Tn} (h : Nx W a n c X) (hb : Below W.heap.size W W') : Nx W' a n c X := by
  obtain ⟨f, h1, h2⟩ := h
  exact ⟨f, h1.below hb, h2⟩
/-- What is told of parts that are read so. -/
def PpEnd (x : Option (List Tn)) (r : List Pk) (z : Int) (W : World) (e : Ending) (W' : World) : Prop :=
  Below W.heap.size W W' ∧ ((told x r = none ∧ e = .returned (.tuple #[.slice none 0 0, .int .i64 (plc r z), .int .i64 2])) ∨ ∃ X d, told x r = some X ∧ Dp X 1 d ∧
    ((40 < d ∧ e = .returned (.tuple #[.slice none 0 0, .int .i64 0, .int .i64 10])) ∨ (d ≤ 40 ∧ ∃ a n c, e = .returned (.tuple #[.slice a n c, .int .i64 0, .int .i64 0]) ∧ Nx W' a n c X)))
theorem PaEnd.pp {x : Option (List Tn)} {r : List Pk} {z : Int} {W : World} {e : Ending} {W' : World} (h : PaEnd x r z W e W') : PpEnd x r z W e W' := by
  obtain ⟨hb, h | ⟨X, d, h1, h2, h | ⟨h3, a, n, c, h4, f, h5, h6, h7, h8, _⟩⟩⟩ := h
  · exact ⟨hb, .inl h⟩
  · exact ⟨hb, .inr ⟨X, d, h1, h2, .inl h⟩⟩
  · exact ⟨hb, .inr ⟨X, d, h1, h2, .inr ⟨h3, a, n, c, h4, f, h5, h6, h7, h8⟩⟩⟩
theorem PpEnd.base {x : Option (List Tn)} {r : List Pk} {z : Int} {W w W' : World} {e : Ending} (hb : Below W.heap.size W w) (h : PpEnd x r z w e W') : PpEnd x r z W e W' := ⟨hb.trans (h.1.mono hb.size), h.2⟩
set_option maxRecDepth 10000 in
set_option maxHeartbeats 6400000 in
theorem Toks_p (ts : List Tk) (hP : Pall ts) (a : Option Addr) (n c : Nat) (z : Int) (W : World) (x : Option (List Tn)) (r : List Pk) (h : Qs W a n (rtk ts)) (hn : n = ts.length) (hm : n ≤ 300) (hR : Ln numT (pks ts) x r) :
    Calls Try.prog 21 #[.slice a n c, .int .i64 z] W (PpEnd x r z W) := by
  have KS := Lib.hid (sound_is ts hP a n c W h hn hm)
  have hcell : ∀ i, i < n → r = (pks ts).drop i → ∃ b off, a = some ⟨b, off, none⟩ ∧ ∀ w, Below W.heap.size W w → w.cell? ⟨b, off + i * 3 + 2, none⟩ = some (.int .i64 (plc r z)) := by
    intro i hlt hr
    obtain ⟨b, off, rfl, hc⟩ := h (by omega)
    refine ⟨b, off, rfl, fun w hb => ?_⟩
    have ck := (hc i hlt).2.2
    rw [(hb.cell (World.block_lt_of_cell? W _ ck)).trans ck]
    obtain ⟨t, ht⟩ : ∃ t, ts[i]? = some t := ⟨_, List.getElem?_eq_getElem (by omega)⟩
    rw [rtk_at ht]
    have : r = t.pk :: (pks ts).drop (i + 1) := by rw [hr, pks_at ht]
    rw [this]; rfl
  have HC := Lib.hid hcell
  have HR := Lib.hid hR.run
  have HN := Lib.hid hn
  clear h hR hcell hn
  go_enter Try.func21, Try.ntmps21
  go_wp2_with fail
  refine KS.out.mono ?_
  rintro e w1 ⟨g1, rfl, hpq, hb1⟩
  have hbx := box_below w1 (.cells #[.slice (some ⟨g1, 0, none⟩) n n, .int .i64 0, .slice none 0 0, .slice none 0 0, .bool false, .bool false] 70)
  have hB := Bk.new 70 w1 [.slice (some ⟨g1, 0, none⟩) n n, .int .i64 0, .slice none 0 0, .slice none 0 0, .bool false, .bool false]
  rw [show [Value.slice (some ⟨g1, 0, none⟩) n n, .int .i64 0, .slice none 0 0, .slice none 0 0, .bool false, .bool false].toArray = #[.slice (some ⟨g1, 0, none⟩) n n, .int .i64 0, .slice none 0 0, .slice none 0 0, .bool false, .bool false] from rfl] at hB
  have hM : PM w1.heap.size ts (w1.alloc (.cells #[.slice (some ⟨g1, 0, none⟩) n n, .int .i64 0, .slice none 0 0, .slice none 0 0, .bool false, .bool false] 70)) w1.heap.size (some ⟨g1, 0, none⟩) n n 0 none 0 0 none 0 0 false false [] [] :=
    ⟨hB, hpq.ex (Ex.of [] hbx) (Off.none _), HN.out, World.ownsRow_nil _ _ _ _, rfl, trivial, Nat.le_refl _⟩
  have HBB := Lib.hid (hb1.trans (hbx.mono hb1.size))
  have HSZ := Lib.hid (show W.heap.size ≤ w1.heap.size from hb1.size)
  have KL := Lib.hid (pline_is ts hP hm hM HR.out)
  clear hb1 hpq hbx hB hM KS
  go_wp2_with fail
  refine KL.out.mono ?_
  rintro e w2 ⟨hf2, ⟨rfl, hok⟩ | ⟨rfl, hfa⟩⟩
  · obtain ⟨i, oa, on, oc, kk, wh, dp, ms, K, T, d, hM2, hN2, hx, hr, hd, hdp, hTl⟩ := hok
    have hbb := HBB.out.trans (hf2.below.mono HSZ.out)
    have c5 := Pc.c5 hM2.bk
    have c3 := Pc.c3 hM2.bk
    cases dp with
    | true =>
      have HE := Lib.hid (show PpEnd x r z W (.returned (.tuple #[.slice none 0 0, .int .i64 0, .int .i64 10])) w2 from ⟨hbb, .inr ⟨T, d, hx, hd, .inl ⟨hdp.1 rfl, rfl⟩⟩⟩)
      clear hM2 hN2 hx hr hd hdp hTl hbb hf2 KL c3
      go_wp2_with fail
      go_ret3
      exact HE.out
    | false =>
      have hN3 := hN2 rfl
      have hd40 : d ≤ 40 := by
        rcases Nat.lt_or_ge 40 d with h | h
        · exact absurd (hdp.2 h) (by decide)
        · exact h
      have HE := Lib.hid (show PpEnd x r z W (.returned (.tuple #[.slice kk.a kk.n kk.c, .int .i64 0, .int .i64 0])) w2 from ⟨hbb, .inr ⟨T, d, hx, hd, .inr ⟨hd40, _, _, _, rfl, kk.f, hN3.nq, hN3.nc, hN3.cm, hN3.tn⟩⟩⟩)
      clear hM2 hN2 hN3 hx hr hd hdp hTl hbb hf2 KL hd40
      go_wp2_with fail
      go_ret3
      exact HE.out
  · obtain ⟨i, oa, on, oc, ta, tn, tc, wh, dp, ms, K, hM2, hi, hr, hx⟩ := hfa
    have hbb := HBB.out.trans (hf2.below.mono HSZ.out)
    have c1 := Pc.c1 hM2.bk
    by_cases hin : i < n
    · have e2 : (i : Int) < (n : Int) := by omega
      obtain ⟨b, off, rfl, hce⟩ := HC.out i hin hr
      have ck := hce w2 hbb
      have HE := Lib.hid (show ∀ q, PpEnd x r z W (.returned (.tuple #[.slice none 0 0, .int .i64 (plc r z), .int .i64 2])) (w2.drewN q) from fun q => ⟨below_drewN hbb q, .inl ⟨hx, rfl⟩⟩)
      generalize plc r z = pz at *
      clear hM2 hr hx hbb hf2 KL hce
      go_wp2_with fail
      go_quiet (fail)
      have HE2 := Lib.hid (HE.out nq)
      clear HE
      go_wp2_with fail
      go_ret3
      exact HE2.out
    · have e2 : ¬ (i : Int) < (n : Int) := by omega
      have hr0 : r = [] := by rw [hr]; exact pks_out (by have := HN.out; omega)
      have HE := Lib.hid (show PpEnd x r z W (.returned (.tuple #[.slice none 0 0, .int .i64 z, .int .i64 2])) w2 from ⟨hbb, .inl ⟨hx, by rw [hr0]; rfl⟩⟩)
      clear hM2 hr hx hbb hf2 KL hr0
      go_wp2_with fail
      go_ret3
      exact HE.out
section
variable (s : ByteArray) (hs : s.size ≤ 256)
include hs
theorem Parse_ok (ts : List Tk) (h : Run numB s.data.toList 0 ts none) {x : Option (List Tn)} {r : List Pk} (hR : Ln numT (pks ts) x r) (W : World) : Calls Try.prog 11 #[.string s] W (PpEnd x r s.size W) := by
  obtain ⟨hf, hp, hn⟩ := run_few hs h
  have hP : Pall ts := fun q hq => by
    have := h.ps q hq
    have hl : s.data.toList.length = s.size := Array.length_toList
    exact ⟨this.1, by omega⟩
  have K1 := Lib.hid (lex_is s hs ts none h W)
  obtain ⟨n, hnn⟩ : ∃ n, n = ts.length := ⟨_, rfl⟩
  have K2 := Lib.hid (fun a c w (hq : Qs w a n (rtk ts)) => Toks_p ts hP a n c (s.size : Int) w x r hq hnn (by omega) hR)
  have HN := Lib.hid hnn
  clear hf hp hnn h hR hP
  go_enter Try.func11, Try.ntmps11
  go_wp2_with fail
  refine K1.out.mono ?_
  rintro e w1 ⟨a, c, rfl, hc, hq, hb⟩
  rw [← HN.out] at hq ⊢
  have K3 := Lib.hid (K2.out a c w1 hq)
  clear K1 K2 hq hc
  go_wp2_with fail
  refine K3.out.mono ?_
  rintro e w2 hpa
  have hpa2 := PpEnd.base hb hpa
  obtain ⟨hb2, ⟨ht, rfl⟩ | ⟨X, d, ht, hd, ⟨h40, rfl⟩ | ⟨h40, a2, n2, c2, rfl, hl⟩⟩⟩ := id hpa2
  · have HE := Lib.hid hpa2
    clear hpa hpa2 ht K3 hb hb2
    go_wp2_with fail
    go_ret3
    exact HE.out
  · have HE := Lib.hid hpa2
    clear hpa hpa2 ht K3 hb hb2 hd
    go_wp2_with fail
    go_ret3
    exact HE.out
  · have HE := Lib.hid hpa2
    clear hpa hpa2 ht K3 hb hb2 hd hl
    go_wp2_with fail
    go_ret3
    exact HE.out
theorem Parse_bad (ts : List Tk) (q : Nat) (h : Run numB s.data.toList 0 ts (some q)) (W : World) : Calls Try.prog 11 #[.string s] W (LexBad q W) := by
  have K1 := Lib.hid (lex_is s hs ts (some q) h W)
  clear h
  go_enter Try.func11, Try.ntmps11
  go_wp2_with fail
  refine K1.out.mono ?_
  rintro e w1 ⟨rfl, hb⟩
  go_wp2_with fail
  go_ret3
  exact ⟨rfl, hb⟩
omit hs in
theorem Parse_big (hs : 256 < s.size) (hm : s.size ≤ 9223372036854775807) (W : World) : Calls Try.prog 11 #[.string s] W (LexBig W) := by
  have K1 := Lib.hid (big_is s hs hm W)
  clear hs
  go_enter Try.func11, Try.ntmps11
  go_wp2_with fail
  refine K1.out.mono ?_
  rintro e w1 ⟨rfl, hb⟩
  go_wp2_with fail
  go_ret3
  exact ⟨rfl, hb⟩
end
end Go.Proofs.Ytljkmdmbndjngaa
/-
  Whether two lists have the same nodes, of the reference.
-/
namespace Go.Proofs.Ytljkmdmbndjngaa
set_option linter.unusedVariables false
set_option linter.unusedSimpArgs false
open Go.RowKit
set_option maxRecDepth 10000
end Go.Proofs.Ytljkmdmbndjngaa
/-
  The document's example; ParseTells, and ParseMay, at every text.
-/
namespace Go.Proofs.Ytljkmdmbndjngaa
set_option linter.unusedVariables false
set_option linter.unusedSimpArgs false
open Go.RowKit

def TrueEnd (W : World) (e : Ending) (W' : World) : Prop := e = .returned (.bool true) ∧ Below W.heap.size W W'
theorem run_one : Run numB [49, 32, 50, 43, 120] 0 [⟨1, [49], 0⟩, ⟨1, [50], 2⟩, ⟨4, [43], 3⟩, ⟨2, [120], 4⟩] none :=
  .byte (k := 1) (by decide) (by decide) (by decide) (.cons (by decide)) (fun _ => by decide) (.blank (by decide)
    (.byte (k := 1) (by decide) (by decide) (by decide) (.cons (by decide)) (fun _ => by decide)
      (.own (k := 4) (by decide) (by decide) (by decide) (.byte (k := 2) (by decide) (by decide) (by decide) (.nil _) (fun h => by cases h) (.nil _)))))
theorem ln_one : ∃ ns, Ln numT (pks [⟨1, [49], 0⟩, ⟨1, [50], 2⟩, ⟨4, [43], 3⟩, ⟨2, [120], 4⟩]) (some [⟨4, [43], [], [], []⟩, ⟨1, [], [], [], ns⟩, ⟨2, [], [], [120], []⟩]) [] := by
  have hnm : nmL (pks [⟨1, [49], 0⟩, ⟨1, [50], 2⟩, ⟨4, [43], 3⟩, ⟨2, [120], 4⟩]) = [[49], [50]] := by decide
  refine ⟨[[49], [50]].map numT, .plain ?_ ?_ (.e_term ?_ (.t_is (L := [⟨1, [], [], [], [[49], [50]].map numT⟩]) (r := pks [⟨4, [43], 3⟩, ⟨2, [120], 4⟩]) ?_ (.b_end ?_)) (.a_op (.inr (.inl rfl)) ?_))⟩
  · rintro ⟨h, _⟩
    exact absurd (show (1 : Int) = 2 from h) (by decide)
  · rintro ⟨h, _⟩
    exact absurd (show (1 : Int) = 3 from h) (by decide)
  · rintro (h | h | h)
    · exact absurd (show (1 : Int) = 3 from h) (by decide)
    · exact absurd (show (1 : Int) = 4 from h) (by decide)
    · exact absurd (show (1 : Int) = 6 from h.1) (by decide)
  · have h := Rd'.m_nums (M := numT) (ts := pks [⟨1, [49], 0⟩, ⟨1, [50], 2⟩, ⟨4, [43], 3⟩, ⟨2, [120], 4⟩]) (by rw [hnm]; decide) (by rw [hnm]; decide)
    rw [hnm] at h
    exact h
  · rintro ⟨h, _⟩
    exact absurd (show (4 : Int) = 6 from h) (by decide)
  · refine .o_is (V := [⟨4, [43], [], [], []⟩]) (x := some [⟨2, [], [], [120], []⟩]) (.v_one (.inr rfl) (.d_none ?_)) (.e_term ?_ (.t_is (.m_word rfl) (.b_end id)) (.a_end id))
    · intro h
      exact absurd (show (2 : Int) = 5 from h) (by decide)
    · rintro (h | h | h)
      · exact absurd (show (2 : Int) = 3 from h) (by decide)
      · exact absurd (show (2 : Int) = 4 from h) (by decide)
      · exact absurd (show (2 : Int) = 6 from h.1) (by decide)
theorem run_two : Run numB [40] 0 [⟨6, [40], 0⟩] none := .own (k := 6) (by decide) (by decide) (by decide) (.nil _)
theorem ln_two : Ln numT (pks [⟨6, [40], 0⟩]) none [] := by
  refine .plain ?_ ?_ (.e_bad ?_ (.t_bad (.m_par rfl rfl (.c_bad (.e_bad id (.t_bad (.m_bad id id id)))))))
  · rintro ⟨h, _⟩
    exact absurd (show (6 : Int) = 2 from h) (by decide)
  · rintro ⟨h, _⟩
    exact absurd (show (6 : Int) = 3 from h) (by decide)
  · rintro (h | h | h)
    · exact absurd (show (6 : Int) = 3 from h) (by decide)
    · exact absurd (show (6 : Int) = 4 from h) (by decide)
    · exact absurd (show ([40] : List UInt8) = [123] from h.2) (by decide)
/-- What is told, if it is known that there is a tree, and not too deep. -/
def PkEnd (X : List Tn) (W : World) (e : Ending) (W' : World) : Prop := ∃ a n c, e = .returned (.tuple #[.slice a n c, .int .i64 0, .int .i64 0]) ∧ Nx W' a n c X ∧ Below W.heap.size W W'
theorem PpEnd.tree {X : List Tn} {z : Int} {W : World} {e : Ending} {W' : World} (h : PpEnd (some X) [] z W e W') {d : Nat} (hd : Dp X 1 d) (h40 : d ≤ 40) : PkEnd X W e W' := by
  obtain ⟨hb, ⟨h1, _⟩ | ⟨Y, d2, h1, h2, ⟨h3, _⟩ | ⟨_, a, n, c, he, hN⟩⟩⟩ := h
  · cases h1
  · injection h1 with h1
    subst h1
    have := (hd.det h2).2
    omega
  · injection h1 with h1
    subst h1
    exact ⟨a, n, c, he, hN, hb⟩
theorem PpEnd.none {r : List Pk} {x : Option (List Tn)} {z : Int} {W : World} {e : Ending} {W' : World} (h : PpEnd x r z W e W') (ht : told x r = none) : e = .returned (.tuple #[.slice none 0 0, .int .i64 (plc r z), .int .i64 2]) ∧ Below W.heap.size W W' := by
  obtain ⟨hb, ⟨_, h1⟩ | ⟨Y, d2, h1, _⟩⟩ := h
  · exact ⟨h1, hb⟩
  · rw [ht] at h1; cases h1
/-- A head's kind, in memory. -/
theorem Nx.kinds {W : World} {a : Option Addr} {n c : Nat} {X : List Tn} (h : Nx W a n c X) (hX : 0 < X.length) : n = X.length ∧ ∃ b off, a = some ⟨b, off, none⟩ ∧ ∀ j (hj : j < X.length), W.cell? ⟨b, off + j * 5, none⟩ = some (.int .i64 X[j].k) := by
  obtain ⟨f, hq, _, _, rfl⟩ := h
  rw [tnF_len] at hX
  obtain ⟨b, off, e, hc⟩ := hq.ld hX
  refine ⟨by rw [tnF_len], b, off, e, fun j hj => ?_⟩
  rw [tnF_len] at hj
  rw [(hc j hj).c0]
  simp [tnF, tnOf]
theorem tn_same {f g : Nat → Nd} {n m : Nat} (h : tnF f n = tnF g m) : (decide (n = m) && sameL f g n) = true := same_tn.2 h
theorem Ln.few {M : List UInt8 → List UInt8} {ts r : List Pk} {x : Option (List Tn)} (h : Ln M ts x r) : ∀ X, x = some X → X.length ≤ ts.length := by
  cases h with
  | @assign q w r r' x h h2 ht h1 =>
    intro X hX
    cases x with
    | none => cases hX
    | some Y =>
      cases hX
      have := h1.few Y rfl
      simp only [Rl.many, List.length_cons] at *
      omega
  | defbad h h2 ht h1 => exact fun X hX => by cases hX
  | @define q w b r r' x h h2 ht h3 hb h1 =>
    intro X hX
    cases x with
    | none => cases hX
    | some Y =>
      cases hX
      have := h1.few Y rfl
      simp only [Rl.many, List.length_cons] at *
      omega
  | idxbad h h2 ht h1 => exact fun X hX => by cases hX
  | @amend q w d r r1 r' I x h h2 ht h1 h3 hd h4 =>
    intro X hX
    cases x with
    | none => cases hX
    | some Y =>
      cases hX
      have := h1.few I rfl
      have := h4.few Y rfl
      simp only [Rl.many, List.length_cons, List.length_append] at *
      omega
  | ixbad h h2 ht h1 h3 h4 => exact fun X hX => by cases hX
  | @index q w r r1 r2 r' I L x h h2 ht h1 h3 h4 h5 =>
    intro X hX
    have a1 := h1.few I rfl
    have a2 := h4.few L rfl
    have a3 := h5.few X hX
    simp only [Rl.many, List.length_cons, List.length_append, List.length_nil] at *
    omega
  | plain h1 h2 h =>
    intro X hX
    have := h.few X hX
    simp only [Rl.many] at this
    omega
theorem told_some {x : Option (List Tn)} {r : List Pk} {X : List Tn} (ht : told x r = some X) : x = some X ∧ r = [] := by
  rcases told_cases x r with ⟨h1, _⟩ | ⟨Y, h1, h2, h3⟩
  · rw [ht] at h1; cases h1
  · rw [ht] at h3; injection h3 with h3; rw [h3]; exact ⟨h1, h2⟩
theorem told_few {s : ByteArray} {ts : List Tk} (hs : s.size ≤ 256) (h : Run numB s.data.toList 0 ts none) {x : Option (List Tn)} {r : List Pk} (hR : Ln numT (pks ts) x r) {X : List Tn} (ht : told x r = some X) : X.length ≤ 256 := by
  have h1 := hR.few X (told_some ht).1
  rw [pks_len] at h1
  have := (run_few hs h).2.2
  omega
theorem Run.at_le {N : List UInt8 → Bool} {a : List UInt8} {p : Nat} {ts : List Tk} {e : Option Nat} (h : Run N a p ts e) : ∀ t ∈ ts, p ≤ t.at_ ∧ t.at_ < p + a.length := by
  induction h with
  | nil p => exact fun t ht => by cases ht
  | blank h hr ih => exact fun t ht => by have := ih t ht; simp only [List.length_cons]; omega
  | part h h1 h6 ht hs hn hr ih =>
    intro t hh
    rcases List.mem_cons.1 hh with rfl | hh
    · simp
    · have := ih t hh
      simp only [List.length_append, List.length_cons]
      omega
  | bad h => exact fun t ht => by cases ht
  | figs h ht hs hn => exact fun t ht => by cases ht
end Go.Proofs.Ytljkmdmbndjngaa
/-
  ParseFirst, at every two texts.
-/
namespace Go.Proofs.Ytljkmdmbndjngaa
set_option linter.unusedVariables false
set_option linter.unusedSimpArgs false
open Go.RowKit

theorem catblank (s m : ByteArray) : (s ++ ⟨#[32]⟩ ++ m).data.toList = s.data.toList ++ 32 :: m.data.toList := by
  rw [ByteArray.data_append, Array.toList_append, ByteArray.data_append, Array.toList_append]
  simp
/-- Nothing, and two numbers. -/
def FlEnd (p q : Int) (W : World) (e : Ending) (W' : World) : Prop := e = .returned (.tuple #[.slice none 0 0, .int .i64 p, .int .i64 q]) ∧ Below W.heap.size W W'
/-- A slice, and two numbers. -/
def SlEnd (p q : Int) (W : World) (e : Ending) (W' : World) : Prop := ∃ a n c, e = .returned (.tuple #[.slice a n c, .int .i64 p, .int .i64 q]) ∧ Below W.heap.size W W'
theorem FlEnd.sl {p q : Int} {W : World} {e : Ending} {W' : World} (h : FlEnd p q W e W') : SlEnd p q W e W' := ⟨_, _, _, h.1, h.2⟩
theorem LexEnd.sl {ts : List Tk} {W : World} {e : Ending} {W' : World} (h : LexEnd ts none W e W') : SlEnd 0 0 W e W' := by
  obtain ⟨a, c, rfl, _, _, hb⟩ := h
  exact ⟨a, _, c, rfl, hb⟩
end Go.Proofs.Ytljkmdmbndjngaa
/-
  Trees put together by Node, as they are plainly; Same of the same.
-/
namespace Go.Proofs.Ytljkmdmbndjngaa
set_option linter.unusedVariables false
set_option linter.unusedSimpArgs false
open Go.RowKit

theorem same_nx {a b : Option Addr} {n m c d : Nat} {X : List Tn} {w : World} (hX : X.length ≤ 1000) (h1 : Nx w a n c X) (h2 : Nx w b m d X) : Calls Try.prog 12 #[.slice a n c, .slice b m d] w (ValEnd (.bool true) w) := by
  obtain ⟨f, h1, _, _, e1⟩ := h1
  obtain ⟨g, h3, _, _, e2⟩ := h2
  have l1 : X.length = n := by rw [← e1, tnF_len]
  have l2 : X.length = m := by rw [← e2, tnF_len]
  have := Same_is a b n m c d f g w h1 h3 (by omega) (by omega)
  rwa [tn_same (e1.trans e2.symm)] at this
theorem depth_nx {a : Option Addr} {n c : Nat} {X : List Tn} {w : World} {d : Nat} (hX : X.length ≤ 1000) (h1 : Nx w a n c X) (hd : Dp X 1 d) : Calls Try.prog 17 #[.slice a n c] w (ValEnd (.int .i64 (d : Int)) w) := by
  obtain ⟨f, h1, h2, h3, e1⟩ := h1
  have l1 : X.length = n := by rw [← e1, tnF_len]
  exact Depth_some a n c f n d w h1 h2 h3 (by omega) (deep_tn e1 hd)
/-- Few numbers in each node. -/
def Fw (X : List Tn) : Prop := X.length ≤ 900 ∧ ∀ t ∈ X, t.ns.length ≤ 100
def vnode (k : Int) (v a x : ByteArray) : Value := .agg #[.int .i64 k, .string v, .string a, .string x, .slice none 0 0]
def NnEnd (X : List Tn) (w : World) (e : Ending) (W' : World) : Prop := ∃ a n c, e = .returned (.slice a n c) ∧ Nx W' a n c X ∧ Below w.heap.size w W'
theorem Node_nx (w : World) (k : Int) (v a x : ByteArray) (hk : 0 ≤ k ∧ k ≤ 8) (hv : v.size ≤ 300) (ha : a.size ≤ 300) (hx : x.size ≤ 300) (kd : Nat → Kd) (Ts : List (List Tn)) (h : ∀ i (hi : i < Ts.length), Nx w (kd i).a (kd i).n (kd i).c Ts[i]) (hF : ∀ T ∈ Ts, Fw T) (hl : Ts.length ≤ 3) {cs : Array Value} (hcs : cs.toList = kvs kd Ts.length) (hw : wl Ts ≤ 1000) :
    Calls Try.prog 82 #[vnode k v a x, .slice (some ⟨w.heap.size, 0, none⟩) Ts.length Ts.length] (w.alloc (.cells cs 22)) (NnEnd (⟨k, v.data.toList, a.data.toList, x.data.toList, []⟩ :: Ts.flatten) w) := by
  have hbx := box_below w (.cells cs 22)
  obtain ⟨f, hf⟩ : ∃ f : Nat → Nat → Nd, ∀ i (hi : i < Ts.length), Nq w (kd i).a (kd i).n (f i) ∧ (kd i).n ≤ (kd i).c ∧ (kd i).c ≤ maxLen ∧ tnF (f i) (kd i).n = Ts[i] := by
    have h' : ∀ i, ∃ g : Nat → Nd, ∀ hi : i < Ts.length, Nq w (kd i).a (kd i).n g ∧ (kd i).n ≤ (kd i).c ∧ (kd i).c ≤ maxLen ∧ tnF g (kd i).n = Ts[i] := fun i => by
      by_cases hi : i < Ts.length
      · obtain ⟨g, hg⟩ := h i hi
        exact ⟨g, fun _ => hg⟩
      · exact ⟨fun _ => ⟨0, v, v, v, none, 0, 0, []⟩, fun h => absurd h hi⟩
    obtain ⟨f, hf⟩ := Classical.axiomOfChoice h'
    exact ⟨f, fun i hi => hf i hi⟩
  obtain ⟨k2, hk2⟩ : ∃ k2 : Nat → Kd, k2 = fun i => ⟨(kd i).a, (kd i).n, (kd i).c, f i⟩ := ⟨_, rfl⟩
  have hB : Bk 22 (w.alloc (.cells cs 22)) w.heap.size cs.toList := by
    have := Bk.new 22 w cs.toList
    rwa [Array.toArray_toList] at this
  have hNt : ∀ i (hi : i < Ts.length), Nq (w.alloc (.cells cs 22)) (k2 i).a (k2 i).n (k2 i).f ∧ tnF (k2 i).f (k2 i).n = Ts[i] := fun i hi => by
    rw [hk2]
    exact ⟨(hf i hi).1.below hbx, (hf i hi).2.2.2⟩
  have hn : ∀ m, m ≤ Ts.length → nM k2 m = 1 + wl (Ts.take m) := by
    intro m
    induction m with
    | zero => intro _; rfl
    | succ m ih =>
      intro hm
      show nM k2 m + (k2 m).n = _
      rw [ih (by omega), List.take_succ_eq_append_getElem (by omega), wl_app, wl_cons, ← (hNt m (by omega)).2, tnF_len]
      show _ = 1 + (_ + (_ + 0))
      omega
  have hns : ∀ m, m ≤ Ts.length → ∀ j, j < nM k2 m → (nF (Nd.mk k v a x none 0 0 []) k2 m j).m ≤ 100 := by
    intro m
    induction m with
    | zero => intro _ j _; exact Nat.zero_le _
    | succ m ih =>
      intro hm j hj
      show (ap (nF _ k2 m) (nM k2 m) (k2 m).f j).m ≤ 100
      unfold ap
      by_cases h1 : j < nM k2 m
      · rw [if_pos h1]; exact ih (by omega) j h1
      · rw [if_neg h1]
        have hj : j < nM k2 m + (k2 m).n := hj
        obtain ⟨hq, ht⟩ := hNt m (by omega)
        have hx := (hF Ts[m] (List.getElem_mem (by omega))).2 (tnOf ((k2 m).f (j - nM k2 m))) (by
          rw [← ht]
          exact List.mem_map.2 ⟨j - nM k2 m, List.mem_range.2 (by omega), rfl⟩)
        rw [← (hq.on (j - nM k2 m) (by omega)).nl]
        simpa [tnOf] using hx
  have hM := hn Ts.length (Nat.le_refl _)
  rw [List.take_length] at hM
  have hdon : (Nd.mk k v a x none 0 0 []).on (w.alloc (.cells cs 22)) := ⟨St.nil _ _, Nat.le_refl _, Nat.zero_le _, by show _ ≤ k; omega, by show k ≤ _; omega, by show v.size ≤ _; unfold maxLen; omega, by show a.size ≤ _; unfold maxLen; omega, by show x.size ≤ _; unfold maxLen; omega, fun s hs => by cases hs⟩
  refine (Node_is (Nd.mk k v a x none 0 0 []) (some ⟨w.heap.size, 0, none⟩) Ts.length Ts.length k2 (w.alloc (.cells cs 22)) hdon (fun i hi => (hNt i hi).1) (fun _ => ⟨w.heap.size, 0, rfl, fun i hi => ?_⟩) (by omega) (by omega) (fun j hj => by have := hns _ (Nat.le_refl _) j hj; omega)).mono ?_
  · rw [Nat.zero_add, hB.c i, hcs, kvs_get kd Ts.length i hi, hk2]
  · rintro e W' ⟨r, G, rfl, hown, hon, hsm, hb, _⟩
    obtain ⟨a1, c1, rfl, hc1, hc2, hq1⟩ := own_nq hown hon
    refine ⟨a1, _, c1, rfl, ⟨G, hq1, hc1, hc2, ?_⟩, hbx.trans (hb.mono hbx.size)⟩
    rw [tnF_same hsm, tnF_nF]
    congr 1
    rw [show ((List.range Ts.length).map fun j => tnF (k2 j).f (k2 j).n) = Ts from by
      apply List.ext_getElem?
      intro j
      rw [List.getElem?_map]
      by_cases hj : j < Ts.length
      · rw [List.getElem?_range hj, List.getElem?_eq_getElem hj, Option.map_some, (hNt j hj).2]
      · rw [List.getElem?_eq_none (by rw [List.length_range]; omega), List.getElem?_eq_none (by omega)]; rfl]
theorem Node_nx2 (w : World) (k : Int) (v a x : ByteArray) (hk : 0 ≤ k ∧ k ≤ 8) (hv : v.size ≤ 300) (ha : a.size ≤ 300) (hx : x.size ≤ 300) {a1 a2 : Option Addr} {n1 c1 n2 c2 : Nat} {X1 X2 : List Tn} (h1 : Nx w a1 n1 c1 X1) (h2 : Nx w a2 n2 c2 X2) (f1 : Fw X1) (f2 : Fw X2) (hl : X1.length + X2.length ≤ 1000) :
    Calls Try.prog 82 #[.agg #[.int .i64 k, .string v, .string a, .string x, .slice none 0 0], .slice (some ⟨w.heap.size, 0, none⟩) 2 2] (w.alloc (.cells #[.slice a1 n1 c1, .slice a2 n2 c2] 22)) (NnEnd (⟨k, v.data.toList, a.data.toList, x.data.toList, []⟩ :: (X1 ++ X2)) w) := by
  have := Node_nx w k v a x hk hv ha hx (fun i => if i = 0 then ⟨a1, n1, c1, fun _ => ⟨0, v, v, v, none, 0, 0, []⟩⟩ else ⟨a2, n2, c2, fun _ => ⟨0, v, v, v, none, 0, 0, []⟩⟩) [X1, X2] (fun i hi => by
    match i, hi with
    | 0, _ => exact h1
    | 1, _ => exact h2) (fun T hT => by rcases List.mem_cons.1 hT with rfl | hT; exact f1; rcases List.mem_singleton.1 hT with rfl; exact f2) (by simp) (cs := #[.slice a1 n1 c1, .slice a2 n2 c2]) rfl (by rw [wl_cons, wl_cons]; show _ + (_ + 0) ≤ _; omega)
  rw [show [X1, X2].flatten = X1 ++ X2 by simp] at this
  exact this
theorem Node_nx1 (w : World) (k : Int) (v a x : ByteArray) (hk : 0 ≤ k ∧ k ≤ 8) (hv : v.size ≤ 300) (ha : a.size ≤ 300) (hx : x.size ≤ 300) {a1 : Option Addr} {n1 c1 : Nat} {X1 : List Tn} (h1 : Nx w a1 n1 c1 X1) (f1 : Fw X1) :
    Calls Try.prog 82 #[.agg #[.int .i64 k, .string v, .string a, .string x, .slice none 0 0], .slice (some ⟨w.heap.size, 0, none⟩) 1 1] (w.alloc (.cells #[.slice a1 n1 c1] 22)) (NnEnd (⟨k, v.data.toList, a.data.toList, x.data.toList, []⟩ :: X1) w) := by
  have := Node_nx w k v a x hk hv ha hx (fun _ => ⟨a1, n1, c1, fun _ => ⟨0, v, v, v, none, 0, 0, []⟩⟩) [X1] (fun i hi => by
    obtain rfl : i = 0 := by simp at hi; omega
    exact h1) (fun T hT => by rcases List.mem_singleton.1 hT with rfl; exact f1) (by simp) (cs := #[.slice a1 n1 c1]) rfl (by rw [wl_cons]; show _ + 0 ≤ _; have := f1.1; omega)
  rw [show [X1].flatten = X1 by simp] at this
  exact this
theorem Ln.ns {P : Pk → Prop} {ts : List Pk} {X : List Tn} {r : List Pk} (h : Ln numT ts (some X) r) (hp : ∀ q ∈ ts, P q) (hb : ∀ q ∈ ts, q.k = 3 ∨ q.k = 4 → q.t ≠ [123]) : ∀ t ∈ X, t.ns.length ≤ 100 := by
  obtain ⟨n, Y, rfl, hn, hY⟩ := h.nodes hp hb
  have key : ∀ t, Nok numT P t → t.ns.length ≤ 100 := by
    intro t ht
    cases ht with
    | lit h0 h1 h => exact h1
    | name h h2 => exact Nat.zero_le _
    | one _ _ _ _ => exact Nat.zero_le _
    | body _ _ => exact Nat.zero_le _
    | index => exact Nat.zero_le _
  intro t ht
  rcases List.mem_cons.1 ht with rfl | ht
  · rcases hn with hn | hn
    · exact key _ hn
    · cases hn <;> exact Nat.zero_le _
  · exact key t (hY t ht)
/-- One node in a row of one. -/
theorem nx_one {w : World} {d : Nd} {cs : Array Value} (hcs : cs.toList = d.cells) (hd : d.on w) : Nx (w.alloc (.cells cs 36)) (some ⟨w.heap.size, 0, none⟩) 1 1 [tnOf d] := by
  have hB : Bk 36 (w.alloc (.cells cs 36)) w.heap.size d.cells := by
    have := Bk.new 36 w cs.toList
    rwa [Array.toArray_toList, hcs] at this
  obtain ⟨f, h1, h2, h3, h4, _⟩ := nl_one (B := 0) hB (hd.below (box_below w _)) (Nat.zero_le _) (fun _ _ _ => Nat.zero_le _)
  exact ⟨f, h1, h2, h3, h4⟩
end Go.Proofs.Ytljkmdmbndjngaa
/-
  Canonical, by what Parse tells; texts printed, parsed again.
-/
namespace Go.Proofs.Ytljkmdmbndjngaa
set_option linter.unusedVariables false
set_option linter.unusedSimpArgs false
open Go.RowKit Go.Maps

/-- A tree that may be, wherever it lies. -/
def Mx (X : List Tn) : Prop := X.length ≤ 900 ∧ (∀ t ∈ X, t.ns.length ≤ 100) ∧ ∀ (f : Nat → Nd) (n : Nat), tnF f n = X → mayP f n
theorem Mx.fw {X : List Tn} (h : Mx X) : Fw X := ⟨h.1, h.2.1⟩
/-- What Canonical tells. -/
def CnEnd (t : ByteArray) (p q : Int) (W : World) (e : Ending) (W' : World) : Prop := e = .returned (.tuple #[.string t, .int .i64 p, .int .i64 q]) ∧ Below W.heap.size W W'
theorem print_nx {a : Option Addr} {n c : Nat} {X : List Tn} {W : World} (hX : Mx X) {s : List UInt8} (hs : PrL numB numT X s) (h : Nx W a n c X) : Calls Try.prog 9 #[.slice a n c] W (PnEnd (tx s) 0 W) := by
  obtain ⟨f, h1, h2, h3, e⟩ := h
  have l1 : X.length = n := by rw [← e, tnF_len]
  have := hX.1
  exact Print_yes a n c f W h1 h2 h3 (by omega) (hX.2.2 f n e) (by rw [e]; exact hs)
set_option maxHeartbeats 1600000 in
theorem Can_no (s : ByteArray) (p q : Int) (hq : q = 10 ∨ q = 2 ∨ q = 8) (K : ∀ W, Calls Try.prog 11 #[.string s] W (FlEnd p q W)) (W : World) : Calls Try.prog 13 #[.string s] W (CnEnd ⟨#[]⟩ p q W) := by
  have KK := Lib.hid K
  clear K
  rcases hq with rfl | rfl | rfl
  all_goals
    go_enter Try.func13, Try.ntmps13
    go_wp2_with fail
    refine (KK.out _).mono ?_
    rintro e w1 ⟨rfl, hb⟩
    go_wp2_with fail
    go_ret3
    exact ⟨rfl, hb⟩
set_option maxHeartbeats 1600000 in
theorem Can_yes (s : ByteArray) {X : List Tn} (hX : Mx X) {t : List UInt8} (ht : PrL numB numT X t) (K : ∀ W, Calls Try.prog 11 #[.string s] W (PkEnd X W)) (W : World) : Calls Try.prog 13 #[.string s] W (CnEnd (tx t) 0 0 W) := by
  have KK := Lib.hid K
  have KP := Lib.hid (fun w a n c (h : Nx w a n c X) => print_nx hX ht h)
  clear K hX ht
  go_enter Try.func13, Try.ntmps13
  go_wp2_with fail
  refine (KK.out _).mono ?_
  rintro e w1 ⟨a, n, c, rfl, hN, hb⟩
  have KQ := Lib.hid (KP.out _ _ _ _ hN)
  clear hN
  go_wp2_with fail
  refine KQ.out.mono ?_
  rintro e w2 ⟨rfl, hb2⟩
  have HB := Lib.hid (hb.trans (hb2.mono hb.size))
  clear hb hb2
  go_wp2_with fail
  go_ret3
  exact ⟨rfl, HB.out⟩
/-- What Parse tells of a text of no more than 600 bytes: an error; or a tree, of the parts. -/
inductive Pc (s : ByteArray) : Prop
  | no (p q : Int) (hq : q = 10 ∨ q = 2 ∨ q = 8) (K : ∀ W, Calls Try.prog 11 #[.string s] W (FlEnd p q W))
  | yes (ts : List Tk) (X : List Tn) (d : Nat) (hz : s.size ≤ 256) (hr : Run numB s.data.toList 0 ts none) (hl : Ln numT (pks ts) (some X) []) (hd : Dp X 1 d) (h40 : d ≤ 40) (hX : Mx X) (K : ∀ W, Calls Try.prog 11 #[.string s] W (PkEnd X W))
theorem big_fl {s : ByteArray} (h : 256 < s.size) (hm : s.size ≤ 9223372036854775807) (W : World) : Calls Try.prog 11 #[.string s] W (FlEnd 0 8 W) :=
  (Parse_big s h hm W).mono fun _ _ ⟨h1, h2⟩ => ⟨h1, h2⟩
theorem mx_of {s : ByteArray} {ts : List Tk} {X : List Tn} {d : Nat} (hs : s.size ≤ 256) (hr : Run numB s.data.toList 0 ts none) (hl : Ln numT (pks ts) (some X) []) (hd : Dp X 1 d) (h40 : d ≤ 40) (hX : X.length ≤ 900) : Mx X := by
  refine ⟨hX, hl.ns (P := fun _ => True) (fun _ _ => trivial) (run_few hs hr).2.1, fun f n e => ?_⟩
  refine may_of (P := fun q => q ∈ pks ts) (fun q hq => ?_) hl (fun _ h => h) e hd h40
  have g := hr.ps q hq
  have hl : s.data.toList.length = s.size := Array.length_toList
  exact ⟨g.1, by omega⟩
theorem Pc.any (s : ByteArray) (hm : s.size ≤ 9223372036854775807) : Pc s := by
  by_cases hs : s.size ≤ 256
  · obtain ⟨ts, e, hrun⟩ := Run.any numB s.data.toList 0
    cases e with
    | some q => exact .no q 2 (.inr (.inl rfl)) fun W => Parse_bad s hs ts q hrun W
    | none =>
      obtain ⟨x, r, hR⟩ := Ln.any numT (pks ts)
      have k1 := fun W => Parse_ok s hs ts hrun hR W
      cases ht : told x r with
      | none => exact .no _ 2 (.inr (.inl rfl)) fun W => (k1 W).mono fun e W' h => h.none ht
      | some X =>
        have hfew := told_few hs hrun hR ht
        obtain ⟨rfl, rfl⟩ := told_some ht
        have hbr := (run_few hs hrun).2.1
        obtain ⟨d, hd⟩ := hR.tree hbr
        by_cases h40 : 40 < d
        · refine .no 0 10 (.inl rfl) fun W => (k1 W).mono ?_
          rintro e W' ⟨hb, ⟨h1, _⟩ | ⟨Y, d2, h1, h2, ⟨_, h3⟩ | ⟨h3, _⟩⟩⟩
          · cases h1
          · exact ⟨h3, hb⟩
          · injection h1 with h1
            subst h1
            have := (hd.det h2).2
            omega
        · exact .yes ts X d hs hrun hR hd (by omega) (mx_of hs hrun hR hd (by omega) (by omega)) fun W => (k1 W).mono fun e W' h => h.tree hd (by omega)
  · exact .no 0 8 (.inr (.inr rfl)) fun W => big_fl (by omega) hm W
theorem pks_is (ts : List Tk) : ts.map Tk.pk = pks ts := rfl
/-- What was printed, parsed again. -/
theorem back_parse {X : List Tn} {d : Nat} {t : List UInt8} (ht : PrL numB numT X t) (hz : t.length ≤ 256) (hd : Dp X 1 d) (h40 : d ≤ 40) (W : World) : Calls Try.prog 11 #[.string (tx t)] W (PkEnd X W) := by
  obtain ⟨ts, h1, h2⟩ := ht.back
  exact (Parse_ok (tx t) (by rw [tx_size]; exact hz) ts h1 h2 W).mono fun _ _ h => h.tree hd h40
theorem mayP.dp {f : Nat → Nd} {n : Nat} (h : mayP f n) : ∃ d, Dp (tnF f n) 1 d ∧ d ≤ 40 := by
  obtain ⟨d, hd, h40, _⟩ := h
  refine ⟨d, ?_, h40⟩
  unfold Dp
  rw [← ksF_tn, tnF_len]
  exact hd
end Go.Proofs.Ytljkmdmbndjngaa

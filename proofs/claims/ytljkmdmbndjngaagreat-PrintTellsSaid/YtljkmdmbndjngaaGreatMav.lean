import Derived.Test.YtljkmdmbndjngaaGreatMau
import Derived.Deep.QuietTactic
/-
  The parser's fromTerm.
-/
namespace Go.Proofs.YtljkmdmbndjngaaGreat
set_option linter.unusedVariables false
set_option linter.unusedSimpArgs false
open Go.RowKit

set_option maxRecDepth 10000 in
set_option maxHeartbeats 3200000 in
theorem upTo_q {B : Nat} {W : World} {g : Nat} {pa : Option Addr} {n pc i : Nat} {oa : Option Addr} {on oc : Nat} {ta : Option Addr} {tn tc : Nat} {wh dp : Bool} {ms : List Mb} (h : Bk 84 W g (pcs pa n pc i oa on oc ta tn tc wh dp)) (hr : W.ownsRow B 129 7 (.slice oa on oc) on (obs ms)) (hn : on = ms.length) (hm : on ≤ 1000) :
    Calls Tryz.prog 102 #[.pointer (some ⟨g, 0, none⟩)] W (fun e w' => e = .returned (.string (topU ms)) ∧ ∃ m, w' = W.drewN m) := by
  have c2 := Pc.c2 h
  cases ms with
  | nil =>
    obtain rfl : on = 0 := hn
    clear h hr
    go_enter Tryz.func102, Tryz.ntmps102
    go_wp2_with fail
    go_ret
    exact ⟨rfl, 0, rfl⟩
  | cons b l =>
    obtain ⟨q, rfl, _, _, _, hc, _, _⟩ := own_top hr hn
    obtain ⟨m, hm9⟩ : ∃ m, m = l.length := ⟨_, rfl⟩
    rw [← hm9] at hc
    obtain rfl : on = m + 1 := by rw [hm9]; exact hn
    have cu : W.cell? ⟨q, m * 7 + 6, none⟩ = some (.string b.u) := hc 6 (by omega)
    have w1 : IntKind.i64.wrap ((m : Int) + 1 - 1) = (m : Int) := by rw [Int.add_sub_cancel]; exact wrn (by omega) (by omega)
    have w2 : IntKind.i64.wrap (m : Int) = (m : Int) := wrn (by omega) (by omega)
    have w3 : IntKind.i64.wrap ((m : Int) + 1) = (m : Int) + 1 := wrn (by omega) (by omega)
    have e1 : (((m : Int) + 1) == 0) = false := beq_eq_false_iff_ne.2 (by omega)
    clear h hr hn hc hm9
    show Calls _ _ _ _ (fun e w' => e = .returned (.string b.u) ∧ ∃ m, w' = W.drewN m)
    go_enter Tryz.func102, Tryz.ntmps102
    go_wp2_with fail
    go_quiet (fail)
    go_wp2_with fail
    go_ret
    exact ⟨rfl, _, rfl⟩
def FtEnd (B N : Nat) (ts : List Tk) (g : Nat) (pa : Option Addr) (n pc : Nat) (x : Option (List Tn)) (r : List Pk) (p0 : Nat) (W : World) (e : Ending) (W' : World) : Prop :=
  Fr B W W' ∧ ((e = .returned (.bool true) ∧ ToS B N ts g pa n pc x r (p0 + 1) W') ∨ (e = .returned (.bool false) ∧ FiS B N ts g pa n pc x r 0 W'))
section
variable {B N : Nat} {ts : List Tk} {g : Nat} {pa : Option Addr} {n pc : Nat} {x : Option (List Tn)} {r : List Pk} {i i' : Nat} {W W' : World}
theorem FrS.pos (h : FrS B N ts g pa n pc x r i W) : i ≤ posO g W ∧ posO g W ≤ n := by
  obtain ⟨j, oa, on, oc, kk, dp, ms, K, T, h1, h2, h3, h4, h5, h6⟩ := h
  rw [h1.posO]; exact ⟨h5, h6⟩
theorem WhS.pos (h : WhS B N ts g pa n pc x r i W) : i ≤ posO g W ∧ posO g W ≤ n := by
  obtain ⟨j, oa, on, oc, kk, dp, ms, K, T, h1, h2, h3, h5, h6, _⟩ := h
  rw [h1.posO]; exact ⟨h5, h6⟩
theorem FrS.low (h : FrS B N ts g pa n pc x r i W) (hi : i' ≤ i) : FrS B N ts g pa n pc x r i' W := by
  obtain ⟨j, oa, on, oc, kk, dp, ms, K, T, h1, h2, h3, h4, h5, h6⟩ := h
  exact ⟨j, oa, on, oc, kk, dp, ms, K, T, h1, h2, h3, h4, by omega, h6⟩
theorem WhS.low (h : WhS B N ts g pa n pc x r i W) (hi : i' ≤ i) : WhS B N ts g pa n pc x r i' W := by
  obtain ⟨j, oa, on, oc, kk, dp, ms, K, T, h1, h2, h3, h5, h6, h7⟩ := h
  exact ⟨j, oa, on, oc, kk, dp, ms, K, T, h1, h2, h3, by omega, h6, h7⟩
theorem WhS.fi (h : WhS B N ts g pa n pc x r i W) : FiS B N ts g pa n pc x r 0 W := by
  obtain ⟨j, oa, on, oc, kk, dp, ms, K, T, h1, h2, h3, h5, h6, h7⟩ := h
  exact ⟨j, oa, on, oc, kk, true, dp, ms, K, T, h1, h2, h3, Nat.zero_le _, h6, h7⟩
end
theorem PM.ex0 {B : Nat} {ts : List Tk} {W W' : World} {g : Nat} {pa : Option Addr} {n pc i : Nat} {oa : Option Addr} {on oc : Nat} {ta : Option Addr} {tn tc : Nat} {wh dp : Bool} {ms : List Mb} {K : List Bg} (h : PM B ts W g pa n pc i oa on oc ta tn tc wh dp ms K) (hx : Ex [] W W') : PM B ts W' g pa n pc i oa on oc ta tn tc wh dp ms K := h.ex (Ex.mono hx (by simp)) (h.bk.ex hx (by simp))
section
variable {M : List UInt8 → List UInt8} {T : List Tn} {l : List Pk} {K : List Bg} {x : Option (List Tn)} {r : List Pk}
theorem Mc.dn_nil (h : Mc M (.dn T) l [] x r) : r = l ∧ ((l = [] ∧ x = some T) ∨ (l ≠ [] ∧ x = none)) := by
  cases h with
  | e_end => exact ⟨rfl, .inl ⟨rfl, rfl⟩⟩
  | e_more h => exact ⟨rfl, .inr ⟨h, rfl⟩⟩
theorem Mc.dn_top {p : Bg} {c : UInt8} (h : Mc M (.dn T) l (p :: K) x r) (hu : p.u = some c) : (¬ isMk c l ∧ r = l ∧ x = none) ∨ (∃ q l', l = q :: l' ∧ q.k = 6 ∧ q.t = [c] ∧ Mc M (.mk p T) l' K x r) := by
  cases h with
  | e_pop hb h1 => rw [hu] at hb; cases hb
  | e_mark hb h ht h1 =>
    rw [hu] at hb
    cases hb
    exact .inr ⟨_, _, rfl, h, ht, h1⟩
  | e_not hb h =>
    rw [hu] at hb
    cases hb
    exact .inl ⟨h, rfl, rfl⟩
theorem Mc.fr_inv (h : Mc M (.fr T) l K x r) : (∃ q l', l = q :: l' ∧ q.k = 6 ∧ q.t = [91] ∧ Mc M .to l' (⟨nv 8 [] [] [], [T], some 93⟩ :: K) x r) ∨ (isVb l ∧ Mc M (.vb 4 [T]) l K x r) ∨ (¬ isMk 91 l ∧ ¬ isVb l ∧ Mc M (.dn T) l K x r) := by
  cases h with
  | f_brk h ht h1 => exact .inl ⟨_, _, rfl, h, ht, h1⟩
  | f_verb h h1 => exact .inr (.inl ⟨h, h1⟩)
  | f_done h hv h1 => exact .inr (.inr ⟨h, hv, h1⟩)
end
theorem BgOk.mark {b : Bg} {c : UInt8} (h : BgOk b) (hu : b.u = Option.some c) : cls c = 6 := by
  rcases h with h | ⟨⟨d, hd, h⟩, _⟩
  · rw [hu] at h; cases h.1
  · rw [hu] at hd
    cases hd
    rcases h with rfl | rfl | rfl <;> decide
set_option maxRecDepth 10000 in
set_option maxHeartbeats 6400000 in
theorem fromTerm_is (ts : List Tk) (hP : Pall ts) {B N : Nat} {W : World} {g : Nat} {pa : Option Addr} {n pc p0 : Nat} {x : Option (List Tn)} {r : List Pk} (hN : N ≤ 900) (hm : n ≤ 300) (h : FrS B N ts g pa n pc x r p0 W) :
    Calls Tryz.prog 78 #[.pointer (some ⟨g, 0, none⟩)] W (FtEnd B N ts g pa n pc x r p0 W) := by
  have H0 := Lib.hid h
  clear h
  go_enter Tryz.func78, Tryz.ntmps78
  go_wp2_with fail
  go_loopw [] (fun wr => (FrS B N ts g pa n pc x r p0 wr ∨ WhS B N ts g pa n pc x r p0 wr) ∧ Fr B W wr) (fun wr => n - posO g wr)
  case atStart => exact ⟨.inl H0.out, Fr.refl _ _⟩
  case round =>
    clear H0
    obtain ⟨⟨i, oa, on, oc, kk, dp, ms, K, T, hM, hNt, hMc, hI, hp0, hi⟩ | hW, hF⟩ := hrel
    · have hpos := hM.posO
      have hon := hM.on9 hI hN
      have hi3 : i ≤ 300 := by omega
      have c4 := Pc.c4 hM.bk
      have KN := next_is ts hM.bk (hM.hn ▸ hM.pq.qs) hM.hn hm
      have hvb := hP.vb (i := i)
      have hmk := hP.mk (i := i) (c := 91) (by decide)
      have HM := Lib.hid hM
      have HI := Lib.hid hI
      have HF := Lib.hid hF
      have HNT := Lib.hid hNt
      have HPOS := Lib.hid hpos
      have HN9 := Lib.hid hM.hn
      clear hM hI hF hpos hNt
      obtain ⟨L, hL⟩ : ∃ L, L = (pks ts).drop i := ⟨_, rfl⟩
      rw [← hL] at KN hvb hmk hMc
      have HL := Lib.hid hL
      clear hL
      unfold NxEnd at KN
      obtain ⟨k9, hk9⟩ : ∃ k9, k9 = kd0 L := ⟨_, rfl⟩
      obtain ⟨T9, hT9⟩ : ∃ T9, T9 = tx (tx0 L) := ⟨_, rfl⟩
      rw [← hk9, ← hT9] at KN
      rw [← hk9] at hvb
      have htl : T9.data.toList = tx0 L := by rw [hT9]; rfl
      rw [← htl] at hvb hmk
      have HVB := Lib.hid hvb
      have HMK := Lib.hid hmk
      have HK9 := Lib.hid hk9
      have HT9 := Lib.hid htl
      replace KN := Lib.hid KN
      clear hvb hmk hk9 hT9 htl
      have S1 := Lib.hid (show ∀ w1 p1, Below wr.heap.size wr w1 → PM B ts (w1.alloc (.cells #[.int .i64 k9, .string T9, .int .i64 p1] 80)) g pa n pc i oa on oc kk.a kk.n kk.c false dp ms K ∧ Fr B W (w1.alloc (.cells #[.int .i64 k9, .string T9, .int .i64 p1] 80)) ∧ Bk 80 (w1.alloc (.cells #[.int .i64 k9, .string T9, .int .i64 p1] 80)) w1.heap.size [.int .i64 k9, .string T9, .int .i64 p1] ∧ w1.heap.size ≠ g ∧ (dp = false → Nt B (w1.alloc (.cells #[.int .i64 k9, .string T9, .int .i64 p1] 80)) kk T) by
        intro w1 p1 hb1
        have hM1 := HM.out.below hb1
        have hbx := box_below w1 (.cells #[.int .i64 k9, .string T9, .int .i64 p1] 80)
        exact ⟨hM1.below hbx, (HF.out.trans (Fr.ofB hb1 HM.out.size)).trans (Fr.ofB hbx hM1.size), Bk.new 80 w1 [.int .i64 k9, .string T9, .int .i64 p1], by have := hM1.bk.lt; omega, fun hd => ((HNT.out hd).ex (Ex.of [] hb1) (Off.none _)).ex (Ex.of [] hbx) (Off.none _)⟩)
      rcases hMc.fr_inv with ⟨q, l, rfl, h6, ht, hMt⟩ | ⟨hv, hMt⟩ | ⟨h91, hv, hMd⟩
      · have hTt : T9 = ⟨#[91]⟩ := bytes_ext (b := ⟨#[91]⟩) (HT9.out.trans ht)
        subst hTt
        have hq := drop_next (ts := ts) (i := i) HL.out.symm
        have hin : i + 1 ≤ n := by have := HN9.out; omega
        have HMT := Lib.hid (show Mc numT .to ((pks ts).drop (i + 1)) (⟨nv 8 [] [] [], [T], some 93⟩ :: K) x r by rw [hq.1]; exact hMt)
        clear hMc hMt h6 ht HVB HMK hq
        go_wp2_with fail
        refine KN.out.mono ?_
        rintro e w1 ⟨p1, rfl, hb1⟩
        obtain ⟨hM2, hF2, hT2, hgt, hN2⟩ := S1.out w1 p1 hb1
        have t1 := hT2.p1
        have HM2 := Lib.hid hM2
        have HF2 := Lib.hid hF2
        have HN2 := Lib.hid hN2
        clear hM2 hF2 hT2 hb1 hN2 S1 HM HF KN c4 HNT
        go_upto_region 3 with fail
        generalize w1.alloc (.cells #[.int .i64 k9, .string ⟨#[91]⟩, .int .i64 p1] 80) = w2 at *
        have c1 := Pc.c1 HM2.out.bk
        have f1 := HM2.out.bk.f 1
        have w9 : IntKind.i64.wrap ((i : Int) + 1) = (i : Int) + 1 := wrn (by omega) (by omega)
        go_upto_region 5 with fail
        have hx3 := Ex.setCell (Ex.refl [g] w2) (p := ⟨g, 1, none⟩) (.inl List.mem_cons_self) (.int .i64 ((i : Int) + 1))
        have HM3 := Lib.hid (HM2.out.ex hx3 HM2.out.bk.step)
        have HF3 := Lib.hid (HF2.out.trans (Fr.of hx3 HM2.out.offg HM2.out.size (fun k hk => by rcases List.mem_singleton.1 hk with rfl; exact HM2.out.hg)))
        have HN3 := Lib.hid (fun hd => (HN2.out hd).ex hx3 HM2.out.offg)
        clear c1 f1 w9 t1 hx3 HM2 HF2 HN2
        generalize w2.setCell ⟨g, 1, none⟩ (.int .i64 ((i : Int) + 1)) = w3 at *
        have c3 := Pc.c3 HM3.out.bk
        have hxn := (Ex.refl [] w3).alloc (.cells #[.slice kk.a kk.n kk.c] 22)
        have HM4 := Lib.hid (HM3.out.ex0 hxn)
        have HF4 := Lib.hid (HF3.out.trans (Fr.of hxn (Off.none _) HM3.out.size (fun k hk => by cases hk)))
        have HK4 := Lib.hid (KR.one (fun hd => (HN3.out hd).ex hxn (Off.none _)) (Nat.le_refl _) HM3.out.size)
        have HSL := Lib.hid (fun c hc k hk => (HM3.out.sr.lt c hc k hk).1)
        have KB := Lib.hid (begin_is ⟨⟨8, ⟨#[]⟩, ⟨#[]⟩, ⟨#[]⟩, none, 0, 0, []⟩, some ⟨w3.heap.size, 0, none⟩, 1, 1, fun _ => kk, ⟨#[93]⟩, w3.heap.size⟩ HM4.out.bk HM4.out.row HM4.out.size hon)
        clear hxn HM3 HF3 HN3
        go_wp2_with fail
        refine (show Calls Tryz.prog 95 #[.pointer (some ⟨g, 0, none⟩), .agg #[.int .i64 8, .string ⟨#[]⟩, .string ⟨#[]⟩, .string ⟨#[]⟩, .slice none 0 0], .string ⟨#[93]⟩, .slice (some ⟨w3.heap.size, 0, none⟩) 1 1] (w3.alloc (.cells #[.slice kk.a kk.n kk.c] 22)) _ from KB.out).mono ?_
        rintro e w4 ⟨rfl, hx4, oa', oc', hB4, hr4⟩
        have HFIN := Lib.hid (show FtEnd B N ts g pa n pc x r p0 W (.returned (.bool true)) w4 by
          have hpush := HM4.out.push hx4 (p := ⟨nv 8 [] [] [], [T], some 93⟩) hB4 hr4 HK4.out rfl rfl ⟨St.nil _ _, Nat.le_refl _, Nat.zero_le _, (by decide : (-9223372036854775808 : Int) ≤ 8), (by decide : (8 : Int) ≤ 9223372036854775807), Nat.zero_le _, Nat.zero_le _, Nat.zero_le _, fun s hs => by cases hs⟩ rfl HSL.out (HK4.out.not HM4.out.tyS)
          refine ⟨HF4.out.trans (Fr.of hx4 HM4.out.offs HM4.out.size HM4.out.base), .inl ⟨rfl, ⟨i + 1, _, _, _, _, _, _, _, _, _, hpush, HMT.out, HI.out.push rfl (.inr ⟨⟨93, rfl, .inr (.inl rfl)⟩, .inr (.inr (.inl ⟨rfl, rfl⟩))⟩) ?_, by omega, hin⟩⟩⟩
          rw [wB_ne (by show (8 : Int) ≠ 6; decide)]
          show 1 + wl [T] + _ ≤ wl [T] + _
          omega)
        clear hx4 hB4 hr4 KB HM4 HF4 HK4 HMT HI c3
        go_wp2_with fail
        go_ret
        exact HFIN.out
      · have e91 : (T9.toList == [91]) = false := by
          rw [str_tl]
          refine beq_eq_false_iff_ne.2 fun e => ?_
          have h91 := HMK.out.2 e
          cases L with
          | nil => exact hv
          | cons q l =>
            have h6 : q.k = 6 := h91.1
            have h7 : q.t = [91] := h91.2
            rcases hv with h | h | h
            · omega
            · omega
            · rw [h7] at h; exact absurd h.2 (by decide)
        have hvd : (decide (k9 = 4) || decide (k9 = 3) || decide (T9.data.toList = [123])) = true := by
          rcases HVB.out.1 hv with h | h | h <;> simp [h]
        have KV := Lib.hid (fun p1 w => by have := pIsVerb_is k9 p1 T9 w; rwa [hvd] at this : ∀ p1 w, Calls Tryz.prog 99 #[.agg #[.int .i64 k9, .string T9, .int .i64 p1]] w (ValEnd (.bool true) w))
        have HMT := Lib.hid (show Mc numT (.vb 4 [T]) ((pks ts).drop i) K x r by rw [← HL.out]; exact hMt)
        clear hMc hMt HVB HMK hv hvd
        go_wp2_with fail
        refine KN.out.mono ?_
        rintro e w1 ⟨p1, rfl, hb1⟩
        obtain ⟨hM2, hF2, hT2, hgt, hN2⟩ := S1.out w1 p1 hb1
        have t0 := hT2.p0
        have t1 := hT2.p1
        have t2 := hT2.p2
        have HM2 := Lib.hid hM2
        have HF2 := Lib.hid hF2
        have HN2 := Lib.hid hN2
        clear hM2 hF2 hT2 hb1 hN2 S1 HM HF KN c4 HNT
        go_upto_region 3 with fail
        generalize w1.alloc (.cells #[.int .i64 k9, .string T9, .int .i64 p1] 80) = w2 at *
        go_wp2_with fail
        refine (KV.out p1 _).mono ?_
        rintro e w3 ⟨rfl, hb3⟩
        have HM3 := Lib.hid (HM2.out.below hb3)
        have HF3 := Lib.hid (HF2.out.trans (Fr.ofB hb3 HM2.out.size))
        have HN3 := Lib.hid (fun hd => (HN2.out hd).ex (Ex.of [] hb3) (Off.none _))
        clear hb3 t0 t1 t2 HM2 HF2 HN2 KV
        have c3 := Pc.c3 HM3.out.bk
        have hxn := (Ex.refl [] w3).alloc (.cells #[.slice kk.a kk.n kk.c] 22)
        have HF4 := Lib.hid (HF3.out.trans (Fr.of hxn (Off.none _) HM3.out.size (fun k hk => by cases hk)))
        have KB := Lib.hid (verb_is ts hP (HM3.out.ex0 hxn) hm (by omega) (k := 4) (.inr rfl) (KR.one (fun hd => (HN3.out hd).ex hxn (Off.none _)) (Nat.le_refl _) HM3.out.size) rfl (fun c hc k hk => (HM3.out.sr.lt c hc k hk).1) HMT.out HI.out)
        clear hxn HM3 HF3 HN3 HMT HI
        go_wp2_with fail
        refine KB.out.mono ?_
        rintro e w4 ⟨rfl, hto, hfr⟩
        have HFIN := Lib.hid (show FtEnd B N ts g pa n pc x r p0 W (.returned (.bool true)) w4 from ⟨HF4.out.trans hfr, .inl ⟨rfl, hto.low (by omega)⟩⟩)
        clear hto hfr KB HF4 c3
        go_wp2_with fail
        go_ret
        exact HFIN.out
      · have e91 : (T9.toList == [91]) = false := by
          rw [str_tl]
          exact beq_eq_false_iff_ne.2 fun e => h91 (HMK.out.2 e)
        have hvd : (decide (k9 = 4) || decide (k9 = 3) || decide (T9.data.toList = [123])) = false := by
          have h9 : ¬ (k9 = 4 ∨ k9 = 3 ∨ T9.data.toList = [123]) := fun h => hv (HVB.out.2 h)
          simp only [not_or] at h9
          simp [h9.1, h9.2.1, h9.2.2]
        have KV := Lib.hid (fun p1 w => by have := pIsVerb_is k9 p1 T9 w; rwa [hvd] at this : ∀ p1 w, Calls Tryz.prog 99 #[.agg #[.int .i64 k9, .string T9, .int .i64 p1]] w (ValEnd (.bool false) w))
        have HMT := Lib.hid (show Mc numT (.dn T) ((pks ts).drop i) K x r by rw [← HL.out]; exact hMd)
        clear hMc hMd HVB HMK hv hvd h91
        go_wp2_with fail
        refine KN.out.mono ?_
        rintro e w1 ⟨p1, rfl, hb1⟩
        obtain ⟨hM2, hF2, hT2, hgt, hN2⟩ := S1.out w1 p1 hb1
        have t0 := hT2.p0
        have t1 := hT2.p1
        have t2 := hT2.p2
        have HM2 := Lib.hid hM2
        have HF2 := Lib.hid hF2
        have HN2 := Lib.hid hN2
        have HT2 := Lib.hid hT2
        clear hM2 hF2 hT2 hb1 hN2 S1 HM HF KN c4 HNT
        go_upto_region 3 with fail
        generalize w1.alloc (.cells #[.int .i64 k9, .string T9, .int .i64 p1] 80) = w2 at *
        go_wp2_with fail
        refine (KV.out p1 _).mono ?_
        rintro e w3 ⟨rfl, hb3⟩
        have KF := Lib.hid (finishVerbs_is ts (m := n - i) hN ⟨oa, on, oc, kk, dp, ms, K, T, HM2.out.below hb3, fun hd => (HN2.out hd).ex (Ex.of [] hb3) (Off.none _), HMT.out, HI.out⟩)
        have HF3 := Lib.hid (HF2.out.trans (Fr.ofB hb3 HM2.out.size))
        have HT3 := Lib.hid (HT2.out.on hb3)
        clear hb3 t0 t1 t2 HM2 HF2 HN2 HT2 KV HMT HI hon
        go_upto_region 10 with fail
        go_wp2_with fail
        refine KF.out.mono ?_
        rintro e w4 ⟨rfl, hE, hfr⟩
        have HF4 := Lib.hid (HF3.out.trans hfr)
        have HT4 := Lib.hid (hfr.tok HT3.out)
        obtain ⟨oa4, on4, oc4, kk4, dp4, ms4, K4, T4, hM4, hN4, hMc4, hI4, htop⟩ := hE
        have hon4 := hM4.on9 hI4 hN
        have t1 := HT4.out.p1
        have HM4 := Lib.hid hM4
        have HN4 := Lib.hid hN4
        have HI4 := Lib.hid hI4
        have KUQ := Lib.hid (fun q => upTo_q (W := w4.drewN q) (hM4.bk.drewN q) (hM4.row : (w4.drewN q).ownsRow _ _ _ _ _ _) hM4.hon hon4)
        have HFI := Lib.hid (show ∀ (q : Nat) (y : Option (List Tn)) (s : List Pk), s = (pks ts).drop i → ((i = n ∧ K4 = [] ∧ y = some T4) ∨ ((i < n ∨ K4 ≠ []) ∧ y = none)) → FtEnd B N ts g pa n pc y s p0 W (.returned (.bool false)) (w4.drewN q) from fun q y s hs h => by
          have hx := (Ex.refl [] w4).drewN q
          exact ⟨HF4.out.trans (Fr.of hx (Off.none _) HM4.out.size (fun k hk => by cases hk)), .inr ⟨rfl, ⟨i, oa4, on4, oc4, kk4, false, dp4, ms4, K4, T4, HM4.out.ex0 hx, fun hd => (HN4.out hd).ex hx (Off.none _), HI4.out, Nat.zero_le _, hi, hs, h⟩⟩⟩)
        have hll : ((pks ts).drop i).length = n - i := by rw [List.length_drop, pks_len, HN9.out]
        rw [← HL.out] at hMc4 hll
        clear hM4 hN4 hI4 hfr KF HF3 HT3
        have hempty : (T9.toList.isEmpty = true ↔ L = []) := by
          rw [str_tl, HT9.out]
          cases L with
          | nil => simp [tx0]
          | cons q l =>
            have := ps_ne (hP.at (i := i) HL.out.symm).1
            show q.t.isEmpty = true ↔ _
            rw [List.isEmpty_iff]
            simp [this]
        have stop1 : ∀ q y s, (¬ ∃ c p K5, K4 = p :: K5 ∧ p.u = some c ∧ isMk c L) → Mc numT (.dn T4) L K4 y s → FtEnd B N ts g pa n pc y s p0 W (.returned (.bool false)) (w4.drewN q) := by
          intro q y s hno hMc
          cases hK : K4 with
          | nil =>
            rw [hK] at hMc
            obtain ⟨h1, h2⟩ := hMc.dn_nil
            refine HFI.out q y s (by rw [h1, HL.out]) (h2.imp (fun h => ⟨?_, hK, h.2⟩) (fun h => ⟨.inl ?_, h.2⟩))
            · rw [h.1] at hll; simp at hll; omega
            · rcases Nat.lt_or_ge i n with h3 | h3
              · exact h3
              · exact absurd (List.eq_nil_of_length_eq_zero (by omega)) h.1
          | cons p K5 =>
            cases hu : p.u with
            | none => exact absurd hu (htop p K5 hK)
            | some c =>
              rw [hK] at hMc
              rcases hMc.dn_top hu with ⟨_, h2, h3⟩ | ⟨q', l', h2, h3, h4, _⟩
              · exact HFI.out q y s (by rw [h2, HL.out]) (.inr ⟨.inr (by rw [hK]; simp), h3⟩)
              · exact absurd ⟨c, p, K5, hK, hu, by rw [h2]; exact ⟨h3, h4⟩⟩ hno
        have HST := Lib.hid stop1
        clear stop1
        by_cases hmark : ∃ c p K5, K4 = p :: K5 ∧ p.u = some c ∧ isMk c L
        · obtain ⟨c, p, K5, hK, hu, hmk⟩ := hmark
          subst hK
          cases L with
          | nil => exact hmk.elim
          | cons q l =>
            obtain ⟨h6, hqt⟩ := hmk
            have hT9c : T9 = ⟨#[c]⟩ := bytes_ext (b := ⟨#[c]⟩) (HT9.out.trans hqt)
            subst hT9c
            have hq := drop_next (ts := ts) (i := i) HL.out.symm
            have hin : i + 1 ≤ n := by have := HN9.out; omega
            have hMk : Mc numT (.mk p T4) ((pks ts).drop (i + 1)) K5 x r := by
              rcases hMc4.dn_top hu with ⟨h, _⟩ | ⟨q', l', h2, _, _, h5⟩
              · exact absurd ⟨h6, hqt⟩ h
              · injection h2 with _ h2
                rw [hq.1, h2]; exact h5
            cases ms4 with
            | nil => exact HM4.out.sr.elim
            | cons b l4 =>
              have hbu : b.u = ⟨#[c]⟩ := bytes_ext (b := ⟨#[c]⟩) (by rw [HM4.out.sr.1.u, hu]; rfl)
              have KU2 := Lib.hid (show ∀ q, Calls Tryz.prog 102 #[.pointer (some ⟨g, 0, none⟩)] (w4.drewN q) (fun e w' => e = .returned (.string ⟨#[c]⟩) ∧ ∃ m, w' = (w4.drewN q).drewN m) from fun q => by rw [← hbu]; exact KUQ.out q)
              have HMK := Lib.hid hMk
              have HU := Lib.hid hu
              have i1 : i < n := by omega
              have hdec : ∀ j, i + 1 ≤ j → n - j < n - i := fun j hj => by omega
              have HDEC := Lib.hid hdec
              clear KUQ hempty hMc4 htop hq hMk hu hbu h6 hqt HFI HST hll hdec
              go_wp2_with fail
              go_quiet ((go_at_call 102; exact Calls.quiet_of (KU2.out _)))
              have hx5 := (Ex.refl [] w4).drewN nq
              have HM5 := Lib.hid (HM4.out.ex0 hx5)
              have HN5 := Lib.hid (fun hd => (HN4.out hd).ex hx5 (Off.none _))
              have HF5 := Lib.hid (HF4.out.trans (Fr.of hx5 (Off.none _) HM4.out.size (fun k hk => by cases hk)))
              clear hx5 HM4 HN4 HF4 HT4 t1 KU2
              generalize w4.drewN nq = w5 at *
              have c1 := Pc.c1 HM5.out.bk
              have f1 := HM5.out.bk.f 1
              have w9 : IntKind.i64.wrap ((i : Int) + 1) = (i : Int) + 1 := wrn (by omega) (by omega)
              go_upto_region 14 with fail
              have hx6 := Ex.setCell (Ex.refl [g] w5) (p := ⟨g, 1, none⟩) (.inl List.mem_cons_self) (.int .i64 ((i : Int) + 1))
              have KM := Lib.hid (finishMark_is ts hP hN hm hin (HM5.out.ex hx6 HM5.out.bk.step) (fun hd => (HN5.out hd).ex hx6 HM5.out.offg) HMK.out (HI4.out.less (by omega)) HU.out)
              have HF6 := Lib.hid (HF5.out.trans (Fr.of hx6 HM5.out.offg HM5.out.size (fun k hk => by rcases List.mem_singleton.1 hk with rfl; exact HM5.out.hg)))
              clear c1 f1 w9 hx6 HM5 HN5 HF5
              generalize w5.setCell ⟨g, 1, none⟩ (.int .i64 ((i : Int) + 1)) = w6 at *
              go_wp2_with fail
              refine KM.out.mono ?_
              rintro e w7 ⟨hf7, ⟨rfl, hto⟩ | ⟨rfl, hfs⟩⟩
              · have HFIN := Lib.hid (show FtEnd B N ts g pa n pc x r p0 W (.returned (.bool true)) w7 from ⟨HF6.out.trans hf7, .inl ⟨rfl, hto.low (by omega)⟩⟩)
                clear hf7 hto KM HF6
                go_wp2_with fail
                go_ret
                exact HFIN.out
              · have HFIN := Lib.hid (show ((FrS B N ts g pa n pc x r p0 w7 ∨ WhS B N ts g pa n pc x r p0 w7) ∧ Fr B W w7) ∧ n - posO g w7 < n - i from ⟨⟨hfs.imp (fun h => h.low (by omega)) (fun h => h.low (by omega)), HF6.out.trans hf7⟩, HDEC.out _ (hfs.elim (fun h => h.pos.1) (fun h => h.pos.1))⟩)
                clear hf7 hfs KM HF6
                go_wp2_with fail
                go_roundw
                case rel => exact HFIN.out.1
                case measure => rw [HPOS.out]; exact HFIN.out.2
        · have HEND := Lib.hid (fun q => HST.out q x r hmark hMc4)
          cases he : T9.toList.isEmpty with
          | true =>
            clear hmark hMc4 htop hempty HFI HST hll
            go_wp2_with fail
            go_quiet ((go_at_call 102; exact Calls.quiet_of (KUQ.out _)))
            have HE := Lib.hid (HEND.out nq)
            clear HEND HM4 HN4 HF4 HT4 t1 KUQ HI4
            go_wp2_with fail
            go_ret
            exact HE.out
          | false =>
            have hne : (!T9.toList == (topU ms4).toList) = true := by
              rw [str_tl, str_tl, Bool.not_eq_true', beq_eq_false_iff_ne]
              intro e
              apply hmark
              cases hms : ms4 with
              | nil =>
                rw [hms] at e
                have : T9.toList.isEmpty = true := by rw [str_tl, e]; rfl
                rw [he] at this; cases this
              | cons b l4 =>
                have hM4 := HM4.out
                rw [hms] at hM4 e
                cases hK : K4 with
                | nil => rw [hK] at hM4; exact hM4.sr.elim
                | cons p K5 =>
                  rw [hK] at hM4
                  have hbu := hM4.sr.1.u
                  have e : T9.data.toList = b.u.data.toList := e
                  cases hu : p.u with
                  | none => exact absurd hu (htop p K5 hK)
                  | some c =>
                    rw [hbu, hu, HT9.out] at e
                    have hI := HI4.out
                    rw [hK] at hI
                    refine ⟨c, p, K5, rfl, hu, ?_⟩
                    rw [HL.out]
                    exact (hP.mk (i := i) ((hI.ok p List.mem_cons_self).mark hu)).2 (by rw [← HL.out]; exact e)
            generalize topU ms4 = U at *
            clear hmark hMc4 htop hempty HFI HST hll
            go_wp2_with fail
            go_quiet ((go_at_call 102; exact Calls.quiet_of (KUQ.out _)))
            have HE := Lib.hid (HEND.out nq)
            clear HEND HM4 HN4 HF4 HT4 t1 KUQ HI4
            go_wp2_with fail
            go_ret
            exact HE.out
    · obtain ⟨i, oa, on, oc, kk, dp, ms, K, T, hM, hrest⟩ := id hW
      have c4 := Pc.c4 hM.bk
      have HFIN := Lib.hid (show FtEnd B N ts g pa n pc x r p0 W (.returned (.bool false)) wr from ⟨hF, .inr ⟨rfl, hW.fi⟩⟩)
      clear hM hrest hW hF
      go_wp2_with fail
      go_ret
      exact HFIN.out
end Go.Proofs.YtljkmdmbndjngaaGreat
/-
  The parser's head.
-/
namespace Go.Proofs.YtljkmdmbndjngaaGreat
set_option linter.unusedVariables false
set_option linter.unusedSimpArgs false
open Go.RowKit

def HdEnd (B N : Nat) (ts : List Tk) (g : Nat) (pa : Option Addr) (n pc : Nat) (x : Option (List Tn)) (r : List Pk) (W : World) (e : Ending) (W' : World) : Prop :=
  Fr B W W' ∧ ((e = .returned (.bool true) ∧ ToS B N ts g pa n pc x r 0 W') ∨ (e = .returned (.bool false) ∧ NoS B ts g pa n pc x r W'))
/-- The first two parts in memory. -/
theorem two_parts {W : World} {pa : Option Addr} {ts : List Tk} (hq : Pq W pa ts) (h2 : 2 ≤ ts.length) : ∃ b off k0 T0 p0 k1 T1 p1, pa = some ⟨b, off, none⟩ ∧ W.cell? ⟨b, off, none⟩ = some (.int .i64 k0) ∧ W.cell? ⟨b, off + 1, none⟩ = some (.string T0) ∧ W.cell? ⟨b, off + 2, none⟩ = some (.int .i64 p0) ∧ W.cell? ⟨b, off + 3, none⟩ = some (.int .i64 k1) ∧ W.cell? ⟨b, off + 3 + 1, none⟩ = some (.string T1) ∧ W.cell? ⟨b, off + 3 + 2, none⟩ = some (.int .i64 p1) ∧ ∃ q w l, pks ts = q :: w :: l ∧ k0 = q.k ∧ T0.data.toList = q.t ∧ k1 = w.k ∧ T1.data.toList = w.t ∧ T0.size = q.t.length := by
  match ts, h2 with
  | t0 :: t1 :: l, _ =>
    obtain ⟨b, off, e, hc⟩ := hq.qs (by simp)
    have a0 := hc 0 (by simp)
    have a1 := hc 1 (by simp)
    rw [rtk_at (ts := t0 :: t1 :: l) (j := 0) rfl] at a0
    rw [rtk_at (ts := t0 :: t1 :: l) (j := 1) rfl] at a1
    simp only [Nat.zero_mul, Nat.one_mul, Nat.add_zero] at a0 a1
    exact ⟨b, off, _, _, _, _, _, _, e, a0.1, a0.2.1, a0.2.2, a1.1, a1.2.1, a1.2.2, t0.pk, t1.pk, l.map Tk.pk, rfl, rfl, rfl, rfl, rfl, tx_size _⟩
/-- How a line begins. -/
theorem Hd.inv {M : List UInt8 → List UInt8} {q w : Pk} {l : List Pk} {x : Option (List Tn)} {r : List Pk} (h : Hd M (q :: w :: l) x r) :
    (q.k = 2 ∧ w.k = 6 ∧ w.t = [58] ∧ Mc M .to l [⟨nv 5 [] [] q.t, [], none⟩] x r) ∨ (q.k = 2 ∧ w.k = 6 ∧ w.t = [91] ∧ Mc M .to l [⟨nv 6 [] [] q.t, [], some 93⟩] x r) ∨
    (q.k = 3 ∧ w.k = 6 ∧ w.t = [58] ∧ ¬ isMk 123 l ∧ x = none ∧ r = l) ∨ (q.k = 3 ∧ w.k = 6 ∧ w.t = [58] ∧ ∃ b l', l = b :: l' ∧ b.k = 6 ∧ b.t = [123] ∧ Mc M .to l' [⟨nv 7 [] [] q.t, [], some 125⟩] x r) ∨
    (¬ (q.k = 2 ∧ ((w.k = 6 ∧ w.t = [58]) ∨ (w.k = 6 ∧ w.t = [91]))) ∧ ¬ (q.k = 3 ∧ (w.k = 6 ∧ w.t = [58])) ∧ Mc M .to (q :: w :: l) [] x r) := by
  cases h with
  | assign h h2 ht h1 => exact .inl ⟨h, h2, ht, h1⟩
  | amend h h2 ht h1 => exact .inr (.inl ⟨h, h2, ht, h1⟩)
  | defbad h h2 ht h1 => exact .inr (.inr (.inl ⟨h, h2, ht, h1, rfl, rfl⟩))
  | define h h2 ht h3 hb h1 => exact .inr (.inr (.inr (.inl ⟨h, h2, ht, _, _, rfl, h3, hb, h1⟩)))
  | plain h1 h2 h => exact .inr (.inr (.inr (.inr ⟨h1, h2, h⟩)))
theorem Hd.short {M : List UInt8 → List UInt8} {ts : List Pk} {x : Option (List Tn)} {r : List Pk} (h : Hd M ts x r) (h2 : ts.length < 2) : Mc M .to ts [] x r := by
  cases h with
  | plain h1 h2 h => exact h
  | assign h h2 ht h1 => simp at h2; omega
  | amend h h2 ht h1 => simp at h2; omega
  | defbad h h2 ht h1 => simp at h2; omega
  | define h h2 ht h3 hb h1 => simp at h2; omega
def nmN (k : Int) (x : ByteArray) : Nd := ⟨k, ⟨#[]⟩, ⟨#[]⟩, x, none, 0, 0, []⟩
theorem nmN_on (k : Int) (x : ByteArray) (W : World) (h1 : 0 ≤ k) (h2 : k ≤ 8) (h : x.size ≤ maxLen) : (nmN k x).on W := ⟨St.nil _ _, Nat.le_refl _, Nat.zero_le _, (by show _ ≤ k; omega), (by show k ≤ _; omega), Nat.zero_le _, Nat.zero_le _, h, fun s hs => by cases hs⟩
/-- The first thing that is begun. -/
theorem first_begun {B : Nat} {ts : List Tk} {W w : World} {g : Nat} {pa : Option Addr} {n pc i : Nat} {oa : Option Addr} {oc : Nat} {ta : Option Addr} {tn tc : Nat} {x : Option (List Tn)} {r : List Pk} (h : PM B ts w g pa n pc i oa 0 oc ta tn tc false false [] []) (hF : Fr B W w) (k : Int) (X : ByteArray) (u : Option UInt8) (U : ByteArray) (hk0 : 0 ≤ k) (hk8 : k ≤ 8) (hX : X.size ≤ maxLen) (hU : U.data.toList = u.toList) (hi : i ≤ n) (hi2 : 2 ≤ i)
    (hok : BgOk ⟨nv k [] [] X.data.toList, [], u⟩) (hMc : Mc numT .to ((pks ts).drop i) [⟨nv k [] [] X.data.toList, [], u⟩] x r) :
    Calls Tryz.prog 95 #[.pointer (some ⟨g, 0, none⟩), .agg #[.int .i64 k, .string ⟨#[]⟩, .string ⟨#[]⟩, .string X, .slice none 0 0], .string U, .slice none 0 0] w (fun e W' => e = .returned (.tuple #[]) ∧ HdEnd B n ts g pa n pc x r W (.returned (.bool true)) W') := by
  refine (begin_is ⟨nmN k X, none, 0, 0, fun _ => ⟨none, 0, 0, fun _ => nmN k X⟩, U, w.heap.size⟩ h.bk h.row h.size (by omega)).mono ?_
  rintro e W' ⟨rfl, hx4, oa', oc', hB4, hr4⟩
  have hpush := h.push hx4 (p := ⟨nv k [] [] X.data.toList, [], u⟩) hB4 hr4 (KR.nil B w false w.heap.size h.size _) rfl rfl (nmN_on k X w hk0 hk8 hX) hU (fun c hc => by cases hc) (fun k hk => by cases hk)
  refine ⟨rfl, hF.trans (Fr.of hx4 h.offs h.size h.base), .inl ⟨rfl, ⟨i, _, _, _, _, _, _, _, _, _, hpush, hMc, (Iv.start n).push rfl hok ?_, Nat.zero_le _, hi⟩⟩⟩
  unfold wB
  show (if _ then 2 else 1) + wl [] + (n - i) ≤ wl [] + n
  rw [show wl [] = 0 from rfl]
  split <;> omega
theorem Bk.goto {W : World} {g : Nat} {pa : Option Addr} {n pc i : Nat} {oa : Option Addr} {on oc : Nat} {ta : Option Addr} {tn tc : Nat} {wh dp : Bool} (h : Bk 84 W g (pcs pa n pc i oa on oc ta tn tc wh dp)) (j : Nat) : Bk 84 (W.setCell ⟨g, 1, none⟩ (.int .i64 (j : Int))) g (pcs pa n pc j oa on oc ta tn tc wh dp) := h.set 1 _
set_option maxRecDepth 10000 in
set_option maxHeartbeats 6400000 in
theorem phead_is (ts : List Tk) (hP : Pall ts) {B : Nat} {W : World} {g : Nat} {pa : Option Addr} {n pc : Nat} {oa : Option Addr} {oc : Nat} {ta : Option Addr} {tn tc : Nat} {x : Option (List Tn)} {r : List Pk} (hm : n ≤ 300) (h : PM B ts W g pa n pc 0 oa 0 oc ta tn tc false false [] []) (hR : Hd numT (pks ts) x r) :
    Calls Tryz.prog 76 #[.pointer (some ⟨g, 0, none⟩)] W (HdEnd B n ts g pa n pc x r W) := by
  have c0 := Pc.c0 h.bk
  by_cases h2 : n < 2
  · have e2 : (n : Int) < 2 := by omega
    have HFIN := Lib.hid (show HdEnd B n ts g pa n pc x r W (.returned (.bool true)) W from ⟨Fr.refl _ _, .inl ⟨rfl, ⟨0, _, _, _, _, _, _, _, _, _, h, hR.short (by rw [pks_len, ← h.hn]; exact h2), (Iv.start n).less (by omega), Nat.le_refl _, Nat.zero_le _⟩⟩⟩)
    clear h hR h2
    go_enter Tryz.func76, Tryz.ntmps76
    go_wp2_with fail
    go_ret
    exact HFIN.out
  · obtain ⟨b, off, k0, T0, p0, k1, T1, p1, rfl, a0, a1, a2, b0, b1, b2, q, w, l, hts, hk0, hT0, hk1, hT1, hz0⟩ := two_parts h.pq (by have := h.hn; omega)
    have e2 : ¬ (n : Int) < 2 := by omega
    have e3 : (1 : Int) < (n : Int) := by omega
    have e4 : (0 : Int) < (n : Int) := by omega
    have hbl : b < W.heap.size := World.block_lt_of_cell? W _ a0
    have hbx := box_below W (.cells #[.int .i64 0, .string ⟨#[]⟩, .int .i64 0] 80)
    have c0' := (hbx.cell (p := ⟨g, 0, none⟩) h.bk.lt).trans c0
    have a0' := (hbx.cell (p := ⟨b, off, none⟩) hbl).trans a0
    have a1' := (hbx.cell (p := ⟨b, off + 1, none⟩) hbl).trans a1
    have a2' := (hbx.cell (p := ⟨b, off + 2, none⟩) hbl).trans a2
    have b1' := (hbx.cell (p := ⟨b, off + 3 + 1, none⟩) hbl).trans b1
    have hbz := box_below W (.cells #[.int .i64 k0, .string T0, .int .i64 p0] 80)
    have c9' := (hbz.cell (p := ⟨g, 0, none⟩) h.bk.lt).trans c0
    have a9' := (hbz.cell (p := ⟨b, off, none⟩) hbl).trans a0
    have a91' := (hbz.cell (p := ⟨b, off + 1, none⟩) hbl).trans a1
    have a92' := (hbz.cell (p := ⟨b, off + 2, none⟩) hbl).trans a2
    have b91' := (hbz.cell (p := ⟨b, off + 3 + 1, none⟩) hbl).trans b1
    have HPL := Lib.hid (⟨hts, hk0, hT0, hk1, hT1, hz0⟩ : pks ts = q :: w :: l ∧ k0 = q.k ∧ T0.data.toList = q.t ∧ k1 = w.k ∧ T1.data.toList = w.t ∧ T0.size = q.t.length)
    have HH := Lib.hid h
    have HRR := Lib.hid hR
    have hgw := h.bk.lt
    clear h hbx hbz b0 b2 hts hk0 hT0 hk1 hT1 hz0 hR h2
    go_enter Tryz.func76, Tryz.ntmps76
    go_wp2_with fail
    go_region
    obtain ⟨w1, hw1⟩ : ∃ w1, w1 = ((W.alloc (.cells #[.int .i64 k0, .string T0, .int .i64 p0] 80))).drew := ⟨_, rfl⟩
    have HM1 := Lib.hid (show PM B ts w1 g (some ⟨b, off, none⟩) n pc 0 oa 0 oc ta tn tc false false [] [] by rw [hw1]; exact HH.out.ex0 ((Ex.refl [] W).alloc _).drew)
    have HF1 := Lib.hid (show Fr B W w1 by rw [hw1]; exact Fr.of ((Ex.refl [] W).alloc _).drew (Off.none _) HH.out.size (fun k hk => by cases hk))
    have HT1 := Lib.hid (show Bk 80 w1 W.heap.size [.int .i64 k0, .string T0, .int .i64 p0] by rw [hw1]; exact Bk.new 80 W [.int .i64 k0, .string T0, .int .i64 p0])
    have hgx : W.heap.size ≠ g := by omega
    first | rw [← hw1] | (rw [show (W.alloc (.cells #[.int .i64 k0, .string T0, .int .i64 p0] 80)) = w1 from hw1.symm])
    clear hw1 c0 c0' a0 a0' a1 a1' a2 a2' b1 b1' c9' a9' a91' a92' b91' HH hbl
    have x0 := HT1.out.p0
    have x1 := HT1.out.p1
    have hRR := HRR.out
    rw [HPL.out.1] at hRR
    have hql : q.t.length ≤ 256 := (hP q (by rw [HPL.out.1]; exact List.mem_cons_self)).2
    have hTz : T0.size ≤ maxLen := by rw [HPL.out.2.2.2.2.2]; unfold maxLen; omega
    have hd2 : (pks ts).drop 2 = l := by rw [HPL.out.1]; rfl
    have HD2 := Lib.hid hd2
    clear hd2 HRR
    rcases hRR.inv with ⟨hk, _, ht, hMt⟩ | ⟨hk, _, ht, hMt⟩ | ⟨hk, _, ht, hno, hx, hr⟩ | ⟨hk, _, ht, d, l', hl, hdk, hdt, hMt⟩ | ⟨hn1, hn2, hMt⟩
    · obtain rfl : k0 = 2 := HPL.out.2.1.trans hk
      obtain rfl : T1 = ⟨#[58]⟩ := bytes_ext (b := ⟨#[58]⟩) (HPL.out.2.2.2.2.1.trans ht)
      have HMT := Lib.hid hMt
      clear hk ht hMt hRR
      have c1 := Pc.c1 HM1.out.bk
      have f1 := HM1.out.bk.f 1
      go_upto_region 6 with fail
      have hB2 : Bk 84 (w1.setCell ⟨g, 1, none⟩ (.int .i64 2)) g (pcs (some ⟨b, off, none⟩) n pc 2 oa 0 oc ta tn tc false false) := HM1.out.bk.set 1 (.int .i64 2)
      have hx2 := Ex.setCell (Ex.refl [g] w1) (p := ⟨g, 1, none⟩) (.inl List.mem_cons_self) (.int .i64 2)
      have HM2 := Lib.hid (HM1.out.ex hx2 hB2)
      have HF2 := Lib.hid (HF1.out.trans (Fr.of hx2 HM1.out.offg HM1.out.size (fun k hk => by rcases List.mem_singleton.1 hk with rfl; exact HM1.out.hg)))
      have hT2 := HT1.out.setOther (p := ⟨g, 1, none⟩) hgx (.int .i64 2)
      clear c1 f1 x0 x1 hB2 hx2 HM1 HF1 HT1
      generalize w1.setCell ⟨g, 1, none⟩ (.int .i64 2) = w2 at *
      have KB := Lib.hid (first_begun HM2.out HF2.out 5 T0 none ⟨#[]⟩ (by decide) (by decide) hTz rfl (by omega) (Nat.le_refl _) (.inl ⟨rfl, by show (1 : Int) ≤ 5; decide, by show (5 : Int) ≤ 8; decide, rfl⟩) (by rw [HD2.out, HPL.out.2.2.1]; exact HMT.out))
      have t1 := hT2.p1
      clear hT2 HM2 HF2 HMT
      go_wp2_with fail
      refine KB.out.mono ?_
      rintro e w4 ⟨rfl, hfin⟩
      have HFIN := Lib.hid hfin
      clear hfin KB
      go_wp2_with fail
      go_ret
      exact HFIN.out
    · obtain rfl : k0 = 2 := HPL.out.2.1.trans hk
      obtain rfl : T1 = ⟨#[91]⟩ := bytes_ext (b := ⟨#[91]⟩) (HPL.out.2.2.2.2.1.trans ht)
      have HMT := Lib.hid hMt
      clear hk ht hMt hRR
      have c1 := Pc.c1 HM1.out.bk
      have f1 := HM1.out.bk.f 1
      go_upto_region 9 with fail
      have hB2 : Bk 84 (w1.setCell ⟨g, 1, none⟩ (.int .i64 2)) g (pcs (some ⟨b, off, none⟩) n pc 2 oa 0 oc ta tn tc false false) := HM1.out.bk.set 1 (.int .i64 2)
      have hx2 := Ex.setCell (Ex.refl [g] w1) (p := ⟨g, 1, none⟩) (.inl List.mem_cons_self) (.int .i64 2)
      have HM2 := Lib.hid (HM1.out.ex hx2 hB2)
      have HF2 := Lib.hid (HF1.out.trans (Fr.of hx2 HM1.out.offg HM1.out.size (fun k hk => by rcases List.mem_singleton.1 hk with rfl; exact HM1.out.hg)))
      have hT2 := HT1.out.setOther (p := ⟨g, 1, none⟩) hgx (.int .i64 2)
      clear c1 f1 x0 x1 hB2 hx2 HM1 HF1 HT1
      generalize w1.setCell ⟨g, 1, none⟩ (.int .i64 2) = w2 at *
      have KB := Lib.hid (first_begun HM2.out HF2.out 6 T0 (some 93) ⟨#[93]⟩ (by decide) (by decide) hTz rfl (by omega) (Nat.le_refl _) (.inr ⟨⟨93, rfl, .inr (.inl rfl)⟩, .inr (.inr (.inr (.inl ⟨rfl, rfl⟩)))⟩) (by rw [HD2.out, HPL.out.2.2.1]; exact HMT.out))
      have t1 := hT2.p1
      clear hT2 HM2 HF2 HMT
      go_wp2_with fail
      refine KB.out.mono ?_
      rintro e w4 ⟨rfl, hfin⟩
      have HFIN := Lib.hid hfin
      clear hfin KB
      go_wp2_with fail
      go_ret
      exact HFIN.out
    · obtain rfl : k0 = 3 := HPL.out.2.1.trans hk
      obtain rfl : T1 = ⟨#[58]⟩ := bytes_ext (b := ⟨#[58]⟩) (HPL.out.2.2.2.2.1.trans ht)
      clear hk ht hRR
      have c1 := Pc.c1 HM1.out.bk
      have f1 := HM1.out.bk.f 1
      go_upto_region 12 with fail
      have hB2 : Bk 84 (w1.setCell ⟨g, 1, none⟩ (.int .i64 2)) g (pcs (some ⟨b, off, none⟩) n pc 2 oa 0 oc ta tn tc false false) := HM1.out.bk.set 1 (.int .i64 2)
      have hx2 := Ex.setCell (Ex.refl [g] w1) (p := ⟨g, 1, none⟩) (.inl List.mem_cons_self) (.int .i64 2)
      have HM2 := Lib.hid (HM1.out.ex hx2 hB2)
      have HF2 := Lib.hid (HF1.out.trans (Fr.of hx2 HM1.out.offg HM1.out.size (fun k hk => by rcases List.mem_singleton.1 hk with rfl; exact HM1.out.hg)))
      have hT2 := HT1.out.setOther (p := ⟨g, 1, none⟩) hgx (.int .i64 2)
      clear c1 f1 x0 x1 hB2 hx2 HM1 HF1 HT1
      generalize w1.setCell ⟨g, 1, none⟩ (.int .i64 2) = w2 at *
      have KN := next_is ts HM2.out.bk (HM2.out.hn ▸ HM2.out.pq.qs) HM2.out.hn hm
      have hno2 : tx0 ((pks ts).drop 2) ≠ [123] := fun e => hno (by rw [← HD2.out]; exact (hP.mk (by decide)).2 e)
      unfold NxEnd at KN
      have eT : ((tx (tx0 ((pks ts).drop 2))).toList == [123]) = false := by
        rw [str_tl, tx_list]
        exact beq_eq_false_iff_ne.2 hno2
      generalize kd0 ((pks ts).drop 2) = k9 at KN
      generalize tx (tx0 ((pks ts).drop 2)) = T9 at KN eT
      have K1 := Lib.hid KN
      have hf1 := tok_f1
      have HX := Lib.hid hx
      have HRL := Lib.hid hr
      clear KN hno hno2 hT2 hx hr
      go_wp2_with fail
      refine K1.out.mono ?_
      rintro e w4 ⟨p9, rfl, hb4⟩
      have HFIN := Lib.hid (show HdEnd B n ts g (some ⟨b, off, none⟩) n pc x r W (.returned (.bool false)) w4 from ⟨HF2.out.trans (Fr.ofB hb4 HM2.out.size), .inr ⟨rfl, ⟨2, _, _, _, _, _, _, _, _, _, HM2.out.below hb4, by omega, by rw [HRL.out, HD2.out], HX.out⟩⟩⟩)
      clear hb4 K1 HM2 HF2
      go_wp2_with fail
      go_ret
      exact HFIN.out
    · obtain rfl : k0 = 3 := HPL.out.2.1.trans hk
      obtain rfl : T1 = ⟨#[58]⟩ := bytes_ext (b := ⟨#[58]⟩) (HPL.out.2.2.2.2.1.trans ht)
      have HMT := Lib.hid hMt
      have hd3 := drop_next (ts := ts) (i := 2) (HD2.out.trans hl)
      have hn3 : 3 ≤ n := by have := HM1.out.hn; omega
      have HD3 := Lib.hid hd3.1
      clear hk ht hRR hMt hd3
      have c1 := Pc.c1 HM1.out.bk
      have f1 := HM1.out.bk.f 1
      go_upto_region 12 with fail
      have hB2 : Bk 84 (w1.setCell ⟨g, 1, none⟩ (.int .i64 2)) g (pcs (some ⟨b, off, none⟩) n pc 2 oa 0 oc ta tn tc false false) := HM1.out.bk.set 1 (.int .i64 2)
      have hx2 := Ex.setCell (Ex.refl [g] w1) (p := ⟨g, 1, none⟩) (.inl List.mem_cons_self) (.int .i64 2)
      have HM2 := Lib.hid (HM1.out.ex hx2 hB2)
      have HF2 := Lib.hid (HF1.out.trans (Fr.of hx2 HM1.out.offg HM1.out.size (fun k hk => by rcases List.mem_singleton.1 hk with rfl; exact HM1.out.hg)))
      have hT2 := HT1.out.setOther (p := ⟨g, 1, none⟩) hgx (.int .i64 2)
      clear c1 f1 x0 x1 hB2 hx2 HM1 HF1 HT1
      generalize w1.setCell ⟨g, 1, none⟩ (.int .i64 2) = w2 at *
      have KN := next_is ts HM2.out.bk (HM2.out.hn ▸ HM2.out.pq.qs) HM2.out.hn hm
      rw [HD2.out, hl] at KN
      have KN : Calls Tryz.prog 96 #[.pointer (some ⟨g, 0, none⟩)] w2 (fun e W' => ∃ p : Int, e = .returned (.agg #[.int .i64 d.k, .string ⟨#[123]⟩, .int .i64 p]) ∧ Below w2.heap.size w2 W') := by
        refine KN.mono ?_
        rintro e W' ⟨p, rfl, hb⟩
        exact ⟨p, by rw [show tx0 (d :: l') = d.t from rfl, hdt]; rfl, hb⟩
      have K1 := Lib.hid KN
      have hf1 := tok_f1
      have HT2 := Lib.hid hT2
      clear KN hl hdk hdt hT2
      go_wp2_with fail
      refine K1.out.mono ?_
      rintro e w4 ⟨p9, rfl, hb4⟩
      have HM4 := Lib.hid (HM2.out.below hb4)
      have HF4 := Lib.hid (HF2.out.trans (Fr.ofB hb4 HM2.out.size))
      have HT4 := Lib.hid (HT2.out.on hb4)
      clear hb4 K1 HM2 HF2 HT2
      have c1 := Pc.c1 HM4.out.bk
      have f1 := HM4.out.bk.f 1
      go_upto_region 15 with fail
      have hB5 : Bk 84 (w4.setCell ⟨g, 1, none⟩ (.int .i64 3)) g (pcs (some ⟨b, off, none⟩) n pc 3 oa 0 oc ta tn tc false false) := HM4.out.bk.set 1 (.int .i64 3)
      have hx5 := Ex.setCell (Ex.refl [g] w4) (p := ⟨g, 1, none⟩) (.inl List.mem_cons_self) (.int .i64 3)
      have HM5 := Lib.hid (HM4.out.ex hx5 hB5)
      have HF5 := Lib.hid (HF4.out.trans (Fr.of hx5 HM4.out.offg HM4.out.size (fun k hk => by rcases List.mem_singleton.1 hk with rfl; exact HM4.out.hg)))
      have hT5 := HT4.out.setOther (p := ⟨g, 1, none⟩) hgx (.int .i64 3)
      clear c1 f1 hB5 hx5 HM4 HF4 HT4
      generalize w4.setCell ⟨g, 1, none⟩ (.int .i64 3) = w5 at *
      have KB := Lib.hid (first_begun HM5.out HF5.out 7 T0 (some 125) ⟨#[125]⟩ (by decide) (by decide) hTz rfl hn3 (by omega) (.inr ⟨⟨125, rfl, .inr (.inr rfl)⟩, .inr (.inl ⟨rfl, rfl⟩)⟩) (by rw [HD3.out, HPL.out.2.2.1]; exact HMT.out))
      have t1 := hT5.p1
      clear hT5 HM5 HF5 HMT
      go_wp2_with fail
      refine KB.out.mono ?_
      rintro e w4 ⟨rfl, hfin⟩
      have HFIN := Lib.hid hfin
      clear hfin KB
      go_wp2_with fail
      go_ret
      exact HFIN.out
    · have HFIN := Lib.hid (show HdEnd B n ts g (some ⟨b, off, none⟩) n pc x r W (.returned (.bool true)) w1 from ⟨HF1.out, .inl ⟨rfl, ⟨0, _, _, _, _, _, _, _, _, _, HM1.out, by rw [HPL.out.1]; exact hMt, (Iv.start n).less (by omega), Nat.le_refl _, Nat.zero_le _⟩⟩⟩)
      have hmk : ∀ c : UInt8, cls c = 6 → w.t = [c] → w.k = 6 := fun c hc h => ps_mark (hP w (by rw [HPL.out.1]; exact List.mem_cons_of_mem _ List.mem_cons_self)).1 hc h
      have g1 : ¬ (k0 = 2 ∧ (T1.data.toList = [58] ∨ T1.data.toList = [91])) := by
        rw [HPL.out.2.1, HPL.out.2.2.2.2.1]
        exact fun ⟨h1, h2⟩ => hn1 ⟨h1, h2.imp (fun h => ⟨hmk _ (by decide) h, h⟩) (fun h => ⟨hmk _ (by decide) h, h⟩)⟩
      have g2 : ¬ (k0 = 3 ∧ T1.data.toList = [58]) := by
        rw [HPL.out.2.1, HPL.out.2.2.2.2.1]
        exact fun ⟨h1, h2⟩ => hn2 ⟨h1, hmk _ (by decide) h2, h2⟩
      clear hn1 hn2 hMt hRR HM1 HF1 hmk
      by_cases h2 : k0 = 2
      · subst h2
        have e58 : (T1.toList == [58]) = false := by rw [str_tl]; exact beq_eq_false_iff_ne.2 fun e => g1 ⟨rfl, .inl e⟩
        have e91 : (T1.toList == [91]) = false := by rw [str_tl]; exact beq_eq_false_iff_ne.2 fun e => g1 ⟨rfl, .inr e⟩
        clear g1 g2
        go_wp2_with fail
        go_ret
        exact HFIN.out
      · have e2' : (k0 == 2) = false := beq_eq_false_iff_ne.2 h2
        by_cases h3 : k0 = 3
        · subst h3
          have e58 : (T1.toList == [58]) = false := by rw [str_tl]; exact beq_eq_false_iff_ne.2 fun e => g2 ⟨rfl, e⟩
          clear g1 g2
          go_wp2_with fail
          go_ret
          exact HFIN.out
        · have e3' : (k0 == 3) = false := beq_eq_false_iff_ne.2 h3
          clear g1 g2
          go_wp2_with fail
          go_ret
          exact HFIN.out
end Go.Proofs.YtljkmdmbndjngaaGreat
/-
  The parser's line.
-/
namespace Go.Proofs.YtljkmdmbndjngaaGreat
set_option linter.unusedVariables false
set_option linter.unusedSimpArgs false
open Go.RowKit

/-- A line's tree. -/
def OkS (B : Nat) (ts : List Tk) (g : Nat) (pa : Option Addr) (n pc : Nat) (x : Option (List Tn)) (r : List Pk) (W : World) : Prop :=
  ∃ (i : Nat) (oa : Option Addr) (on oc : Nat) (kk : Kd) (wh dp : Bool) (ms : List Mb) (K : List Bg) (T : List Tn) (d : Nat), PM B ts W g pa n pc i oa on oc kk.a kk.n kk.c wh dp ms K ∧ (dp = false → Nt B W kk T) ∧ x = some T ∧ r = [] ∧ Dp T 1 d ∧ (dp = true ↔ 40 < d) ∧ T.length ≤ n
/-- No line goes on. -/
def FaS (B : Nat) (ts : List Tk) (g : Nat) (pa : Option Addr) (n pc : Nat) (x : Option (List Tn)) (r : List Pk) (W : World) : Prop :=
  ∃ (i : Nat) (oa : Option Addr) (on oc : Nat) (ta : Option Addr) (tn tc : Nat) (wh dp : Bool) (ms : List Mb) (K : List Bg), PM B ts W g pa n pc i oa on oc ta tn tc wh dp ms K ∧ i ≤ n ∧ r = (pks ts).drop i ∧ x = none
def LiEnd (B : Nat) (ts : List Tk) (g : Nat) (pa : Option Addr) (n pc : Nat) (x : Option (List Tn)) (r : List Pk) (W : World) (e : Ending) (W' : World) : Prop :=
  Fr B W W' ∧ ((e = .returned (.bool true) ∧ OkS B ts g pa n pc x r W') ∨ (e = .returned (.bool false) ∧ FaS B ts g pa n pc x r W'))
section
variable {B N : Nat} {ts : List Tk} {g : Nat} {pa : Option Addr} {n pc : Nat} {x : Option (List Tn)} {r : List Pk} {i i' : Nat} {W W' : World}
theorem NoS.fa (h : NoS B ts g pa n pc x r W) : FaS B ts g pa n pc x r W := by
  obtain ⟨i, oa, on, oc, ta, tn, tc, dp, ms, K, h⟩ := h
  exact ⟨i, oa, on, oc, ta, tn, tc, false, dp, ms, K, h⟩
theorem ToS.self (h : ToS B N ts g pa n pc x r i W) : ToS B N ts g pa n pc x r (posO g W) W := by
  obtain ⟨j, oa, on, oc, ta, tn, tc, dp, ms, K, h1, h2, h3, h4, h5⟩ := h
  exact ⟨j, oa, on, oc, ta, tn, tc, dp, ms, K, h1, h2, h3, by rw [h1.posO]; exact Nat.le_refl _, h5⟩
end
set_option maxRecDepth 10000 in
set_option maxHeartbeats 6400000 in
theorem pline_is (ts : List Tk) (hP : Pall ts) {B : Nat} {W : World} {g : Nat} {pa : Option Addr} {n pc : Nat} {oa : Option Addr} {oc : Nat} {ta : Option Addr} {tn tc : Nat} {x : Option (List Tn)} {r : List Pk} (hm : n ≤ 300) (h : PM B ts W g pa n pc 0 oa 0 oc ta tn tc false false [] []) (hR : Hd numT (pks ts) x r) :
    Calls Tryz.prog 60 #[.pointer (some ⟨g, 0, none⟩)] W (LiEnd B ts g pa n pc x r W) := by
  have KH := Lib.hid (phead_is ts hP hm h hR)
  have HQ := Lib.hid h.hn
  clear h hR
  go_enter Tryz.func60, Tryz.ntmps60
  go_wp2_with fail
  refine KH.out.mono ?_
  rintro e w1 ⟨hf1, ⟨rfl, hto⟩ | ⟨rfl, hno⟩⟩
  · have HTO := Lib.hid hto
    have HF1 := Lib.hid hf1
    clear hto hf1 KH
    go_wp2_with fail
    go_loopw [] (fun wr => ToS B n ts g pa n pc x r 0 wr ∧ Fr B W wr) (fun wr => n - posO g wr)
    case atStart => exact ⟨HTO.out, HF1.out⟩
    case round =>
      clear HTO HF1
      obtain ⟨hto, hf⟩ := hrel
      have HPN := Lib.hid hto.pos
      have KT := Lib.hid (toTerm_is ts hP (by omega) hm hto.self)
      have HF := Lib.hid hf
      clear hto hf
      go_wp2_with fail
      refine KT.out.mono ?_
      rintro e w2 ⟨hf2, ⟨rfl, hfr⟩ | ⟨rfl, hno⟩⟩
      · have KF := Lib.hid (fromTerm_is ts hP (by omega) hm hfr)
        have HF2 := Lib.hid (HF.out.trans hf2)
        clear hf2 hfr KT HF
        go_wp2_with fail
        refine KF.out.mono ?_
        rintro e w3 ⟨hf3, ⟨rfl, hto⟩ | ⟨rfl, hfi⟩⟩
        · have HFIN := Lib.hid (show (ToS B n ts g pa n pc x r 0 w3 ∧ Fr B W w3) ∧ n - posO g w3 < n - posO g wr from ⟨⟨hto.low (Nat.zero_le _), HF2.out.trans hf3⟩, by have h1 := hto.pos; have h2 := HPN.out; omega⟩)
          clear hf3 hto KF HF2
          go_wp2_with fail
          go_roundw
          case rel => exact HFIN.out.1
          case measure => exact HFIN.out.2
        · obtain ⟨i, oa3, on3, oc3, kk3, wh3, dp3, ms3, K3, T3, hM3, hN3, hI3, _, hi3, hr3, hx3⟩ := hfi
          have hF3 := HF2.out.trans hf3
          have c0 := Pc.c0 hM3.bk
          have c1 := Pc.c1 hM3.bk
          have c2 := Pc.c2 hM3.bk
          have HGO := Lib.hid (show ∀ q, PM B ts (w3.drewN q) g pa n pc i oa3 on3 oc3 kk3.a kk3.n kk3.c wh3 dp3 ms3 K3 ∧ Fr B W (w3.drewN q) ∧ (dp3 = false → Nt B (w3.drewN q) kk3 T3) from fun q => by
            have hx := (Ex.refl [] w3).drewN q
            exact ⟨hM3.ex0 hx, hF3.trans (Fr.of hx (Off.none _) hM3.size (fun k hk => by cases hk)), fun hd => (hN3 hd).ex hx (Off.none _)⟩)
          have hlen := hM3.len
          rcases hx3 with ⟨rfl, rfl, hx⟩ | ⟨hne, hx⟩
          · obtain ⟨d, hd1, hd2⟩ := hI3.last
            have hTl := hI3.size
            have HFIN := Lib.hid (show ∀ q, LiEnd B ts g pa i pc x r W (.returned (.bool true)) (w3.drewN q) from fun q => ⟨(HGO.out q).2.1, .inl ⟨rfl, ⟨i, oa3, on3, oc3, kk3, wh3, dp3, ms3, [], T3, d, (HGO.out q).1, (HGO.out q).2.2, hx, by rw [hr3]; exact pks_out (by rw [hM3.hn]; exact Nat.le_refl _), hd1, hd2, hTl⟩⟩⟩)
            obtain rfl : on3 = 0 := hlen
            clear hM3 hN3 hI3 hF3 hf3 KF HF2 HGO hx hr3 hd1 hd2 hTl HPN
            go_wp2_with fail
            go_quiet (fail)
            have HE := Lib.hid (HFIN.out nq)
            clear HFIN
            go_wp2_with fail
            go_ret
            exact HE.out
          · have HFIN := Lib.hid (show ∀ q, LiEnd B ts g pa n pc x r W (.returned (.bool false)) (w3.drewN q) from fun q => ⟨(HGO.out q).2.1, .inr ⟨rfl, ⟨i, oa3, on3, oc3, _, _, _, wh3, dp3, ms3, K3, (HGO.out q).1, hi3, hr3, hx⟩⟩⟩)
            by_cases hin : i = n
            · have hK0 : K3 ≠ [] := hne.resolve_left (by omega)
              have hon0 : ¬ on3 = 0 := fun h => hK0 (List.eq_nil_of_length_eq_zero (by omega))
              have e1 : ((i : Int) == (n : Int)) = true := by rw [hin]; simp
              have e2 : ((on3 : Int) == 0) = false := beq_eq_false_iff_ne.2 (by omega)
              have e3 : decide ((on3 : Int) = 0) = false := decide_eq_false (by omega)
              have e4 : decide (on3 = 0) = false := decide_eq_false (by omega)
              subst hin
              clear hM3 hN3 hI3 hF3 hf3 KF HF2 HGO hx hr3 hlen HPN hK0 hne
              go_wp2_with fail
              go_quiet (fail)
              have HE := Lib.hid (HFIN.out nq)
              clear HFIN
              go_wp2_with fail
              go_ret
              exact HE.out
            · have e1 : ((i : Int) == (n : Int)) = false := beq_eq_false_iff_ne.2 (by omega)
              have e3 : decide ((i : Int) = (n : Int)) = false := decide_eq_false (by omega)
              have e4 : decide (i = n) = false := decide_eq_false hin
              clear hM3 hN3 hI3 hF3 hf3 KF HF2 HGO hx hr3 hlen HPN hne
              go_wp2_with fail
              go_quiet (fail)
              have HE := Lib.hid (HFIN.out nq)
              clear HFIN
              go_wp2_with fail
              go_ret
              exact HE.out
      · have HFIN := Lib.hid (show LiEnd B ts g pa n pc x r W (.returned (.bool false)) w2 from ⟨HF.out.trans hf2, .inr ⟨rfl, hno.fa⟩⟩)
        clear hf2 hno KT HF HPN
        go_wp2_with fail
        go_ret
        exact HFIN.out
  · have HFIN := Lib.hid (show LiEnd B ts g pa n pc x r W (.returned (.bool false)) w1 from ⟨hf1, .inr ⟨rfl, hno.fa⟩⟩)
    clear hno hf1 KH
    go_wp2_with fail
    go_ret
    exact HFIN.out
end Go.Proofs.YtljkmdmbndjngaaGreat

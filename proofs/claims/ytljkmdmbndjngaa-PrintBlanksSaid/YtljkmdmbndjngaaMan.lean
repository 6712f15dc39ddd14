import Derived.Test.YtljkmdmbndjngaaMam
/-
  The parser's finishVerbs.
-/
namespace Go.Proofs.Ytljkmdmbndjngaa
set_option linter.unusedVariables false
set_option linter.unusedSimpArgs false
open Go.RowKit

/-- Behind a term, and all that ends with what it stands in: nothing more ends so. -/
def EnS (B N : Nat) (ts : List Tk) (g : Nat) (pa : Option Addr) (n pc : Nat) (x : Option (List Tn)) (r : List Pk) (i m : Nat) (W : World) : Prop :=
  ∃ (oa : Option Addr) (on oc : Nat) (kk : Kd) (dp : Bool) (ms : List Mb) (K : List Bg) (T : List Tn), PM B ts W g pa n pc i oa on oc kk.a kk.n kk.c false dp ms K ∧ (dp = false → Nt B W kk T) ∧ Mc numT (.dn T) ((pks ts).drop i) K x r ∧ Iv dp N K [T] m ∧ (∀ b K2, K = b :: K2 → b.u ≠ none)
/-- A tree grown is laid: the parser behind it. -/
theorem PM.laid {B : Nat} {ts : List Tk} {W w : World} {g : Nat} {pa : Option Addr} {n pc i : Nat} {oa : Option Addr} {on oc : Nat} {ta : Option Addr} {tn tc : Nat} {wh dp dp' : Bool} {ms : List Mb} {K : List Bg} {X : List Tn} {kk : Kd} (h : PM B ts W g pa n pc i oa on oc ta tn tc wh dp ms K) (hx : Ex [g] W w) (hb : Bk 70 w g (pcs pa n pc i oa on oc ta tn tc wh dp')) (hd : dp = true → dp' = true) (hN : dp' = false → Nt B w kk X) :
    PM B ts (w.setCell ⟨g, 3, none⟩ (.slice kk.a kk.n kk.c)) g pa n pc i oa on oc kk.a kk.n kk.c wh dp' ms K ∧ (dp' = false → Nt B (w.setCell ⟨g, 3, none⟩ (.slice kk.a kk.n kk.c)) kk X) := by
  have h1 := h.deeper hx hb hd
  have hx2 := Ex.setCell (Ex.refl [g] w) (p := ⟨g, 3, none⟩) (.inl List.mem_cons_self) (.slice kk.a kk.n kk.c)
  exact ⟨h1.ex hx2 (hb.set 3 _), fun hd => (hN hd).ex hx2 h1.offg⟩
set_option maxRecDepth 10000 in
set_option maxHeartbeats 6400000 in
theorem finishVerbs_is (ts : List Tk) {B N : Nat} {W : World} {g : Nat} {pa : Option Addr} {n pc i m : Nat} {x : Option (List Tn)} {r : List Pk} (hN : N ≤ 900) (h : DnS B N ts g pa n pc x r i m W) :
    Calls Try.prog 74 #[.pointer (some ⟨g, 0, none⟩)] W fun e W' => e = .returned (.tuple #[]) ∧ EnS B N ts g pa n pc x r i m W' ∧ Fr B W W' := by
  have H0 := Lib.hid h
  clear h
  go_enter Try.func74, Try.ntmps74
  go_wp2_with fail
  go_loopw [] (fun wr => DnS B N ts g pa n pc x r i m wr ∧ Fr B W wr) (fun wr => lenO g wr)
  case atStart => exact ⟨H0.out, Fr.refl _ _⟩
  case round =>
    clear H0
    obtain ⟨⟨oa, on, oc, kk, dp, ms, K, T, hM, hT, hMc, hI⟩, hF⟩ := hrel
    have c2 := Pc.c2 hM.bk
    have hlen : lenO g wr = on := by unfold lenO; rw [c2]; rfl
    cases ms with
    | nil =>
      have hon : on = 0 := hM.hon
      subst hon
      have hK : K = [] := by
        have := hM.len
        exact List.eq_nil_of_length_eq_zero this.symm
      subst hK
      have HFIN := Lib.hid (show EnS B N ts g pa n pc x r i m wr ∧ Fr B W wr from ⟨⟨oa, 0, oc, kk, dp, [], [], T, hM, hT, hMc, hI, fun b K2 h => by cases h⟩, hF⟩)
      clear hM hT hMc hI hF hlen
      go_wp2_with fail
      first | go_end0 | refine bodyPost_ret (results_none rfl _ _ _) rfl ?_ | refine bodyPost_end (results_none rfl _ _ _) rfl ?_
      exact ⟨rfl, HFIN.out⟩
    | cons b l =>
      obtain ⟨p, K2, rfl, hS, hlo, hsr, hon⟩ := hM.top
      have hon9 : on ≤ 1000 := by have := iv_len hI; have := hM.len; omega
      have KU := Lib.hid (show Calls _ _ _ _ (ValEnd (.string b.u) wr) from upTo_is hM.bk hM.row hM.hon hon9)
      have hu := hS.u
      have e0 : (0 : Int) < (on : Int) := by omega
      cases hpu : p.u with
      | some c =>
        have eU : b.u.toList.isEmpty = false := by rw [str_tl, hu, hpu]; rfl
        have HM := Lib.hid hM
        have HFIN := Lib.hid (show ∀ w, Below wr.heap.size wr w → EnS B N ts g pa n pc x r i m w ∧ Fr B W w from fun w hb => ⟨⟨oa, on, oc, kk, dp, b :: l, p :: K2, T, hM.below hb, fun hd => (hT hd).ex (Ex.of [] hb) (Off.none _), hMc, hI, fun b K2 h => by cases h; rw [hpu]; simp⟩, hF.trans (Fr.ofB hb hM.size)⟩)
        clear hM hT hMc hI hF hlen hS hlo hsr hu hpu hon
        go_wp2_with fail
        refine KU.out.mono ?_
        rintro e w1 ⟨rfl, hb1⟩
        have HEND := Lib.hid (HFIN.out w1 hb1)
        clear hb1 c2
        go_wp2_with fail
        first | go_end0 | refine bodyPost_ret (results_none rfl _ _ _) rfl ?_ | refine bodyPost_end (results_none rfl _ _ _) rfl ?_
        exact ⟨rfl, HEND.out⟩
      | none =>
        have eU : b.u.toList.isEmpty = true := by rw [str_tl, hu, hpu]; rfl
        have hMc2 := hMc.dn_pop hpu
        obtain ⟨hI2, hbg⟩ := hI.pop
        have hkd := hbg.none hpu
        have hks : p.ks.length ≤ 3 := by have := kdT_le p.n; omega
        have hTr := (tree_put (n := p.n) (l := p.ks ++ [T]) (fun t ht => (hI2.tr t (List.mem_append_left _ ht)).1) (by rw [hkd, List.length_append]; rfl)).1
        have hns : ∀ t ∈ p.ks ++ [T], ∀ x ∈ t, x.ns.length ≤ 100 := fun t ht => (hI2.tr t (List.mem_append_left _ ht)).2
        have hwl : wl (p.ks ++ [T]) ≤ 1000 := by have := hI2.kids; omega
        have hnd : p.n = tnOf b.d := hS.node.symm
        have hpn : p.n.ns.length ≤ 100 := by rw [hnd, tn_ns hS.on hS.dm]; exact Nat.zero_le _
        have HPL := Lib.hid (⟨hMc2, hI2, hkd, hTr, hns, hwl, hnd, hpn, hks⟩ : Mc numT (.dn (p.put T)) ((pks ts).drop i) K2 x r ∧ Iv dp N K2 (p.ks ++ [T]) (m + 1) ∧ kdT p.n = (p.ks.length : Int) + 1 ∧ Tr (p.n :: (p.ks ++ [T]).flatten) ∧ (∀ t ∈ p.ks ++ [T], ∀ x ∈ t, x.ns.length ≤ 100) ∧ wl (p.ks ++ [T]) ≤ 1000 ∧ p.n = tnOf b.d ∧ p.n.ns.length ≤ 100 ∧ p.ks.length ≤ 3)
        have HM := Lib.hid hM
        have HT := Lib.hid hT
        have HF := Lib.hid hF
        have HLO := Lib.hid hlo
        have hdm := hS.dm
        have HLEN := Lib.hid hlen
        clear hM hT hMc hI hF hS hlo hsr hu hpu hMc2 hI2 hbg hkd hks hTr hns hwl hnd hpn
        obtain ⟨⟨dk, dv, da, dx, dg, dm, dc, dn⟩, ka, kn, kc, kd, u, lo⟩ := b
        have hdm : dm = 0 := hdm
        subst hdm
        go_wp2_with fail
        refine KU.out.mono ?_
        rintro e w1 ⟨rfl, hb1⟩
        have HM1 := Lib.hid (HM.out.below hb1)
        have HT1 := Lib.hid (fun hd => (HT.out hd).ex (Ex.of [] hb1) (Off.none _))
        have HF1 := Lib.hid (HF.out.trans (Fr.ofB hb1 HM.out.size))
        clear hb1 c2 HM HT HF KU
        have KL := Lib.hid (show Calls Try.prog 84 #[.pointer (some ⟨g, 0, none⟩)] w1 (fun e W' => e = .returned (.agg #[.int .i64 dk, .string dv, .string da, .string dx, .slice dg 0 dc, .slice ka kn kc, .string u]) ∧ Ex [g] w1 W' ∧ Bk 70 W' g (pcs pa n pc i oa l.length oc kk.a kk.n kk.c false dp) ∧ W'.ownsRow B 100 7 (.slice oa l.length oc) l.length (obs l)) from last_is HM1.out.bk HM1.out.row hon hon9)
        go_wp2_with fail
        refine KL.out.mono ?_
        rintro e w2 ⟨rfl, hx2, hB2, hr2⟩
        obtain ⟨hM2, hd2, lo2, hKR2, hlo2, hsep2⟩ := HM1.out.popped hx2 hB2 hr2
        have HT2 := Lib.hid (fun hd => (HT1.out hd).ex hx2 HM1.out.offg)
        have HF2 := Lib.hid (HF1.out.trans (Fr.of hx2 HM1.out.offg HM1.out.size (fun k hk => by rcases List.mem_singleton.1 hk with rfl; exact HM1.out.hg)))
        replace hKR2 : KR B w2 dp lo2 ka kn kc kd p.ks := hKR2
        have hbx := box_below w2 (.cells #[.int .i64 dk, .string dv, .string da, .string dx, .slice dg 0 dc, .slice ka kn kc, .string u] 100)
        have hX3 := Bk.new 100 w2 [.int .i64 dk, .string dv, .string da, .string dx, .slice dg 0 dc, .slice ka kn kc, .string u]
        rw [show [Value.int .i64 dk, .string dv, .string da, .string dx, .slice dg 0 dc, .slice ka kn kc, .string u].toArray = #[.int .i64 dk, .string dv, .string da, .string dx, .slice dg 0 dc, .slice ka kn kc, .string u] from rfl] at hX3
        have HM3 := Lib.hid (hM2.below hbx)
        have HT3 := Lib.hid (fun hd => (HT2.out hd).ex (Ex.of [] hbx) (Off.none _))
        have HF3 := Lib.hid (HF2.out.trans (Fr.ofB hbx hM2.size))
        have HKR3 := Lib.hid (hKR2.ex (Ex.of [] hbx) (Off.none _) (fun k hk => by simp))
        have HD3 := Lib.hid (hd2.below hbx)
        have hsz3 := hbx.size
        have hgx : w2.heap.size ≠ g := by have := hM2.bk.lt; omega
        have HSEP := Lib.hid hsep2
        have hkn : kn ≤ 5 := by have := hKR2.kl; have := HPL.out.2.2.2.2.2.2.2.2; omega
        clear hx2 hB2 hr2 hM2 hKR2 hd2 KL HM1 HT1 HF1 HT2 HF2 e0 hlen hsep2 hbx
        have c3 : wr.heap.size = wr.heap.size := rfl
        clear c3
        go_wp2_with fail
        generalize w2.alloc (.cells #[.int .i64 dk, .string dv, .string da, .string dx, .slice dg 0 dc, .slice ka kn kc, .string u] 100) = w3 at *
        have hlo3 : lo2 ≤ w3.heap.size := by omega
        have hbn := box_below w3 (.cells #[.slice kk.a kk.n kk.c] 22)
        have c3 := Pc.c3 HM3.out.bk
        have x0 := hX3.p0
        have x1 := hX3.p1
        have x2 := hX3.p2
        have x3 := hX3.p3
        have x4 := hX3.p4
        have x5 := hX3.p5
        have hX4 := hX3.below hbn hX3.lt
        have c3' := Pc.c3 (HM3.out.below hbn).bk
        have x0' := hX4.p0
        have x1' := hX4.p1
        have x2' := hX4.p2
        have x3' := hX4.p3
        have x4' := hX4.p4
        have x5' := hX4.p5
        have HFIN := Lib.hid (show ∀ (w4 w5 : World) (kk5 : Kd) (dp5 : Bool), PM B ts w4 g pa n pc i oa l.length oc kk.a kk.n kk.c false dp l K2 → Ex (Value.slice ka kn kc).ownBlock.toList w3 w4 → Ex [g] w4 w5 → Bk 70 w5 g (pcs pa n pc i oa l.length oc kk.a kk.n kk.c false dp5) → (dp = true → dp5 = true) → (dp = false → (dp5 = true ↔ Deep (tnOf ⟨dk, dv, da, dx, dg, 0, dc, dn⟩ :: (p.ks ++ [T]).flatten))) → (dp5 = false → Nt B w5 kk5 (tnOf ⟨dk, dv, da, dx, dg, 0, dc, dn⟩ :: (p.ks ++ [T]).flatten)) → (DnS B N ts g pa n pc x r i m (w5.setCell ⟨g, 3, none⟩ (.slice kk5.a kk5.n kk5.c)) ∧ Fr B W (w5.setCell ⟨g, 3, none⟩ (.slice kk5.a kk5.n kk5.c))) ∧ lenO g (w5.setCell ⟨g, 3, none⟩ (.slice kk5.a kk5.n kk5.c)) = l.length by
          intro w4 w5 kk5 dp5 hM4 hx4 hx5 hB5 hd5 he5 hN5
          obtain ⟨hM6, hN6⟩ := hM4.laid hx5 hB5 hd5 hN5
          have hI := HPL.out.2.1.put (n := p.n) (by rw [HPL.out.2.2.1, List.length_append]; rfl) HPL.out.2.2.2.2.2.2.2.1 hd5 (by rw [HPL.out.2.2.2.2.2.2.1]; exact he5) (Nat.le_refl _)
          have hb4 := Fr.of hx4 (Off.kids HKR3.out.row) HM3.out.size (fun q hq => by have h1 := (HKR3.out.row.lt q (by simpa using hq)).1; have h2 := HKR3.out.lo; omega)
          have hb5 := Fr.of hx5 hM4.offg hM4.size (fun q hq => by rcases List.mem_singleton.1 hq with rfl; exact hM4.hg)
          have hM5 := hM4.deeper hx5 hB5 hd5
          have hb6 := Fr.of (Ex.setCell (Ex.refl [g] w5) (p := ⟨g, 3, none⟩) (.inl List.mem_cons_self) (.slice kk5.a kk5.n kk5.c)) hM5.offg hM5.size (fun q hq => by rcases List.mem_singleton.1 hq with rfl; exact hM5.hg)
          refine ⟨⟨⟨_, _, _, kk5, dp5, l, K2, p.put T, hM6, ?_, HPL.out.1, hI⟩, ((HF3.out.trans hb4).trans hb5).trans hb6⟩, hM6.lenO⟩
          rw [show p.put T = tnOf ⟨dk, dv, da, dx, dg, 0, dc, dn⟩ :: (p.ks ++ [T]).flatten by unfold Bg.put; rw [HPL.out.2.2.2.2.2.2.1]]
          exact hN6)
        have HX3 := Lib.hid hX3
        have hkn5 : kn ≤ 5000 := by omega
        clear hX3 hX4 hbn
        go_region_law (first
          | (go_simp; go_at_call 70; refine (KG.out).mono ?_; rintro e w5 ⟨kk5, dp5, rfl, hN5, hB5, hx5, hd5, he5⟩; have z3 := Pc.c3 hB5; have zf := hB5.f 3)
          | (refine step_push_any w3 (.tmp 21) (.tmp 26) 98 22 _ 1 24 infoKid Try.underlying98 rfl (by decide) lo2 ka kn kc (kvs kd kn) [.slice kk.a kk.n kk.c] rfl (by intro u hu; rw [List.mem_singleton] at hu; rw [hu]; rfl) rfl rfl rfl rfl rfl rfl rfl rfl HKR3.out.row hlo3 hkn5 (by decide) ?_; intro av cv w4 hown4 hx4; have hM4 := HM3.out.kids HKR3.out HSEP.out hx4; have hoff4 := Off.kids HKR3.out.row; have hkr4 := HKR3.out.snoc HT3.out hown4 hx4 hoff4; have hX5 := HX3.out.ex hx4 (own_not HKR3.out.row HX3.out (by decide)); have y0 := hX5.p0; have y1 := hX5.p1; have y2 := hX5.p2; have y3 := hX5.p3; have y4 := hX5.p4; have HKR4 := Lib.hid hkr4; have HM4 := Lib.hid hM4; have HX4 := Lib.hid hx4; have HOFF4 := Lib.hid hoff4; have KG := Lib.hid (grow_any ⟨dk, dv, da, dx, dg, 0, dc, dn⟩ HM4.out.bk (on_any HD3.out rfl) (Nat.zero_le _) HKR4.out (by omega) HPL.out.2.2.2.2.1 HPL.out.2.2.2.2.2.1 (by have h9 := HPL.out.2.2.2.1; rw [HPL.out.2.2.2.2.2.2.1] at h9; exact h9)); clear hkr4 hM4 hx4 hoff4 hX5 hown4))
        all_goals
          have HE := Lib.hid (HFIN.out w4 w5 kk5 dp5 HM4.out HX4.out hx5 hB5 hd5 he5 hN5)
          clear HFIN hx5 hB5 hd5 he5 hN5 z3 zf y0 y1 y2 y3 y4 HKR4 HM4 HX4 HOFF4 KG x0 x1 x2 x3 x4 x5 x0' x1' x2' x3' x4' x5' c3 c3'
          go_wp2_with fail
          go_roundw
          case rel => exact HE.out.1
          case measure => rw [HE.out.2]; show _ < lenO g wr; rw [HLEN.out, hon]; exact Nat.lt_succ_self _
end Go.Proofs.Ytljkmdmbndjngaa
/-
  The parser's finishMark: parentheses, an Index, a Define.
-/
namespace Go.Proofs.Ytljkmdmbndjngaa
set_option linter.unusedVariables false
set_option linter.unusedSimpArgs false
open Go.RowKit

/-- The end of a line, or where no line goes on. -/
def FiS (B N : Nat) (ts : List Tk) (g : Nat) (pa : Option Addr) (n pc : Nat) (x : Option (List Tn)) (r : List Pk) (i0 : Nat) (W : World) : Prop :=
  ∃ (i : Nat) (oa : Option Addr) (on oc : Nat) (kk : Kd) (wh dp : Bool) (ms : List Mb) (K : List Bg) (T : List Tn), PM B ts W g pa n pc i oa on oc kk.a kk.n kk.c wh dp ms K ∧ (dp = false → Nt B W kk T) ∧ Iv dp N K [T] (n - i) ∧ i0 ≤ i ∧ i ≤ n ∧ r = (pks ts).drop i ∧ ((i = n ∧ K = [] ∧ x = some T) ∨ ((i < n ∨ K ≠ []) ∧ x = none))
/-- The same, at a Define's end: nothing goes on. -/
def WhS (B N : Nat) (ts : List Tk) (g : Nat) (pa : Option Addr) (n pc : Nat) (x : Option (List Tn)) (r : List Pk) (i0 : Nat) (W : World) : Prop :=
  ∃ (i : Nat) (oa : Option Addr) (on oc : Nat) (kk : Kd) (dp : Bool) (ms : List Mb) (K : List Bg) (T : List Tn), PM B ts W g pa n pc i oa on oc kk.a kk.n kk.c true dp ms K ∧ (dp = false → Nt B W kk T) ∧ Iv dp N K [T] (n - i) ∧ i0 ≤ i ∧ i ≤ n ∧ r = (pks ts).drop i ∧ ((i = n ∧ K = [] ∧ x = some T) ∨ ((i < n ∨ K ≠ []) ∧ x = none))
def FmEnd (B N : Nat) (ts : List Tk) (g : Nat) (pa : Option Addr) (n pc : Nat) (x : Option (List Tn)) (r : List Pk) (i0 : Nat) (W : World) (e : Ending) (W' : World) : Prop :=
  Fr B W W' ∧ ((e = .returned (.bool true) ∧ ToS B N ts g pa n pc x r i0 W') ∨ (e = .returned (.bool false) ∧ (FrS B N ts g pa n pc x r i0 W' ∨ WhS B N ts g pa n pc x r i0 W')))
section
variable {M : List UInt8 → List UInt8} {p : Bg} {T : List Tn} {l : List Pk} {K : List Bg} {x : Option (List Tn)} {r : List Pk}
theorem Mc.mk_par (h : Mc M (.mk p T) l K x r) (hk : p.n.k = 0) : Mc M (.fr T) l K x r := by
  cases h with
  | k_par hb h1 => exact h1
  | k_verb hb h1 => omega
  | k_amend hb h ht h1 => omega
  | k_name hb h h1 => omega
  | k_index hb h1 => omega
  | k_def hb => omega
  | k_more hb h => omega
theorem Mc.mk_index (h : Mc M (.mk p T) l K x r) (hk : p.n.k = 8) : Mc M (.fr (p.put T)) l K x r := by
  cases h with
  | k_par hb h1 => omega
  | k_verb hb h1 => omega
  | k_amend hb h ht h1 => omega
  | k_name hb h h1 => omega
  | k_index hb h1 => exact h1
  | k_def hb => omega
  | k_more hb h => omega
theorem Mc.mk_def (h : Mc M (.mk p T) l K x r) (hk : p.n.k = 7) : r = l ∧ ((l = [] ∧ K = [] ∧ x = some (p.put T)) ∨ ((l ≠ [] ∨ K ≠ []) ∧ x = none)) := by
  cases h with
  | k_par hb h1 => omega
  | k_verb hb h1 => omega
  | k_amend hb h ht h1 => omega
  | k_name hb h h1 => omega
  | k_index hb h1 => omega
  | k_def hb => exact ⟨rfl, .inl ⟨rfl, rfl, rfl⟩⟩
  | k_more hb h => exact ⟨rfl, .inr ⟨h, rfl⟩⟩
theorem Mc.mk_verb (h : Mc M (.mk p T) l K x r) (hk : p.n.k = 3 ∨ p.n.k = 4) : Mc M (.ad p.n.k p.n.v (T :: p.ks)) l K x r := by
  cases h with
  | k_par hb h1 => omega
  | k_verb hb h1 => exact h1
  | k_amend hb h ht h1 => omega
  | k_name hb h h1 => omega
  | k_index hb h1 => omega
  | k_def hb => omega
  | k_more hb h => omega
theorem Mc.mk_amend (h : Mc M (.mk p T) l K x r) (hk : p.n.k = 6) : (∃ q l', l = q :: l' ∧ q.k = 6 ∧ q.t = [58] ∧ Mc M .to l' (⟨p.n, [T], none⟩ :: K) x r) ∨ (¬ isMk 58 l ∧ Mc M (.fr (nv 8 [] [] [] :: ([nv 2 [] [] p.n.x] ++ T))) l K x r) := by
  cases h with
  | k_par hb h1 => omega
  | k_verb hb h1 => omega
  | k_amend hb h ht h1 => exact .inl ⟨_, _, rfl, h, ht, h1⟩
  | k_name hb h h1 => exact .inr ⟨h, h1⟩
  | k_index hb h1 => omega
  | k_def hb => omega
  | k_more hb h => omega
theorem BgOk.some {b : Bg} {c : UInt8} (h : BgOk b) (hu : b.u = some c) : ((b.n.k = 0 ∧ b.ks = []) ∨ (b.n.k = 7 ∧ b.ks = []) ∨ (b.n.k = 8 ∧ b.ks.length = 1) ∨ (b.n.k = 6 ∧ b.ks = []) ∨ ((b.n.k = 3 ∨ b.n.k = 4) ∧ b.n.v = [123] ∧ b.n.a = [] ∧ b.n.x = [] ∧ kdT b.n = (b.ks.length : Int) + 2)) := by
  rcases h with h | ⟨_, h⟩
  · rw [hu] at h; cases h.1
  · exact h
end
set_option maxRecDepth 10000 in
set_option maxHeartbeats 6400000 in
theorem fm_par (ts : List Tk) (hP : Pall ts) {B N : Nat} {W : World} {g : Nat} {pa : Option Addr} {n pc i : Nat} {oa : Option Addr} {on oc : Nat} {kk : Kd} {dp : Bool} {ms : List Mb} {p : Bg} {K2 : List Bg} {T : List Tn} {x : Option (List Tn)} {r : List Pk} {c : UInt8} (hN : N ≤ 900) (hm : n ≤ 300) (hi : i ≤ n)
    (hM : PM B ts W g pa n pc i oa on oc kk.a kk.n kk.c false dp ms (p :: K2)) (hT : dp = false → Nt B W kk T) (hMc : Mc numT (.mk p T) ((pks ts).drop i) K2 x r) (hI : Iv dp N (p :: K2) [T] (n - i)) (hu : p.u = some c) (hk : p.n.k = 0) :
    Calls Try.prog 76 #[.pointer (some ⟨g, 0, none⟩)] W (FmEnd B N ts g pa n pc x r i W) := by
  cases ms with
  | nil => exact hM.sr.elim
  | cons b l =>
    obtain ⟨_, _, hpK, hS, hlo, hsr, hon⟩ := hM.top
    injection hpK with e1 e2
    subst e1 e2
    have hon9 : on ≤ 1000 := by have := iv_len hI; have := hM.len; omega
    have hok := hI.pop.2.some hu
    have hnd : p.n = tnOf b.d := hS.node.symm
    have hdk : b.d.k = 0 := by rw [← hk, hnd]; rfl
    have hpn : p.n.ns.length ≤ 100 := by rw [hnd, tn_ns hS.on hS.dm]; exact Nat.zero_le _
    have hdm := hS.dm
    have hks : p.ks = [] := by rcases hok with h | h | h | h | h <;> first | exact h.2 | omega
    have HFP := Lib.hid (show Mc numT (.fr T) ((pks ts).drop i) K2 x r ∧ Iv dp N K2 [T] (n - i) from ⟨hMc.mk_par hk, by have := hI.pop.1; rw [hks] at this; exact this.less (by omega)⟩)
    clear hok hks
    obtain ⟨⟨dk, dv, da, dx, dg, dm, dc, dn⟩, ka, kn, kc, kd, u, lo⟩ := b
    have hdm : dm = 0 := hdm
    have hdk : dk = 0 := hdk
    subst hdm hdk
    have HMC := Lib.hid hMc
    have HND := Lib.hid hnd
    have HPN := Lib.hid hpn
    have HI := Lib.hid hI
    have HM := Lib.hid hM
    have HT := Lib.hid hT
    have KL := Lib.hid (show Calls Try.prog 84 #[.pointer (some ⟨g, 0, none⟩)] W (fun e W' => e = .returned (.agg #[.int .i64 0, .string dv, .string da, .string dx, .slice dg 0 dc, .slice ka kn kc, .string u]) ∧ Ex [g] W W' ∧ Bk 70 W' g (pcs pa n pc i oa l.length oc kk.a kk.n kk.c false dp) ∧ W'.ownsRow B 100 7 (.slice oa l.length oc) l.length (obs l)) from last_is hM.bk hM.row hon hon9)
    clear hM hT hMc hI hS hlo hsr hnd hpn
    go_enter Try.func76, Try.ntmps76
    go_wp2_with fail
    refine KL.out.mono ?_
    rintro e w2 ⟨rfl, hx2, hB2, hr2⟩
    obtain ⟨hM2, hd2, lo2, hKR2, hlo2, hsep2⟩ := HM.out.popped hx2 hB2 hr2
    have HT2 := Lib.hid (fun hd => (HT.out hd).ex hx2 HM.out.offg)
    have HF2 := Lib.hid (Fr.of hx2 HM.out.offg HM.out.size (fun k hk => by rcases List.mem_singleton.1 hk with rfl; exact HM.out.hg))
    replace hKR2 : KR B w2 dp lo2 ka kn kc kd p.ks := hKR2
    have hbx := box_below w2 (.cells #[.int .i64 0, .string dv, .string da, .string dx, .slice dg 0 dc, .slice ka kn kc, .string u] 100)
    have hX3 := Bk.new 100 w2 [.int .i64 0, .string dv, .string da, .string dx, .slice dg 0 dc, .slice ka kn kc, .string u]
    rw [show [Value.int .i64 0, .string dv, .string da, .string dx, .slice dg 0 dc, .slice ka kn kc, .string u].toArray = #[.int .i64 0, .string dv, .string da, .string dx, .slice dg 0 dc, .slice ka kn kc, .string u] from rfl] at hX3
    have HM3 := Lib.hid (hM2.below hbx)
    have HT3 := Lib.hid (fun hd => (HT2.out hd).ex (Ex.of [] hbx) (Off.none _))
    have HF3 := Lib.hid (HF2.out.trans (Fr.ofB hbx hM2.size))
    have HKR3 := Lib.hid (hKR2.ex (Ex.of [] hbx) (Off.none _) (fun k hk => by simp))
    have HD3 := Lib.hid (hd2.below hbx)
    have hsz3 := hbx.size
    have hgx : w2.heap.size ≠ g := by have := hM2.bk.lt; omega
    have HSEP := Lib.hid hsep2
    have hbl : w2.heap.size < (w2.alloc (.cells #[.int .i64 0, .string dv, .string da, .string dx, .slice dg 0 dc, .slice ka kn kc, .string u] 100)).heap.size := by simp
    clear hx2 hB2 hr2 hM2 hKR2 hd2 KL HT2 HF2 hsep2 hbx HM HT
    go_upto_region 2 with fail
    generalize w2.alloc (.cells #[.int .i64 0, .string dv, .string da, .string dx, .slice dg 0 dc, .slice ka kn kc, .string u] 100) = w3 at *
    have hlo3 : lo2 ≤ w3.heap.size := by omega
    have HX3 := Lib.hid hX3
    have x0 := hX3.p0
    clear hX3
    have HFIN := Lib.hid (show FmEnd B N ts g pa n pc x r i W (.returned (.bool false)) w3 from ⟨HF3.out, .inr ⟨rfl, .inl ⟨i, oa, l.length, oc, kk, dp, l, K2, T, HM3.out, HT3.out, HFP.out.1, HFP.out.2, Nat.le_refl _, hi⟩⟩⟩)
    clear HM3 HT3 HF3 HKR3 HD3 HSEP HX3
    go_wp2_with fail
    go_ret
    exact HFIN.out
set_option maxRecDepth 10000 in
set_option maxHeartbeats 6400000 in
theorem fm_index (ts : List Tk) (hP : Pall ts) {B N : Nat} {W : World} {g : Nat} {pa : Option Addr} {n pc i : Nat} {oa : Option Addr} {on oc : Nat} {kk : Kd} {dp : Bool} {ms : List Mb} {p : Bg} {K2 : List Bg} {T : List Tn} {x : Option (List Tn)} {r : List Pk} {c : UInt8} (hN : N ≤ 900) (hm : n ≤ 300) (hi : i ≤ n)
    (hM : PM B ts W g pa n pc i oa on oc kk.a kk.n kk.c false dp ms (p :: K2)) (hT : dp = false → Nt B W kk T) (hMc : Mc numT (.mk p T) ((pks ts).drop i) K2 x r) (hI : Iv dp N (p :: K2) [T] (n - i)) (hu : p.u = some c) (hk : p.n.k = 8) :
    Calls Try.prog 76 #[.pointer (some ⟨g, 0, none⟩)] W (FmEnd B N ts g pa n pc x r i W) := by
  cases ms with
  | nil => exact hM.sr.elim
  | cons b l =>
    obtain ⟨_, _, hpK, hS, hlo, hsr, hon⟩ := hM.top
    injection hpK with e1 e2
    subst e1 e2
    have hon9 : on ≤ 1000 := by have := iv_len hI; have := hM.len; omega
    have hok := hI.pop.2.some hu
    have hnd : p.n = tnOf b.d := hS.node.symm
    have hdk : b.d.k = 8 := by rw [← hk, hnd]; rfl
    have hpn : p.n.ns.length ≤ 100 := by rw [hnd, tn_ns hS.on hS.dm]; exact Nat.zero_le _
    have hdm := hS.dm
    have hks : p.ks.length ≤ 1 := by rcases hok with h | h | h | h | h <;> first | omega | (rw [h.2]; simp)
    have hkd : kdT p.n = ((p.ks ++ [T]).length : Int) := by
      have h1 : p.ks.length = 1 := by rcases hok with h | h | h | h | h <;> first | exact h.2 | omega
      rw [List.length_append, h1]
      unfold kdT
      rw [hk]; rfl
    have HPL := Lib.hid (show p.ks.length ≤ 1 ∧ Iv dp N K2 (p.ks ++ [T]) (n - i + 1) ∧ kdT p.n = ((p.ks ++ [T]).length : Int) ∧ (∀ t ∈ p.ks ++ [T], ∀ x ∈ t, x.ns.length ≤ 100) ∧ wl (p.ks ++ [T]) ≤ 1000 ∧ Tr (tnOf b.d :: (p.ks ++ [T]).flatten) from ⟨hks, hI.pop.1, hkd, fun t ht => (hI.pop.1.tr t (List.mem_append_left _ ht)).2, by have := hI.pop.1.kids; omega, by rw [← hnd]; exact (tree_put (fun t ht => (hI.pop.1.tr t (List.mem_append_left _ ht)).1) hkd).1⟩)
    clear hok hks hkd
    have HFP := Lib.hid (hMc.mk_index hk)
    obtain ⟨⟨dk, dv, da, dx, dg, dm, dc, dn⟩, ka, kn, kc, kd, u, lo⟩ := b
    have hdm : dm = 0 := hdm
    have hdk : dk = 8 := hdk
    subst hdm hdk
    have HMC := Lib.hid hMc
    have HND := Lib.hid hnd
    have HPN := Lib.hid hpn
    have HI := Lib.hid hI
    have HM := Lib.hid hM
    have HT := Lib.hid hT
    have KL := Lib.hid (show Calls Try.prog 84 #[.pointer (some ⟨g, 0, none⟩)] W (fun e W' => e = .returned (.agg #[.int .i64 8, .string dv, .string da, .string dx, .slice dg 0 dc, .slice ka kn kc, .string u]) ∧ Ex [g] W W' ∧ Bk 70 W' g (pcs pa n pc i oa l.length oc kk.a kk.n kk.c false dp) ∧ W'.ownsRow B 100 7 (.slice oa l.length oc) l.length (obs l)) from last_is hM.bk hM.row hon hon9)
    clear hM hT hMc hI hS hlo hsr hnd hpn
    go_enter Try.func76, Try.ntmps76
    go_wp2_with fail
    refine KL.out.mono ?_
    rintro e w2 ⟨rfl, hx2, hB2, hr2⟩
    obtain ⟨hM2, hd2, lo2, hKR2, hlo2, hsep2⟩ := HM.out.popped hx2 hB2 hr2
    have HT2 := Lib.hid (fun hd => (HT.out hd).ex hx2 HM.out.offg)
    have HF2 := Lib.hid (Fr.of hx2 HM.out.offg HM.out.size (fun k hk => by rcases List.mem_singleton.1 hk with rfl; exact HM.out.hg))
    replace hKR2 : KR B w2 dp lo2 ka kn kc kd p.ks := hKR2
    have hbx := box_below w2 (.cells #[.int .i64 8, .string dv, .string da, .string dx, .slice dg 0 dc, .slice ka kn kc, .string u] 100)
    have hX3 := Bk.new 100 w2 [.int .i64 8, .string dv, .string da, .string dx, .slice dg 0 dc, .slice ka kn kc, .string u]
    rw [show [Value.int .i64 8, .string dv, .string da, .string dx, .slice dg 0 dc, .slice ka kn kc, .string u].toArray = #[.int .i64 8, .string dv, .string da, .string dx, .slice dg 0 dc, .slice ka kn kc, .string u] from rfl] at hX3
    have HM3 := Lib.hid (hM2.below hbx)
    have HT3 := Lib.hid (fun hd => (HT2.out hd).ex (Ex.of [] hbx) (Off.none _))
    have HF3 := Lib.hid (HF2.out.trans (Fr.ofB hbx hM2.size))
    have HKR3 := Lib.hid (hKR2.ex (Ex.of [] hbx) (Off.none _) (fun k hk => by simp))
    have HD3 := Lib.hid (hd2.below hbx)
    have hsz3 := hbx.size
    have hgx : w2.heap.size ≠ g := by have := hM2.bk.lt; omega
    have HSEP := Lib.hid hsep2
    have hbl : w2.heap.size < (w2.alloc (.cells #[.int .i64 8, .string dv, .string da, .string dx, .slice dg 0 dc, .slice ka kn kc, .string u] 100)).heap.size := by simp
    clear hx2 hB2 hr2 hM2 hKR2 hd2 KL HT2 HF2 hsep2 hbx HM HT
    go_upto_region 2 with fail
    generalize w2.alloc (.cells #[.int .i64 8, .string dv, .string da, .string dx, .slice dg 0 dc, .slice ka kn kc, .string u] 100) = w3 at *
    have hlo3 : lo2 ≤ w3.heap.size := by omega
    have HX3 := Lib.hid hX3
    have x0 := hX3.p0
    clear hX3
    have hkn : kn ≤ 5 := by have := HPL.out.1; have := HKR3.out.kl; omega
    have hkn5 : kn ≤ 5000 := by omega
    have HFIN := Lib.hid (show ∀ (w4 w5 : World) (kk5 : Kd) (dp5 : Bool), PM B ts w4 g pa n pc i oa l.length oc kk.a kk.n kk.c false dp l K2 → Ex (Value.slice ka kn kc).ownBlock.toList w3 w4 → Ex [g] w4 w5 → Bk 70 w5 g (pcs pa n pc i oa l.length oc kk.a kk.n kk.c false dp5) → (dp = true → dp5 = true) → (dp = false → (dp5 = true ↔ Deep (tnOf ⟨8, dv, da, dx, dg, 0, dc, dn⟩ :: (p.ks ++ [T]).flatten))) → (dp5 = false → Nt B w5 kk5 (tnOf ⟨8, dv, da, dx, dg, 0, dc, dn⟩ :: (p.ks ++ [T]).flatten)) → ∀ v, FmEnd B N ts g pa n pc x r i W (.returned (.bool false)) ((w5.setCell ⟨g, 3, none⟩ (.slice kk5.a kk5.n kk5.c)).setCell ⟨g, 4, none⟩ (.bool v)) ∨ v = true by
      intro w4 w5 kk5 dp5 hM4 hx4 hx5 hB5 hd5 he5 hN5 v
      by_cases hv : v = true
      · exact .inr hv
      left
      obtain ⟨hM6, hN6⟩ := hM4.laid hx5 hB5 hd5 hN5
      have hI := HPL.out.2.1.put (n := p.n) HPL.out.2.2.1 HPN.out hd5 (by rw [HND.out]; exact he5) (show n - i + 1 ≤ n - i + 1 from Nat.le_refl _)
      have hb4 := Fr.of hx4 (Off.kids HKR3.out.row) HM3.out.size (fun q hq => by have h1 := (HKR3.out.row.lt q (by simpa using hq)).1; have h2 := HKR3.out.lo; omega)
      have hb5 := Fr.of hx5 hM4.offg hM4.size (fun q hq => by rcases List.mem_singleton.1 hq with rfl; exact hM4.hg)
      have hM5 := hM4.deeper hx5 hB5 hd5
      have hb6 := Fr.of (Ex.setCell (Ex.refl [g] w5) (p := ⟨g, 3, none⟩) (.inl List.mem_cons_self) (.slice kk5.a kk5.n kk5.c)) hM5.offg hM5.size (fun q hq => by rcases List.mem_singleton.1 hq with rfl; exact hM5.hg)
      have hx7 := Ex.setCell (Ex.refl [g] (w5.setCell ⟨g, 3, none⟩ (.slice kk5.a kk5.n kk5.c))) (p := ⟨g, 4, none⟩) (.inl List.mem_cons_self) (.bool v)
      have hb7 := Fr.of hx7 hM6.offg hM6.size (fun q hq => by rcases List.mem_singleton.1 hq with rfl; exact hM6.hg)
      have hM7 := hM6.ex hx7 (wh' := v) (hM6.bk.set 4 (.bool v))
      have hN7 : dp5 = false → Nt B _ kk5 (p.put T) := fun hd => by
        rw [show p.put T = tnOf ⟨8, dv, da, dx, dg, 0, dc, dn⟩ :: (p.ks ++ [T]).flatten by unfold Bg.put; rw [HND.out]]
        exact (hN6 hd).ex hx7 hM6.offg
      refine ⟨(((HF3.out.trans hb4).trans hb5).trans hb6).trans hb7, .inr ⟨rfl, ?_⟩⟩
      cases v with
      | true =>
        exact absurd rfl hv
      | false =>
        exact .inl ⟨i, oa, l.length, oc, kk5, dp5, l, K2, p.put T, hM7, hN7, HFP.out, hI, Nat.le_refl _, hi⟩)
    have hbn := box_below w3 (.cells #[.slice kk.a kk.n kk.c] 22)
    have c3 := Pc.c3 HM3.out.bk
    have x1 := HX3.out.p1
    have x2 := HX3.out.p2
    have x3 := HX3.out.p3
    have x4 := HX3.out.p4
    have x5 := HX3.out.p5
    have hX4 := HX3.out.below hbn HX3.out.lt
    have c3' := Pc.c3 (HM3.out.below hbn).bk
    have x0' := hX4.p0
    have x1' := hX4.p1
    have x2' := hX4.p2
    have x3' := hX4.p3
    have x4' := hX4.p4
    have x5' := hX4.p5
    clear hX4 hbn
    go_wp2_with fail
    go_region_law (first
      | (go_simp; go_at_call 70; refine (KG.out).mono ?_; rintro e w5 ⟨kk5, dp5, rfl, hN5, hB5, hx5, hd5, he5⟩; have z3 := Pc.c3 hB5; have zf := hB5.f 3; have hX6 := (HX5.out.ex hx5 (by intro hh; exact hgx (List.mem_singleton.1 hh))).setOther (p := ⟨g, 3, none⟩) hgx (.slice kk5.a kk5.n kk5.c); have hB6 := hB5.set 3 (.slice kk5.a kk5.n kk5.c); have v0 := hX6.p0; have v4 := hB6.c 4; have vf := hB6.f 4)
      | (refine step_push_any w3 (.tmp 73) (.tmp 78) 98 22 _ 1 24 infoKid Try.underlying98 rfl (by decide) lo2 ka kn kc (kvs kd kn) [.slice kk.a kk.n kk.c] rfl (by intro u hu; rw [List.mem_singleton] at hu; rw [hu]; rfl) rfl rfl rfl rfl rfl rfl rfl rfl HKR3.out.row hlo3 hkn5 (by decide) ?_; intro av cv w4 hown4 hx4; have hM4 := HM3.out.kids HKR3.out HSEP.out hx4; have hoff4 := Off.kids HKR3.out.row; have hkr4 := HKR3.out.snoc HT3.out hown4 hx4 hoff4; have hX5 := HX3.out.ex hx4 (own_not HKR3.out.row HX3.out (by decide)); have y0 := hX5.p0; have y1 := hX5.p1; have y2 := hX5.p2; have y3 := hX5.p3; have y4 := hX5.p4; have HX5 := Lib.hid hX5; have HKR4 := Lib.hid hkr4; have HM4 := Lib.hid hM4; have HX4 := Lib.hid hx4; have HOFF4 := Lib.hid hoff4; have KG := Lib.hid (grow_any ⟨8, dv, da, dx, dg, 0, dc, dn⟩ HM4.out.bk (on_any HD3.out rfl) (Nat.zero_le _) HKR4.out (by omega) HPL.out.2.2.2.1 HPL.out.2.2.2.2.1 HPL.out.2.2.2.2.2); clear hkr4 hM4 hx4 hoff4 hX5 hown4))
    all_goals
      have HE := Lib.hid ((HFIN.out w4 w5 kk5 dp5 HM4.out HX4.out hx5 hB5 hd5 he5 hN5 false).resolve_right (by decide))
      clear HFIN hx5 hB5 hd5 he5 hN5 z3 zf y0 y1 y2 y3 y4 HKR4 HM4 HX4 HOFF4 KG x0 x1 x2 x3 x4 x5 x0' x1' x2' x3' x4' x5' c3 c3' HX5 hX6 hB6
      go_wp2_with fail
      go_ret
      exact HE.out
set_option maxRecDepth 10000 in
set_option maxHeartbeats 6400000 in
theorem fm_def (ts : List Tk) (hP : Pall ts) {B N : Nat} {W : World} {g : Nat} {pa : Option Addr} {n pc i : Nat} {oa : Option Addr} {on oc : Nat} {kk : Kd} {dp : Bool} {ms : List Mb} {p : Bg} {K2 : List Bg} {T : List Tn} {x : Option (List Tn)} {r : List Pk} {c : UInt8} (hN : N ≤ 900) (hm : n ≤ 300) (hi : i ≤ n)
    (hM : PM B ts W g pa n pc i oa on oc kk.a kk.n kk.c false dp ms (p :: K2)) (hT : dp = false → Nt B W kk T) (hMc : Mc numT (.mk p T) ((pks ts).drop i) K2 x r) (hI : Iv dp N (p :: K2) [T] (n - i)) (hu : p.u = some c) (hk : p.n.k = 7) :
    Calls Try.prog 76 #[.pointer (some ⟨g, 0, none⟩)] W (FmEnd B N ts g pa n pc x r i W) := by
  cases ms with
  | nil => exact hM.sr.elim
  | cons b l =>
    obtain ⟨_, _, hpK, hS, hlo, hsr, hon⟩ := hM.top
    injection hpK with e1 e2
    subst e1 e2
    have hon9 : on ≤ 1000 := by have := iv_len hI; have := hM.len; omega
    have hok := hI.pop.2.some hu
    have hnd : p.n = tnOf b.d := hS.node.symm
    have hdk : b.d.k = 7 := by rw [← hk, hnd]; rfl
    have hpn : p.n.ns.length ≤ 100 := by rw [hnd, tn_ns hS.on hS.dm]; exact Nat.zero_le _
    have hdm := hS.dm
    have hks : p.ks.length ≤ 1 := by rcases hok with h | h | h | h | h <;> first | omega | (rw [h.2]; simp)
    have hkd : kdT p.n = ((p.ks ++ [T]).length : Int) := by
      have h1 : p.ks = [] := by rcases hok with h | h | h | h | h <;> first | exact h.2 | omega
      rw [h1]
      unfold kdT
      rw [hk]; rfl
    have HPL := Lib.hid (show p.ks.length ≤ 1 ∧ Iv dp N K2 (p.ks ++ [T]) (n - i + 1) ∧ kdT p.n = ((p.ks ++ [T]).length : Int) ∧ (∀ t ∈ p.ks ++ [T], ∀ x ∈ t, x.ns.length ≤ 100) ∧ wl (p.ks ++ [T]) ≤ 1000 ∧ Tr (tnOf b.d :: (p.ks ++ [T]).flatten) from ⟨hks, hI.pop.1, hkd, fun t ht => (hI.pop.1.tr t (List.mem_append_left _ ht)).2, by have := hI.pop.1.kids; omega, by rw [← hnd]; exact (tree_put (fun t ht => (hI.pop.1.tr t (List.mem_append_left _ ht)).1) hkd).1⟩)
    clear hok hks hkd
    have HFP := Lib.hid (show r = (pks ts).drop i ∧ ((i = n ∧ K2 = [] ∧ x = some (p.put T)) ∨ ((i < n ∨ K2 ≠ []) ∧ x = none)) by
      have hll : ((pks ts).drop i).length = n - i := by rw [List.length_drop, pks_len, hM.hn]
      obtain ⟨h1, h2⟩ := hMc.mk_def hk
      refine ⟨h1, h2.imp (fun h => ⟨?_, h.2⟩) (fun h => ⟨h.1.imp (fun h => ?_) id, h.2⟩)⟩
      · rw [h.1] at hll; simp at hll; omega
      · rcases Nat.lt_or_ge i n with h3 | h3
        · exact h3
        · exact absurd (List.eq_nil_of_length_eq_zero (by omega)) h)
    obtain ⟨⟨dk, dv, da, dx, dg, dm, dc, dn⟩, ka, kn, kc, kd, u, lo⟩ := b
    have hdm : dm = 0 := hdm
    have hdk : dk = 7 := hdk
    subst hdm hdk
    have HMC := Lib.hid hMc
    have HND := Lib.hid hnd
    have HPN := Lib.hid hpn
    have HI := Lib.hid hI
    have HM := Lib.hid hM
    have HT := Lib.hid hT
    have KL := Lib.hid (show Calls Try.prog 84 #[.pointer (some ⟨g, 0, none⟩)] W (fun e W' => e = .returned (.agg #[.int .i64 7, .string dv, .string da, .string dx, .slice dg 0 dc, .slice ka kn kc, .string u]) ∧ Ex [g] W W' ∧ Bk 70 W' g (pcs pa n pc i oa l.length oc kk.a kk.n kk.c false dp) ∧ W'.ownsRow B 100 7 (.slice oa l.length oc) l.length (obs l)) from last_is hM.bk hM.row hon hon9)
    clear hM hT hMc hI hS hlo hsr hnd hpn
    go_enter Try.func76, Try.ntmps76
    go_wp2_with fail
    refine KL.out.mono ?_
    rintro e w2 ⟨rfl, hx2, hB2, hr2⟩
    obtain ⟨hM2, hd2, lo2, hKR2, hlo2, hsep2⟩ := HM.out.popped hx2 hB2 hr2
    have HT2 := Lib.hid (fun hd => (HT.out hd).ex hx2 HM.out.offg)
    have HF2 := Lib.hid (Fr.of hx2 HM.out.offg HM.out.size (fun k hk => by rcases List.mem_singleton.1 hk with rfl; exact HM.out.hg))
    replace hKR2 : KR B w2 dp lo2 ka kn kc kd p.ks := hKR2
    have hbx := box_below w2 (.cells #[.int .i64 7, .string dv, .string da, .string dx, .slice dg 0 dc, .slice ka kn kc, .string u] 100)
    have hX3 := Bk.new 100 w2 [.int .i64 7, .string dv, .string da, .string dx, .slice dg 0 dc, .slice ka kn kc, .string u]
    rw [show [Value.int .i64 7, .string dv, .string da, .string dx, .slice dg 0 dc, .slice ka kn kc, .string u].toArray = #[.int .i64 7, .string dv, .string da, .string dx, .slice dg 0 dc, .slice ka kn kc, .string u] from rfl] at hX3
    have HM3 := Lib.hid (hM2.below hbx)
    have HT3 := Lib.hid (fun hd => (HT2.out hd).ex (Ex.of [] hbx) (Off.none _))
    have HF3 := Lib.hid (HF2.out.trans (Fr.ofB hbx hM2.size))
    have HKR3 := Lib.hid (hKR2.ex (Ex.of [] hbx) (Off.none _) (fun k hk => by simp))
    have HD3 := Lib.hid (hd2.below hbx)
    have hsz3 := hbx.size
    have hgx : w2.heap.size ≠ g := by have := hM2.bk.lt; omega
    have HSEP := Lib.hid hsep2
    have hbl : w2.heap.size < (w2.alloc (.cells #[.int .i64 7, .string dv, .string da, .string dx, .slice dg 0 dc, .slice ka kn kc, .string u] 100)).heap.size := by simp
    clear hx2 hB2 hr2 hM2 hKR2 hd2 KL HT2 HF2 hsep2 hbx HM HT
    go_upto_region 2 with fail
    generalize w2.alloc (.cells #[.int .i64 7, .string dv, .string da, .string dx, .slice dg 0 dc, .slice ka kn kc, .string u] 100) = w3 at *
    have hlo3 : lo2 ≤ w3.heap.size := by omega
    have HX3 := Lib.hid hX3
    have x0 := hX3.p0
    clear hX3
    have hkn : kn ≤ 5 := by have := HPL.out.1; have := HKR3.out.kl; omega
    have hkn5 : kn ≤ 5000 := by omega
    have HFIN := Lib.hid (show ∀ (w4 w5 : World) (kk5 : Kd) (dp5 : Bool), PM B ts w4 g pa n pc i oa l.length oc kk.a kk.n kk.c false dp l K2 → Ex (Value.slice ka kn kc).ownBlock.toList w3 w4 → Ex [g] w4 w5 → Bk 70 w5 g (pcs pa n pc i oa l.length oc kk.a kk.n kk.c false dp5) → (dp = true → dp5 = true) → (dp = false → (dp5 = true ↔ Deep (tnOf ⟨7, dv, da, dx, dg, 0, dc, dn⟩ :: (p.ks ++ [T]).flatten))) → (dp5 = false → Nt B w5 kk5 (tnOf ⟨7, dv, da, dx, dg, 0, dc, dn⟩ :: (p.ks ++ [T]).flatten)) → ∀ v, FmEnd B N ts g pa n pc x r i W (.returned (.bool false)) ((w5.setCell ⟨g, 3, none⟩ (.slice kk5.a kk5.n kk5.c)).setCell ⟨g, 4, none⟩ (.bool v)) ∨ v = false by
      intro w4 w5 kk5 dp5 hM4 hx4 hx5 hB5 hd5 he5 hN5 v
      by_cases hv : v = false
      · exact .inr hv
      left
      obtain ⟨hM6, hN6⟩ := hM4.laid hx5 hB5 hd5 hN5
      have hI := HPL.out.2.1.put (n := p.n) HPL.out.2.2.1 HPN.out hd5 (by rw [HND.out]; exact he5) (show n - i + 1 ≤ n - i + 1 from Nat.le_refl _)
      have hb4 := Fr.of hx4 (Off.kids HKR3.out.row) HM3.out.size (fun q hq => by have h1 := (HKR3.out.row.lt q (by simpa using hq)).1; have h2 := HKR3.out.lo; omega)
      have hb5 := Fr.of hx5 hM4.offg hM4.size (fun q hq => by rcases List.mem_singleton.1 hq with rfl; exact hM4.hg)
      have hM5 := hM4.deeper hx5 hB5 hd5
      have hb6 := Fr.of (Ex.setCell (Ex.refl [g] w5) (p := ⟨g, 3, none⟩) (.inl List.mem_cons_self) (.slice kk5.a kk5.n kk5.c)) hM5.offg hM5.size (fun q hq => by rcases List.mem_singleton.1 hq with rfl; exact hM5.hg)
      have hx7 := Ex.setCell (Ex.refl [g] (w5.setCell ⟨g, 3, none⟩ (.slice kk5.a kk5.n kk5.c))) (p := ⟨g, 4, none⟩) (.inl List.mem_cons_self) (.bool v)
      have hb7 := Fr.of hx7 hM6.offg hM6.size (fun q hq => by rcases List.mem_singleton.1 hq with rfl; exact hM6.hg)
      have hM7 := hM6.ex hx7 (wh' := v) (hM6.bk.set 4 (.bool v))
      have hN7 : dp5 = false → Nt B _ kk5 (p.put T) := fun hd => by
        rw [show p.put T = tnOf ⟨7, dv, da, dx, dg, 0, dc, dn⟩ :: (p.ks ++ [T]).flatten by unfold Bg.put; rw [HND.out]]
        exact (hN6 hd).ex hx7 hM6.offg
      refine ⟨(((HF3.out.trans hb4).trans hb5).trans hb6).trans hb7, .inr ⟨rfl, ?_⟩⟩
      cases v with
      | true =>
        exact .inr ⟨i, oa, l.length, oc, kk5, dp5, l, K2, p.put T, hM7, hN7, hI, Nat.le_refl _, hi, HFP.out.1, HFP.out.2⟩
      | false =>
        exact absurd rfl hv)
    have hbn := box_below w3 (.cells #[.slice kk.a kk.n kk.c] 22)
    have c3 := Pc.c3 HM3.out.bk
    have x1 := HX3.out.p1
    have x2 := HX3.out.p2
    have x3 := HX3.out.p3
    have x4 := HX3.out.p4
    have x5 := HX3.out.p5
    have hX4 := HX3.out.below hbn HX3.out.lt
    have c3' := Pc.c3 (HM3.out.below hbn).bk
    have x0' := hX4.p0
    have x1' := hX4.p1
    have x2' := hX4.p2
    have x3' := hX4.p3
    have x4' := hX4.p4
    have x5' := hX4.p5
    clear hX4 hbn
    go_wp2_with fail
    go_region_law (first
      | (go_simp; go_at_call 70; refine (KG.out).mono ?_; rintro e w5 ⟨kk5, dp5, rfl, hN5, hB5, hx5, hd5, he5⟩; have z3 := Pc.c3 hB5; have zf := hB5.f 3; have hX6 := (HX5.out.ex hx5 (by intro hh; exact hgx (List.mem_singleton.1 hh))).setOther (p := ⟨g, 3, none⟩) hgx (.slice kk5.a kk5.n kk5.c); have hB6 := hB5.set 3 (.slice kk5.a kk5.n kk5.c); have v0 := hX6.p0; have v4 := hB6.c 4; have vf := hB6.f 4)
      | (refine step_push_any w3 (.tmp 73) (.tmp 78) 98 22 _ 1 24 infoKid Try.underlying98 rfl (by decide) lo2 ka kn kc (kvs kd kn) [.slice kk.a kk.n kk.c] rfl (by intro u hu; rw [List.mem_singleton] at hu; rw [hu]; rfl) rfl rfl rfl rfl rfl rfl rfl rfl HKR3.out.row hlo3 hkn5 (by decide) ?_; intro av cv w4 hown4 hx4; have hM4 := HM3.out.kids HKR3.out HSEP.out hx4; have hoff4 := Off.kids HKR3.out.row; have hkr4 := HKR3.out.snoc HT3.out hown4 hx4 hoff4; have hX5 := HX3.out.ex hx4 (own_not HKR3.out.row HX3.out (by decide)); have y0 := hX5.p0; have y1 := hX5.p1; have y2 := hX5.p2; have y3 := hX5.p3; have y4 := hX5.p4; have HX5 := Lib.hid hX5; have HKR4 := Lib.hid hkr4; have HM4 := Lib.hid hM4; have HX4 := Lib.hid hx4; have HOFF4 := Lib.hid hoff4; have KG := Lib.hid (grow_any ⟨7, dv, da, dx, dg, 0, dc, dn⟩ HM4.out.bk (on_any HD3.out rfl) (Nat.zero_le _) HKR4.out (by omega) HPL.out.2.2.2.1 HPL.out.2.2.2.2.1 HPL.out.2.2.2.2.2); clear hkr4 hM4 hx4 hoff4 hX5 hown4))
    all_goals
      have HE := Lib.hid ((HFIN.out w4 w5 kk5 dp5 HM4.out HX4.out hx5 hB5 hd5 he5 hN5 true).resolve_right (by decide))
      clear HFIN hx5 hB5 hd5 he5 hN5 z3 zf y0 y1 y2 y3 y4 HKR4 HM4 HX4 HOFF4 KG x0 x1 x2 x3 x4 x5 x0' x1' x2' x3' x4' x5' c3 c3' HX5 hX6 hB6
      go_wp2_with fail
      go_ret
      exact HE.out
end Go.Proofs.Ytljkmdmbndjngaa

import Derived.Test.YtljkmdmbndjngaaGreatMat
/-
  The parser's finishMark: a verb with a body; finishMark as a whole.
-/
namespace Go.Proofs.YtljkmdmbndjngaaGreat
set_option linter.unusedVariables false
set_option linter.unusedSimpArgs false
open Go.RowKit

theorem kids_cells {w : World} {base n : Nat} {a : Option Addr} {c : Nat} {k : Nat → Kd} (h : w.ownsRow base 22 1 (.slice a n c) n (kvs k n)) : ∀ ad, a = some ad → ∀ j u, (kvs k n)[j]? = some u → w.cell? (ad.add j) = some u := by
  intro ad ha j u hj
  have hl := (List.getElem?_eq_some_iff.1 hj).1
  rw [kvs_len] at hl
  obtain ⟨b, off, e, hc⟩ := own_kids h (by omega)
  rw [ha] at e
  injection e with e
  subst e
  rw [kvs_get k n j hl] at hj
  rw [Go.WideShapes.add_plain, hc j hl, hj]
/-- append of trees' slices, whatever the source, as one step of a region that draws. -/
theorem step_append_kids {ops : Array Oper} {o : Oper} {a : Act} {K : Act → World → Prop} {Q : Exit → Act → World → Prop} {E : Prop} {w : World} (s x : Operand) (base : Nat) {av : Option Addr} {n cv : Nat} {xs : List Value} {lo : Nat} {ka : Option Addr} {kn kc : Nat} {kd : Nat → Kd}
    (ho : o.op = .call { callee := .builtin .append, args := #[s, x], argTypes := #[127, 127] }) (hgd : o.guard = none) (hs : a.eval s = .slice av n cv) (hx : a.eval x = .slice ka kn kc)
    (hown : w.ownsRow base 22 1 (.slice av n cv) n xs) (hk : w.ownsRow lo 22 1 (.slice ka kn kc) kn (kvs kd kn)) (hbase : base ≤ w.heap.size) (hn : n + kn ≤ 5000)
    (h : ∀ v' w', w'.ownsRow base 22 1 v' (n + kn) (xs ++ kvs kd kn) → w.grownBy w' (Value.slice av n cv).ownBlock → K (a.put o.dst v') w') :
    if Region.wanted o (yielded ops a.tmps) = true then Oper.wp Tryz.prog o a w K Q else E := by
  obtain ⟨i0, hi, hz0, hz1, hz2⟩ := info_parts infoKid
  have hw : Region.wanted o (yielded ops a.tmps) = true := by simp [Region.wanted, hgd]
  rw [if_pos hw]
  cases ka with
  | none =>
    have hkn : kn = 0 := by
      rcases Nat.eq_zero_or_pos kn with h0 | h0
      · exact h0
      · obtain ⟨_, _, e, _⟩ := own_kids hk h0
        cases e
    subst hkn
    have hrun := run_append_void (w := w) base 127 o.type 22 i0 1 Tryz.underlying127 hi hz1 _ n xs hown kc
    unfold Oper.wp
    simp [execOp, ho, resolve, invoke, builtin, hs, hx, hrun, Result.andThen]
    exact h _ w (by rw [Nat.add_zero]; show w.ownsRow _ _ _ _ _ (xs ++ []); rw [List.append_nil]; exact hown) (World.grownBy.refl w _)
  | some ad =>
    obtain ⟨v', w', hr, h2, h3, _, _⟩ := run_append_own_at (P := Tryz.prog) w base 127 o.type 22 i0 (.slice none 0 0) 1 24 Tryz.underlying127 hi hz0 hz1 hz2 rfl (by decide) _ n xs hown ad kn kc (kvs kd kn) (by rw [kvs_len, Nat.mul_one]) (kids_cells hk ad rfl) (kvs_one _ _) (by unfold maxLen; omega) (by omega) hbase
    unfold Oper.wp execOp
    simp only [ho, resolve, invoke, builtin, Sem.run_bind, Sem.run_pure, Result.andThen_ok, List.map_toArray, List.map_cons, List.map_nil, hs, hx, hr]
    exact h v' w' h2 h3
theorem own_slice {w : World} {base e n : Nat} {v : Value} {xs : List Value} (h : w.ownsRow base e 1 v n xs) : ∃ a c, v = .slice a n c := by
  rcases h.2 with ⟨h1, h2⟩ | ⟨g, cap, cur, h1, _⟩
  · exact ⟨none, 0, by rw [h1, h2]⟩
  · exact ⟨_, _, h1⟩
theorem KR.one {B : Nat} {w : World} {dp : Bool} {kk : Kd} {T : List Tn} {z : Nat} (hN : dp = false → Nt B (w.alloc (.cells #[.slice kk.a kk.n kk.c] 22)) kk T) (hz : z ≤ w.heap.size) (hB : B ≤ z) : KR B (w.alloc (.cells #[.slice kk.a kk.n kk.c] 22)) dp z (some ⟨w.heap.size, 0, none⟩) 1 1 (fun _ => kk) [T] := by
  refine ⟨rfl, one_row hz, hB, fun hd i hi => ?_⟩
  obtain rfl : i = 0 := by simp at hi; omega
  exact hN hd
/-- What stands while a verb with a body is ended. -/
structure Vs (B : Nat) (ts : List Tk) (W : World) (g : Nat) (pa : Option Addr) (n pc i : Nat) (oa : Option Addr) (on oc : Nat) (kk : Kd) (dp : Bool) (l : List Mb) (K2 : List Bg) (T : List Tn) (lo2 : Nat) (ka : Option Addr) (kn kc : Nat) (kd : Nat → Kd) (ks : List (List Tn)) (bx : Nat) (cs : List Value) (w : World) : Prop where
  pm : PM B ts w g pa n pc i oa on oc kk.a kk.n kk.c false dp l K2
  kr : KR B w dp lo2 ka kn kc kd ks
  bk : Bk 129 w bx cs
  nt : dp = false → Nt B w kk T
  fr : Fr B W w
section
variable {B : Nat} {ts : List Tk} {W w w' : World} {g : Nat} {pa : Option Addr} {n pc i i' : Nat} {oa : Option Addr} {on oc : Nat} {kk : Kd} {dp : Bool} {l : List Mb} {K2 : List Bg} {T : List Tn} {lo2 : Nat} {ka : Option Addr} {kn kc : Nat} {kd : Nat → Kd} {ks : List (List Tn)} {bx : Nat} {cs : List Value}
theorem Vs.ex0 (h : Vs B ts W g pa n pc i oa on oc kk dp l K2 T lo2 ka kn kc kd ks bx cs w) (hx : Ex [] w w') : Vs B ts W g pa n pc i oa on oc kk dp l K2 T lo2 ka kn kc kd ks bx cs w' :=
  ⟨h.pm.ex (Ex.mono hx (by simp)) (h.pm.bk.ex hx (by simp)), h.kr.ex hx (Off.none _) (fun k hk => by simp), h.bk.ex hx (by simp), fun hd => (h.nt hd).ex hx (Off.none _), h.fr.trans (Fr.of hx (Off.none _) h.pm.size (fun k hk => by cases hk))⟩
theorem Vs.exg (h : Vs B ts W g pa n pc i oa on oc kk dp l K2 T lo2 ka kn kc kd ks bx cs w) (hx : Ex [g] w w') (hb : Bk 84 w' g (pcs pa n pc i' oa on oc kk.a kk.n kk.c false dp)) (hbx : bx ≠ g) : Vs B ts W g pa n pc i' oa on oc kk dp l K2 T lo2 ka kn kc kd ks bx cs w' :=
  ⟨h.pm.ex hx hb, h.kr.ex hx h.pm.offg (h.kr.not h.pm.tyG), h.bk.ex hx (by simpa using hbx), fun hd => (h.nt hd).ex hx h.pm.offg, h.fr.trans (Fr.of hx h.pm.offg h.pm.size (fun k hk => by rcases List.mem_singleton.1 hk with rfl; exact h.pm.hg))⟩
/-- The row of one slice that is made, and grows. -/
theorem Vs.grow (h : Vs B ts W g pa n pc i oa on oc kk dp l K2 T lo2 ka kn kc kd ks bx cs w) {z : Nat} {nb : Nat} (hk : KR B w dp z (some ⟨nb, 0, none⟩) 1 1 (fun _ => kk) [T]) (hz : ∀ c ∈ l, ∀ q, (Value.slice c.ka c.kn c.kc).ownBlock = some q → q < z) (hkz : ∀ q, (Value.slice ka kn kc).ownBlock = some q → q < z) {v' : Value} (ho : w'.ownsRow z 22 1 v' (1 + kn) ([.slice kk.a kk.n kk.c] ++ kvs kd kn)) (hg : w.grownBy w' (Value.slice (some ⟨nb, 0, none⟩) 1 1).ownBlock) :
    Vs B ts W g pa n pc i oa on oc kk dp l K2 T lo2 ka kn kc kd ks bx cs w' ∧ ∃ a c, v' = .slice a (1 + kn) c ∧ KR B w' dp z a (1 + kn) c (fun i => if i = 0 then kk else kd (i - 1)) (T :: ks) := by
  have hx : Ex (Value.slice (some ⟨nb, 0, none⟩) 1 1).ownBlock.toList w w' := (Ex.refl _ w).grown hg (fun k hk => .inl (by rw [hk]; simp))
  have hoff := Off.kids hk.row
  have hzn : z ≤ nb := (hk.row.lt nb rfl).1
  refine ⟨⟨h.pm.kids hk hz hx, h.kr.ex hx hoff (fun q hq hm => ?_), h.bk.ex hx (own_not hk.row h.bk (by decide)), fun hd => (h.nt hd).ex hx hoff, h.fr.trans (Fr.of hx hoff h.pm.size (fun q hq => ?_))⟩, ?_⟩
  · have h1 := hkz q hq
    have h2 : q = nb := by simpa [Value.ownBlock] using hm
    omega
  · have h2 : q = nb := by simpa [Value.ownBlock] using hq
    have := hk.lo
    omega
  · obtain ⟨a, c, rfl⟩ := own_slice ho
    refine ⟨a, c, rfl, by rw [h.kr.kl, List.length_cons]; omega, ?_, hk.lo, fun hd i hi => ?_⟩
    · have e : ∀ m, kvs (fun i => if i = 0 then kk else kd (i - 1)) (1 + m) = [.slice kk.a kk.n kk.c] ++ kvs kd m := by
        intro m
        induction m with
        | zero => rfl
        | succ m ih =>
          show kvs _ (1 + m) ++ [_] = [_] ++ (kvs kd m ++ [_])
          rw [ih, List.append_assoc]
          simp
      rw [e]
      exact ho
    · cases i with
      | zero => exact (h.nt hd).ex hx hoff
      | succ i => exact (h.kr.nt hd i (by simpa using hi)).ex hx hoff
end
set_option maxRecDepth 10000 in
set_option maxHeartbeats 6400000 in
theorem fm_verb3 (ts : List Tk) (hP : Pall ts) {B N : Nat} {W : World} {g : Nat} {pa : Option Addr} {n pc i : Nat} {oa : Option Addr} {on oc : Nat} {kk : Kd} {dp : Bool} {ms : List Mb} {p : Bg} {K2 : List Bg} {T : List Tn} {x : Option (List Tn)} {r : List Pk} {c : UInt8} (hN : N ≤ 900) (hm : n ≤ 300) (hi : i ≤ n)
    (hM : PM B ts W g pa n pc i oa on oc kk.a kk.n kk.c false dp ms (p :: K2)) (hT : dp = false → Nt B W kk T) (hMc : Mc numT (.mk p T) ((pks ts).drop i) K2 x r) (hI : Iv dp N (p :: K2) [T] (n - i)) (hu : p.u = some c) (hk : p.n.k = 3) :
    Calls Tryz.prog 103 #[.pointer (some ⟨g, 0, none⟩)] W (FmEnd B N ts g pa n pc x r i W) := by
  cases ms with
  | nil => exact hM.sr.elim
  | cons b l =>
    obtain ⟨_, _, hpK, hS, hlo, hsr, hon⟩ := hM.top
    injection hpK with e1 e2
    subst e1 e2
    have hon9 : on ≤ 1000 := by have := iv_len hI; have := hM.len; omega
    have hok := hI.pop.2.some hu
    have hnd : p.n = tnOf b.d := hS.node.symm
    have hdk : b.d.k = 3 := by rw [← hk, hnd]; rfl
    have hpn : p.n.ns.length ≤ 100 := by rw [hnd, tn_ns hS.on hS.dm]; exact Nat.zero_le _
    have hdm := hS.dm
    obtain ⟨hv9, ha9, hx9, hkd9⟩ : p.n.v = [123] ∧ p.n.a = [] ∧ p.n.x = [] ∧ kdT p.n = (p.ks.length : Int) + 2 := by rcases hok with h | h | h | h | h <;> first | exact h.2 | omega
    have hMa := hMc.mk_verb (by omega)
    rw [hk, hv9] at hMa
    have hMt := hMa.ad_inv (fun q l' e h5 => ps_one (hP.at e).1 (.inl h5))
    have hbd : b.d.v = ⟨#[123]⟩ ∧ b.d.a = ⟨#[]⟩ ∧ b.d.x = ⟨#[]⟩ := by
      have h1 : b.d.v.data.toList = [123] := by rw [← hv9, hnd]; rfl
      have h2 : b.d.a.data.toList = [] := by rw [← ha9, hnd]; rfl
      have h3 : b.d.x.data.toList = [] := by rw [← hx9, hnd]; rfl
      exact ⟨bytes_ext (b := ⟨#[123]⟩) h1, bytes_ext (b := ⟨#[]⟩) h2, bytes_ext (b := ⟨#[]⟩) h3⟩
    have HFP := Lib.hid hMt
    have HI2 := Lib.hid hI.pop.1
    have HKD := Lib.hid (show ∀ a, kdT (nv 3 [123] a []) = ((T :: p.ks).length : Int) + 1 from fun a => by
      have h1 : kdT p.n = kdT (nv 3 [123] a []) := by
        unfold kdT nv
        rw [hk, hv9]
      rw [← h1, hkd9, List.length_cons]
      omega)
    clear hok hMa hMt hkd9 hv9 ha9 hx9
    obtain ⟨⟨dk, dv, da, dx, dg, dm, dc, dn⟩, ka, kn, kc, kd, u, lo⟩ := b
    obtain ⟨rfl, rfl, rfl⟩ : dv = ⟨#[123]⟩ ∧ da = ⟨#[]⟩ ∧ dx = ⟨#[]⟩ := hbd
    have hdm : dm = 0 := hdm
    have hdk : dk = 3 := hdk
    subst hdm hdk
    have HMC := Lib.hid hMc
    have HND := Lib.hid hnd
    have HPN := Lib.hid hpn
    have HI := Lib.hid hI
    have HM := Lib.hid hM
    have HT := Lib.hid hT
    have KL := Lib.hid (show Calls Tryz.prog 114 #[.pointer (some ⟨g, 0, none⟩)] W (fun e W' => e = .returned (.agg #[.int .i64 3, .string ⟨#[123]⟩, .string ⟨#[]⟩, .string ⟨#[]⟩, .slice dg 0 dc, .slice ka kn kc, .string u]) ∧ Ex [g] W W' ∧ Bk 84 W' g (pcs pa n pc i oa l.length oc kk.a kk.n kk.c false dp) ∧ W'.ownsRow B 129 7 (.slice oa l.length oc) l.length (obs l)) from last_is hM.bk hM.row hon hon9)
    clear hM hT hMc hI hS hlo hsr hnd hpn
    go_enter Tryz.func103, Tryz.ntmps103
    go_wp2_with fail
    refine KL.out.mono ?_
    rintro e w2 ⟨rfl, hx2, hB2, hr2⟩
    obtain ⟨hM2, hd2, lo2, hKR2, hlo2, hsep2⟩ := HM.out.popped hx2 hB2 hr2
    have HT2 := Lib.hid (fun hd => (HT.out hd).ex hx2 HM.out.offg)
    have HF2 := Lib.hid (Fr.of hx2 HM.out.offg HM.out.size (fun k hk => by rcases List.mem_singleton.1 hk with rfl; exact HM.out.hg))
    replace hKR2 : KR B w2 dp lo2 ka kn kc kd p.ks := hKR2
    have hbx := box_below w2 (.cells #[.int .i64 3, .string ⟨#[123]⟩, .string ⟨#[]⟩, .string ⟨#[]⟩, .slice dg 0 dc, .slice ka kn kc, .string u] 129)
    have hX3 := Bk.new 129 w2 [.int .i64 3, .string ⟨#[123]⟩, .string ⟨#[]⟩, .string ⟨#[]⟩, .slice dg 0 dc, .slice ka kn kc, .string u]
    rw [show [Value.int .i64 3, .string ⟨#[123]⟩, .string ⟨#[]⟩, .string ⟨#[]⟩, .slice dg 0 dc, .slice ka kn kc, .string u].toArray = #[.int .i64 3, .string ⟨#[123]⟩, .string ⟨#[]⟩, .string ⟨#[]⟩, .slice dg 0 dc, .slice ka kn kc, .string u] from rfl] at hX3
    have HM3 := Lib.hid (hM2.below hbx)
    have HT3 := Lib.hid (fun hd => (HT2.out hd).ex (Ex.of [] hbx) (Off.none _))
    have HF3 := Lib.hid (HF2.out.trans (Fr.ofB hbx hM2.size))
    have HKR3 := Lib.hid (hKR2.ex (Ex.of [] hbx) (Off.none _) (fun k hk => by simp))
    have HD3 := Lib.hid (hd2.below hbx)
    have hsz3 := hbx.size
    have HOB := Lib.hid (fun k hk => (hM2.row.lt k hk).2 : ∀ k, (Value.slice oa l.length oc).ownBlock = some k → k < w2.heap.size)
    have HKO := Lib.hid (fun k hk => (hKR2.row.lt k hk).2 : ∀ k, (Value.slice ka kn kc).ownBlock = some k → k < w2.heap.size)
    have hgx : w2.heap.size ≠ g := by have := hM2.bk.lt; omega
    have HSEP := Lib.hid hsep2
    have hbl : w2.heap.size < (w2.alloc (.cells #[.int .i64 3, .string ⟨#[123]⟩, .string ⟨#[]⟩, .string ⟨#[]⟩, .slice dg 0 dc, .slice ka kn kc, .string u] 129)).heap.size := by simp
    clear hx2 hB2 hr2 hM2 hKR2 hd2 KL HT2 HF2 hsep2 hbx HM HT
    go_upto_region 2 with fail
    generalize w2.alloc (.cells #[.int .i64 3, .string ⟨#[123]⟩, .string ⟨#[]⟩, .string ⟨#[]⟩, .slice dg 0 dc, .slice ka kn kc, .string u] 129) = w3 at *
    have hlo3 : lo2 ≤ w3.heap.size := by omega
    have HX3 := Lib.hid hX3
    have x0 := hX3.p0
    clear hX3
    have hob := HOB.out
    have hsl := fun c hc k hk => (HM3.out.sr.lt c hc k hk).1
    have hko : ∀ k, (Value.slice ka kn kc).ownBlock = some k → k < w3.heap.size := fun k hk => Nat.lt_trans (HKO.out k hk) hbl
    have HV3 := Lib.hid (show Vs B ts W g pa n pc i oa l.length oc kk dp l K2 T lo2 ka kn kc kd p.ks w2.heap.size [.int .i64 3, .string ⟨#[123]⟩, .string ⟨#[]⟩, .string ⟨#[]⟩, .slice dg 0 dc, .slice ka kn kc, .string u] w3 from ⟨HM3.out, HKR3.out, HX3.out, HT3.out, HF3.out⟩)
    have HZ := Lib.hid (⟨hsl, hko, HM3.out.size⟩ : (∀ c ∈ l, ∀ q, (Value.slice c.ka c.kn c.kc).ownBlock = some q → q < w3.heap.size) ∧ (∀ k, (Value.slice ka kn kc).ownBlock = some k → k < w3.heap.size) ∧ B ≤ w3.heap.size)
    have hknl : kn ≤ 3 := by
      have h1 := HKR3.out.kl
      have h2 := HKD.out []
      have h3 := kdT_le (nv 3 [123] [] [])
      rw [List.length_cons] at h2
      omega
    have hkn9 : 1 + kn ≤ 5000 := by omega
    have KA := Lib.hid (show ∀ w, Vs B ts W g pa n pc i oa l.length oc kk dp l K2 T lo2 ka kn kc kd p.ks w2.heap.size [.int .i64 3, .string ⟨#[123]⟩, .string ⟨#[]⟩, .string ⟨#[]⟩, .slice dg 0 dc, .slice ka kn kc, .string u] w → Calls Tryz.prog 113 #[.pointer (some ⟨g, 0, none⟩), .agg #[.int .i64 3, .string ⟨#[123]⟩, .string ⟨#[]⟩, .string ⟨#[]⟩, .slice dg 0 dc]] w (fun e W' => e = .returned (.agg #[.int .i64 3, .string ⟨#[123]⟩, .string (tx (advA 3 ((pks ts).drop i))), .string ⟨#[]⟩, .slice dg 0 dc]) ∧ Vs B ts W g pa n pc (i + advN 3 ((pks ts).drop i)) oa l.length oc kk dp l K2 T lo2 ka kn kc kd p.ks w2.heap.size [.int .i64 3, .string ⟨#[123]⟩, .string ⟨#[]⟩, .string ⟨#[]⟩, .slice dg 0 dc, .slice ka kn kc, .string u] W' ∧ Ex [g] w W') by
      intro w hV
      refine (withAdv_is ts hP hV.pm.bk hV.pm.pq hV.pm.hn hm hi (k := 3) (by decide) ⟨#[123]⟩ ⟨#[]⟩ dg 0 dc).mono ?_
      rintro e W' ⟨rfl, hB, hx⟩
      exact ⟨rfl, hV.exg hx hB hgx, hx⟩)
    generalize hAD : advA 3 ((pks ts).drop i) = AD at *
    generalize hAN : advN 3 ((pks ts).drop i) = AN at *
    have HAD := Lib.hid (show AD.length ≤ 300 ∧ AN ≤ n - i from ⟨by rw [← hAD]; exact advA_len (fun q hq => (hP q (List.mem_of_mem_drop hq)).2), by rw [← hAN]; have := advN_le (k := 3) (l := (pks ts).drop i); rwa [List.length_drop, pks_len, ← HM3.out.hn] at this⟩)
    clear hAD hAN
    have KB := Lib.hid (show ∀ (w : World) (a' : Option Addr) (c' : Nat), Vs B ts W g pa n pc (i + AN) oa l.length oc kk dp l K2 T lo2 ka kn kc kd p.ks w2.heap.size [.int .i64 3, .string ⟨#[123]⟩, .string ⟨#[]⟩, .string ⟨#[]⟩, .slice dg 0 dc, .slice ka kn kc, .string u] w → KR B w dp w3.heap.size a' (1 + kn) c' (fun i => if i = 0 then kk else kd (i - 1)) (T :: p.ks) → Calls Tryz.prog 95 #[.pointer (some ⟨g, 0, none⟩), .agg #[.int .i64 3, .string ⟨#[123]⟩, .string (tx AD), .string ⟨#[]⟩, .slice dg 0 dc], .string ⟨#[]⟩, .slice a' (1 + kn) c'] w (fun e W' => e = .returned (.tuple #[]) ∧ (ToS B N ts g pa n pc x r i W' ∧ Fr B W W') ∧ (Bk 129 W' w2.heap.size [.int .i64 3, .string ⟨#[123]⟩, .string ⟨#[]⟩, .string ⟨#[]⟩, .slice dg 0 dc, .slice ka kn kc, .string u] ∧ W'.cell? ⟨g, 3, none⟩ = some (.slice kk.a kk.n kk.c))) by
      intro w a' c' hV hK
      have hon9 : l.length ≤ 1000 := by have := iv_len HI2.out; have := hV.pm.len; omega
      refine (begin_is ⟨⟨3, ⟨#[123]⟩, tx AD, ⟨#[]⟩, dg, 0, dc, dn⟩, a', 1 + kn, c', fun i => if i = 0 then kk else kd (i - 1), ⟨#[]⟩, w3.heap.size⟩ hV.pm.bk hV.pm.row hV.pm.size hon9).mono ?_
      rintro e W' ⟨rfl, hx6, oa', oc', hB6, hr6⟩
      have hdon := HD3.out
      have hpush := hV.pm.push hx6 (p := ⟨nv 3 [123] AD [], T :: p.ks, none⟩) hB6 hr6 hK (by
        show tnOf ⟨3, ⟨#[123]⟩, tx AD, ⟨#[]⟩, dg, 0, dc, dn⟩ = nv 3 [123] AD []
        have h0 : dn = [] := List.eq_nil_of_length_eq_zero hdon.nl
        rw [h0]; rfl) rfl (on_any (W := w3) { hdon with az := by show (tx AD).size ≤ _; rw [tx_size]; have := HAD.out.1; unfold maxLen; omega } rfl) rfl HZ.out.1 (hK.not hV.pm.tyS)
      have hX6 := hV.bk.ex hx6 (by
        intro hm
        rcases List.mem_cons.1 hm with h1 | h1
        · exact hgx h1
        · have := hob _ (by simpa using h1); omega)
      have hAN := HAD.out.2
      refine ⟨rfl, ⟨⟨i + AN, _, _, _, _, _, _, _, _, _, hpush, ?_, (show Iv dp N K2 (T :: p.ks) (n - i + 1) from ?_).push rfl (.inl ⟨rfl, by show (1 : Int) ≤ 3; decide, by show (3 : Int) ≤ 8; decide, HKD.out AD⟩) ?_, by omega, by omega⟩, hV.fr.trans (Fr.of hx6 hV.pm.offs hV.pm.size hV.pm.base)⟩, hX6, Pc.c3 hB6⟩
      · rw [← List.drop_drop]
        exact HFP.out
      · have hI := HI2.out
        refine ⟨fun t ht => hI.tr t ?_, fun hd t ht => hI.fl hd t ?_, fun hd => ?_, hI.ok, ?_⟩
        · simp only [List.mem_append, List.mem_cons] at ht ⊢; rcases ht with (h | h) | h
          · exact .inl (.inr (.inl h))
          · exact .inl (.inl h)
          · exact .inr h
        · simp only [List.mem_append, List.mem_cons] at ht ⊢; rcases ht with (h | h) | h
          · exact .inl (.inr (.inl h))
          · exact .inl (.inl h)
          · exact .inr h
        · obtain ⟨t, ht, h2⟩ := hI.de hd
          refine ⟨t, ?_, h2⟩
          simp only [List.mem_append, List.mem_cons, List.not_mem_nil, or_false] at ht ⊢
          rcases ht with (h | h) | h
          · exact .inl (.inr h)
          · exact .inl (.inl h)
          · exact .inr h
        · have := hI.wt
          rw [wl_app, wl_cons, show wl [] = 0 from rfl] at this
          rw [wl_cons]
          omega
      · rw [wB_ne (show (3 : Int) ≠ 6 by decide)]
        show 1 + wl (T :: p.ks) + _ ≤ _
        omega)
    have hVp := HV3.out.ex0 ((Ex.refl [] w3).alloc (.cells #[.slice kk.a kk.n kk.c] 22)).drew
    have hKp : KR B (w3.alloc (.cells #[.slice kk.a kk.n kk.c] 22)).drew dp w3.heap.size (some ⟨w3.heap.size, 0, none⟩) 1 1 (fun _ => kk) [T] := ⟨rfl, one_row (Nat.le_refl _), HZ.out.2.2, fun hd i hi => by
      obtain rfl : i = 0 := by simp at hi; omega
      exact hVp.nt hd⟩
    have hZp : w3.heap.size ≤ (w3.alloc (.cells #[.slice kk.a kk.n kk.c] 22)).drew.heap.size := by show _ ≤ (w3.heap.push _).size; simp
    have KA1 := Lib.hid (KA.out w3.drew (HV3.out.ex0 (Ex.refl [] w3).drew))
    have KA2 := Lib.hid (KA.out _ hVp)
    have x1 := HX3.out.p1
    have x2 := HX3.out.p2
    have x3 := HX3.out.p3
    have x4 := HX3.out.p4
    have x5 := HX3.out.p5
    have c3 := Pc.c3 HM3.out.bk
    have HVp := Lib.hid hVp
    have HKp := Lib.hid hKp
    clear hob hsl hko hVp hKp HM3 HT3 HF3 HKR3 HX3 HSEP
    go_wp2_with fail
    go_region_held3 (fun w' => w'.cell? ⟨w2.heap.size, 0, none⟩ = some (.int .i64 3) ∧ w'.cell? ⟨w2.heap.size, 1, none⟩ = some (.string ⟨#[123]⟩) ∧ w'.cell? ⟨w2.heap.size, 2, none⟩ = some (.string ⟨#[]⟩) ∧ w'.cell? ⟨w2.heap.size, 3, none⟩ = some (.string ⟨#[]⟩) ∧ w'.cell? ⟨w2.heap.size, 4, none⟩ = some (.slice dg 0 dc) ∧ w'.cell? ⟨w2.heap.size, 5, none⟩ = some (.slice ka kn kc) ∧ w'.cell? ⟨g, 3, none⟩ = some (.slice kk.a kk.n kk.c))
      (first | exact ⟨x0, x1, x2, x3, x4, x5, c3⟩ | exact ⟨HVq.out.bk.p0, HVq.out.bk.p1, HVq.out.bk.p2, HVq.out.bk.p3, HVq.out.bk.p4, HVq.out.bk.p5, Pc.c3 HVq.out.pm.bk⟩ | exact ⟨HVp.out.bk.p0, HVp.out.bk.p1, HVp.out.bk.p2, HVp.out.bk.p3, HVp.out.bk.p4, HVp.out.bk.p5, Pc.c3 HVp.out.pm.bk⟩ | exact ⟨hy8.p0, hy8.p1, hy8.p2, hy8.p3, hy8.p4, hy8.p5, hy9⟩ | fail)
      (first
        | (go_at_call 113; (with_reducible refine (KA1.out).mono ?_); rintro e w4 ⟨rfl, hV4, hx4⟩; have HVq := Lib.hid hV4; have hz4 := Nat.le_trans (Nat.le_refl w3.heap.size) hx4.size; have HVp := Lib.hid (hV4.ex0 ((Ex.refl [] w4).alloc (.cells #[.slice kk.a kk.n kk.c] 22))); have HKp := Lib.hid (KR.one HVp.out.nt hz4 HZ.out.2.2); have hZp : w3.heap.size ≤ (w4.alloc (.cells #[.slice kk.a kk.n kk.c] 22)).heap.size := Nat.le_trans hz4 ((Ex.refl [] w4).alloc _).size; clear hV4 hx4)
        | (go_at_call 113; (with_reducible refine (KA2.out).mono ?_); rintro e w4 ⟨rfl, hV4, hx4⟩; have HKp := Lib.hid (HKp.out.ex hx4 HVp.out.pm.offg (HKp.out.not HVp.out.pm.tyG)); have hZp := Nat.le_trans hZp hx4.size; have HVp := Lib.hid hV4; clear hV4 hx4)
        | (go_at_call 113; (with_reducible refine (KA3.out).mono ?_); rintro e w6 ⟨rfl, hV6, hx6⟩; have hK6 := HKf.out.ex hx6 HVp.out.pm.offg (HKf.out.not HVp.out.pm.tyG); have KBf := Lib.hid (KB.out _ _ _ hV6 hK6); have HVp := Lib.hid hV6; clear hV6 hx6)
        | (go_at_call 95; (with_reducible refine (KBf.out).mono ?_); rintro e w9 ⟨rfl, hfin, hy8, hy9⟩)
        | (refine step_append_kids (.tmp 21) (.tmp 23) w3.heap.size (lo := lo2) (kd := kd) rfl rfl rfl rfl HKp.out.row HVp.out.kr.row hZp hkn9 ?_; intro v5 w5 hown5 hgr5; obtain ⟨hV5, a5, c5, rfl, hK5⟩ := HVp.out.grow HKp.out HZ.out.1 HZ.out.2.1 hown5 hgr5; (try (have KBf := Lib.hid (KB.out _ _ _ hV5 hK5))); (try (have KA3 := Lib.hid (KA.out _ hV5))); have HKf := Lib.hid hK5; have HVp := Lib.hid hV5; clear hV5 hK5 hown5 hgr5)
        | fail)
    all_goals
      have HE := Lib.hid hfin
      clear hfin hy8 hy9 x0 x1 x2 x3 x4 x5 c3 KB KBf KA KA1 KA2 HVp HKp HKf hZp
      go_wp2_with fail
      go_ret
      exact ⟨HE.out.2, .inl ⟨rfl, HE.out.1⟩⟩
set_option maxRecDepth 10000 in
set_option maxHeartbeats 6400000 in
theorem fm_verb4 (ts : List Tk) (hP : Pall ts) {B N : Nat} {W : World} {g : Nat} {pa : Option Addr} {n pc i : Nat} {oa : Option Addr} {on oc : Nat} {kk : Kd} {dp : Bool} {ms : List Mb} {p : Bg} {K2 : List Bg} {T : List Tn} {x : Option (List Tn)} {r : List Pk} {c : UInt8} (hN : N ≤ 900) (hm : n ≤ 300) (hi : i ≤ n)
    (hM : PM B ts W g pa n pc i oa on oc kk.a kk.n kk.c false dp ms (p :: K2)) (hT : dp = false → Nt B W kk T) (hMc : Mc numT (.mk p T) ((pks ts).drop i) K2 x r) (hI : Iv dp N (p :: K2) [T] (n - i)) (hu : p.u = some c) (hk : p.n.k = 4) :
    Calls Tryz.prog 103 #[.pointer (some ⟨g, 0, none⟩)] W (FmEnd B N ts g pa n pc x r i W) := by
  cases ms with
  | nil => exact hM.sr.elim
  | cons b l =>
    obtain ⟨_, _, hpK, hS, hlo, hsr, hon⟩ := hM.top
    injection hpK with e1 e2
    subst e1 e2
    have hon9 : on ≤ 1000 := by have := iv_len hI; have := hM.len; omega
    have hok := hI.pop.2.some hu
    have hnd : p.n = tnOf b.d := hS.node.symm
    have hdk : b.d.k = 4 := by rw [← hk, hnd]; rfl
    have hpn : p.n.ns.length ≤ 100 := by rw [hnd, tn_ns hS.on hS.dm]; exact Nat.zero_le _
    have hdm := hS.dm
    obtain ⟨hv9, ha9, hx9, hkd9⟩ : p.n.v = [123] ∧ p.n.a = [] ∧ p.n.x = [] ∧ kdT p.n = (p.ks.length : Int) + 2 := by rcases hok with h | h | h | h | h <;> first | exact h.2 | omega
    have hMa := hMc.mk_verb (by omega)
    rw [hk, hv9] at hMa
    have hMt := hMa.ad_inv (fun q l' e h5 => ps_one (hP.at e).1 (.inl h5))
    have hbd : b.d.v = ⟨#[123]⟩ ∧ b.d.a = ⟨#[]⟩ ∧ b.d.x = ⟨#[]⟩ := by
      have h1 : b.d.v.data.toList = [123] := by rw [← hv9, hnd]; rfl
      have h2 : b.d.a.data.toList = [] := by rw [← ha9, hnd]; rfl
      have h3 : b.d.x.data.toList = [] := by rw [← hx9, hnd]; rfl
      exact ⟨bytes_ext (b := ⟨#[123]⟩) h1, bytes_ext (b := ⟨#[]⟩) h2, bytes_ext (b := ⟨#[]⟩) h3⟩
    have HFP := Lib.hid hMt
    have HI2 := Lib.hid hI.pop.1
    have HKD := Lib.hid (show ∀ a, kdT (nv 4 [123] a []) = ((T :: p.ks).length : Int) + 1 from fun a => by
      have h1 : kdT p.n = kdT (nv 4 [123] a []) := by
        unfold kdT nv
        rw [hk, hv9]
      rw [← h1, hkd9, List.length_cons]
      omega)
    clear hok hMa hMt hkd9 hv9 ha9 hx9
    obtain ⟨⟨dk, dv, da, dx, dg, dm, dc, dn⟩, ka, kn, kc, kd, u, lo⟩ := b
    obtain ⟨rfl, rfl, rfl⟩ : dv = ⟨#[123]⟩ ∧ da = ⟨#[]⟩ ∧ dx = ⟨#[]⟩ := hbd
    have hdm : dm = 0 := hdm
    have hdk : dk = 4 := hdk
    subst hdm hdk
    have HMC := Lib.hid hMc
    have HND := Lib.hid hnd
    have HPN := Lib.hid hpn
    have HI := Lib.hid hI
    have HM := Lib.hid hM
    have HT := Lib.hid hT
    have KL := Lib.hid (show Calls Tryz.prog 114 #[.pointer (some ⟨g, 0, none⟩)] W (fun e W' => e = .returned (.agg #[.int .i64 4, .string ⟨#[123]⟩, .string ⟨#[]⟩, .string ⟨#[]⟩, .slice dg 0 dc, .slice ka kn kc, .string u]) ∧ Ex [g] W W' ∧ Bk 84 W' g (pcs pa n pc i oa l.length oc kk.a kk.n kk.c false dp) ∧ W'.ownsRow B 129 7 (.slice oa l.length oc) l.length (obs l)) from last_is hM.bk hM.row hon hon9)
    clear hM hT hMc hI hS hlo hsr hnd hpn
    go_enter Tryz.func103, Tryz.ntmps103
    go_wp2_with fail
    refine KL.out.mono ?_
    rintro e w2 ⟨rfl, hx2, hB2, hr2⟩
    obtain ⟨hM2, hd2, lo2, hKR2, hlo2, hsep2⟩ := HM.out.popped hx2 hB2 hr2
    have HT2 := Lib.hid (fun hd => (HT.out hd).ex hx2 HM.out.offg)
    have HF2 := Lib.hid (Fr.of hx2 HM.out.offg HM.out.size (fun k hk => by rcases List.mem_singleton.1 hk with rfl; exact HM.out.hg))
    replace hKR2 : KR B w2 dp lo2 ka kn kc kd p.ks := hKR2
    have hbx := box_below w2 (.cells #[.int .i64 4, .string ⟨#[123]⟩, .string ⟨#[]⟩, .string ⟨#[]⟩, .slice dg 0 dc, .slice ka kn kc, .string u] 129)
    have hX3 := Bk.new 129 w2 [.int .i64 4, .string ⟨#[123]⟩, .string ⟨#[]⟩, .string ⟨#[]⟩, .slice dg 0 dc, .slice ka kn kc, .string u]
    rw [show [Value.int .i64 4, .string ⟨#[123]⟩, .string ⟨#[]⟩, .string ⟨#[]⟩, .slice dg 0 dc, .slice ka kn kc, .string u].toArray = #[.int .i64 4, .string ⟨#[123]⟩, .string ⟨#[]⟩, .string ⟨#[]⟩, .slice dg 0 dc, .slice ka kn kc, .string u] from rfl] at hX3
    have HM3 := Lib.hid (hM2.below hbx)
    have HT3 := Lib.hid (fun hd => (HT2.out hd).ex (Ex.of [] hbx) (Off.none _))
    have HF3 := Lib.hid (HF2.out.trans (Fr.ofB hbx hM2.size))
    have HKR3 := Lib.hid (hKR2.ex (Ex.of [] hbx) (Off.none _) (fun k hk => by simp))
    have HD3 := Lib.hid (hd2.below hbx)
    have hsz3 := hbx.size
    have HOB := Lib.hid (fun k hk => (hM2.row.lt k hk).2 : ∀ k, (Value.slice oa l.length oc).ownBlock = some k → k < w2.heap.size)
    have HKO := Lib.hid (fun k hk => (hKR2.row.lt k hk).2 : ∀ k, (Value.slice ka kn kc).ownBlock = some k → k < w2.heap.size)
    have hgx : w2.heap.size ≠ g := by have := hM2.bk.lt; omega
    have HSEP := Lib.hid hsep2
    have hbl : w2.heap.size < (w2.alloc (.cells #[.int .i64 4, .string ⟨#[123]⟩, .string ⟨#[]⟩, .string ⟨#[]⟩, .slice dg 0 dc, .slice ka kn kc, .string u] 129)).heap.size := by simp
    clear hx2 hB2 hr2 hM2 hKR2 hd2 KL HT2 HF2 hsep2 hbx HM HT
    go_upto_region 2 with fail
    generalize w2.alloc (.cells #[.int .i64 4, .string ⟨#[123]⟩, .string ⟨#[]⟩, .string ⟨#[]⟩, .slice dg 0 dc, .slice ka kn kc, .string u] 129) = w3 at *
    have hlo3 : lo2 ≤ w3.heap.size := by omega
    have HX3 := Lib.hid hX3
    have x0 := hX3.p0
    clear hX3
    have hob := HOB.out
    have hsl := fun c hc k hk => (HM3.out.sr.lt c hc k hk).1
    have hko : ∀ k, (Value.slice ka kn kc).ownBlock = some k → k < w3.heap.size := fun k hk => Nat.lt_trans (HKO.out k hk) hbl
    have HV3 := Lib.hid (show Vs B ts W g pa n pc i oa l.length oc kk dp l K2 T lo2 ka kn kc kd p.ks w2.heap.size [.int .i64 4, .string ⟨#[123]⟩, .string ⟨#[]⟩, .string ⟨#[]⟩, .slice dg 0 dc, .slice ka kn kc, .string u] w3 from ⟨HM3.out, HKR3.out, HX3.out, HT3.out, HF3.out⟩)
    have HZ := Lib.hid (⟨hsl, hko, HM3.out.size⟩ : (∀ c ∈ l, ∀ q, (Value.slice c.ka c.kn c.kc).ownBlock = some q → q < w3.heap.size) ∧ (∀ k, (Value.slice ka kn kc).ownBlock = some k → k < w3.heap.size) ∧ B ≤ w3.heap.size)
    have hknl : kn ≤ 3 := by
      have h1 := HKR3.out.kl
      have h2 := HKD.out []
      have h3 := kdT_le (nv 4 [123] [] [])
      rw [List.length_cons] at h2
      omega
    have hkn9 : 1 + kn ≤ 5000 := by omega
    have KA := Lib.hid (show ∀ w, Vs B ts W g pa n pc i oa l.length oc kk dp l K2 T lo2 ka kn kc kd p.ks w2.heap.size [.int .i64 4, .string ⟨#[123]⟩, .string ⟨#[]⟩, .string ⟨#[]⟩, .slice dg 0 dc, .slice ka kn kc, .string u] w → Calls Tryz.prog 113 #[.pointer (some ⟨g, 0, none⟩), .agg #[.int .i64 4, .string ⟨#[123]⟩, .string ⟨#[]⟩, .string ⟨#[]⟩, .slice dg 0 dc]] w (fun e W' => e = .returned (.agg #[.int .i64 4, .string ⟨#[123]⟩, .string (tx (advA 4 ((pks ts).drop i))), .string ⟨#[]⟩, .slice dg 0 dc]) ∧ Vs B ts W g pa n pc (i + advN 4 ((pks ts).drop i)) oa l.length oc kk dp l K2 T lo2 ka kn kc kd p.ks w2.heap.size [.int .i64 4, .string ⟨#[123]⟩, .string ⟨#[]⟩, .string ⟨#[]⟩, .slice dg 0 dc, .slice ka kn kc, .string u] W' ∧ Ex [g] w W') by
      intro w hV
      refine (withAdv_is ts hP hV.pm.bk hV.pm.pq hV.pm.hn hm hi (k := 4) (by decide) ⟨#[123]⟩ ⟨#[]⟩ dg 0 dc).mono ?_
      rintro e W' ⟨rfl, hB, hx⟩
      exact ⟨rfl, hV.exg hx hB hgx, hx⟩)
    generalize hAD : advA 4 ((pks ts).drop i) = AD at *
    generalize hAN : advN 4 ((pks ts).drop i) = AN at *
    have HAD := Lib.hid (show AD.length ≤ 300 ∧ AN ≤ n - i from ⟨by rw [← hAD]; exact advA_len (fun q hq => (hP q (List.mem_of_mem_drop hq)).2), by rw [← hAN]; have := advN_le (k := 4) (l := (pks ts).drop i); rwa [List.length_drop, pks_len, ← HM3.out.hn] at this⟩)
    clear hAD hAN
    have KB := Lib.hid (show ∀ (w : World) (a' : Option Addr) (c' : Nat), Vs B ts W g pa n pc (i + AN) oa l.length oc kk dp l K2 T lo2 ka kn kc kd p.ks w2.heap.size [.int .i64 4, .string ⟨#[123]⟩, .string ⟨#[]⟩, .string ⟨#[]⟩, .slice dg 0 dc, .slice ka kn kc, .string u] w → KR B w dp w3.heap.size a' (1 + kn) c' (fun i => if i = 0 then kk else kd (i - 1)) (T :: p.ks) → Calls Tryz.prog 95 #[.pointer (some ⟨g, 0, none⟩), .agg #[.int .i64 4, .string ⟨#[123]⟩, .string (tx AD), .string ⟨#[]⟩, .slice dg 0 dc], .string ⟨#[]⟩, .slice a' (1 + kn) c'] w (fun e W' => e = .returned (.tuple #[]) ∧ (ToS B N ts g pa n pc x r i W' ∧ Fr B W W') ∧ (Bk 129 W' w2.heap.size [.int .i64 4, .string ⟨#[123]⟩, .string ⟨#[]⟩, .string ⟨#[]⟩, .slice dg 0 dc, .slice ka kn kc, .string u] ∧ W'.cell? ⟨g, 3, none⟩ = some (.slice kk.a kk.n kk.c))) by
      intro w a' c' hV hK
      have hon9 : l.length ≤ 1000 := by have := iv_len HI2.out; have := hV.pm.len; omega
      refine (begin_is ⟨⟨4, ⟨#[123]⟩, tx AD, ⟨#[]⟩, dg, 0, dc, dn⟩, a', 1 + kn, c', fun i => if i = 0 then kk else kd (i - 1), ⟨#[]⟩, w3.heap.size⟩ hV.pm.bk hV.pm.row hV.pm.size hon9).mono ?_
      rintro e W' ⟨rfl, hx6, oa', oc', hB6, hr6⟩
      have hdon := HD3.out
      have hpush := hV.pm.push hx6 (p := ⟨nv 4 [123] AD [], T :: p.ks, none⟩) hB6 hr6 hK (by
        show tnOf ⟨4, ⟨#[123]⟩, tx AD, ⟨#[]⟩, dg, 0, dc, dn⟩ = nv 4 [123] AD []
        have h0 : dn = [] := List.eq_nil_of_length_eq_zero hdon.nl
        rw [h0]; rfl) rfl (on_any (W := w3) { hdon with az := by show (tx AD).size ≤ _; rw [tx_size]; have := HAD.out.1; unfold maxLen; omega } rfl) rfl HZ.out.1 (hK.not hV.pm.tyS)
      have hX6 := hV.bk.ex hx6 (by
        intro hm
        rcases List.mem_cons.1 hm with h1 | h1
        · exact hgx h1
        · have := hob _ (by simpa using h1); omega)
      have hAN := HAD.out.2
      refine ⟨rfl, ⟨⟨i + AN, _, _, _, _, _, _, _, _, _, hpush, ?_, (show Iv dp N K2 (T :: p.ks) (n - i + 1) from ?_).push rfl (.inl ⟨rfl, by show (1 : Int) ≤ 4; decide, by show (4 : Int) ≤ 8; decide, HKD.out AD⟩) ?_, by omega, by omega⟩, hV.fr.trans (Fr.of hx6 hV.pm.offs hV.pm.size hV.pm.base)⟩, hX6, Pc.c3 hB6⟩
      · rw [← List.drop_drop]
        exact HFP.out
      · have hI := HI2.out
        refine ⟨fun t ht => hI.tr t ?_, fun hd t ht => hI.fl hd t ?_, fun hd => ?_, hI.ok, ?_⟩
        · simp only [List.mem_append, List.mem_cons] at ht ⊢; rcases ht with (h | h) | h
          · exact .inl (.inr (.inl h))
          · exact .inl (.inl h)
          · exact .inr h
        · simp only [List.mem_append, List.mem_cons] at ht ⊢; rcases ht with (h | h) | h
          · exact .inl (.inr (.inl h))
          · exact .inl (.inl h)
          · exact .inr h
        · obtain ⟨t, ht, h2⟩ := hI.de hd
          refine ⟨t, ?_, h2⟩
          simp only [List.mem_append, List.mem_cons, List.not_mem_nil, or_false] at ht ⊢
          rcases ht with (h | h) | h
          · exact .inl (.inr h)
          · exact .inl (.inl h)
          · exact .inr h
        · have := hI.wt
          rw [wl_app, wl_cons, show wl [] = 0 from rfl] at this
          rw [wl_cons]
          omega
      · rw [wB_ne (show (4 : Int) ≠ 6 by decide)]
        show 1 + wl (T :: p.ks) + _ ≤ _
        omega)
    have hVp := HV3.out.ex0 ((Ex.refl [] w3).alloc (.cells #[.slice kk.a kk.n kk.c] 22)).drew
    have hKp : KR B (w3.alloc (.cells #[.slice kk.a kk.n kk.c] 22)).drew dp w3.heap.size (some ⟨w3.heap.size, 0, none⟩) 1 1 (fun _ => kk) [T] := ⟨rfl, one_row (Nat.le_refl _), HZ.out.2.2, fun hd i hi => by
      obtain rfl : i = 0 := by simp at hi; omega
      exact hVp.nt hd⟩
    have hZp : w3.heap.size ≤ (w3.alloc (.cells #[.slice kk.a kk.n kk.c] 22)).drew.heap.size := by show _ ≤ (w3.heap.push _).size; simp
    have KA1 := Lib.hid (KA.out w3.drew (HV3.out.ex0 (Ex.refl [] w3).drew))
    have KA2 := Lib.hid (KA.out _ hVp)
    have x1 := HX3.out.p1
    have x2 := HX3.out.p2
    have x3 := HX3.out.p3
    have x4 := HX3.out.p4
    have x5 := HX3.out.p5
    have c3 := Pc.c3 HM3.out.bk
    have HVp := Lib.hid hVp
    have HKp := Lib.hid hKp
    clear hob hsl hko hVp hKp HM3 HT3 HF3 HKR3 HX3 HSEP
    go_wp2_with fail
    go_region_held3 (fun w' => w'.cell? ⟨w2.heap.size, 0, none⟩ = some (.int .i64 4) ∧ w'.cell? ⟨w2.heap.size, 1, none⟩ = some (.string ⟨#[123]⟩) ∧ w'.cell? ⟨w2.heap.size, 2, none⟩ = some (.string ⟨#[]⟩) ∧ w'.cell? ⟨w2.heap.size, 3, none⟩ = some (.string ⟨#[]⟩) ∧ w'.cell? ⟨w2.heap.size, 4, none⟩ = some (.slice dg 0 dc) ∧ w'.cell? ⟨w2.heap.size, 5, none⟩ = some (.slice ka kn kc) ∧ w'.cell? ⟨g, 3, none⟩ = some (.slice kk.a kk.n kk.c))
      (first | exact ⟨x0, x1, x2, x3, x4, x5, c3⟩ | exact ⟨HVq.out.bk.p0, HVq.out.bk.p1, HVq.out.bk.p2, HVq.out.bk.p3, HVq.out.bk.p4, HVq.out.bk.p5, Pc.c3 HVq.out.pm.bk⟩ | exact ⟨HVp.out.bk.p0, HVp.out.bk.p1, HVp.out.bk.p2, HVp.out.bk.p3, HVp.out.bk.p4, HVp.out.bk.p5, Pc.c3 HVp.out.pm.bk⟩ | exact ⟨hy8.p0, hy8.p1, hy8.p2, hy8.p3, hy8.p4, hy8.p5, hy9⟩ | fail)
      (first
        | (go_at_call 113; (with_reducible refine (KA1.out).mono ?_); rintro e w4 ⟨rfl, hV4, hx4⟩; have HVq := Lib.hid hV4; have hz4 := Nat.le_trans (Nat.le_refl w3.heap.size) hx4.size; have HVp := Lib.hid (hV4.ex0 ((Ex.refl [] w4).alloc (.cells #[.slice kk.a kk.n kk.c] 22))); have HKp := Lib.hid (KR.one HVp.out.nt hz4 HZ.out.2.2); have hZp : w3.heap.size ≤ (w4.alloc (.cells #[.slice kk.a kk.n kk.c] 22)).heap.size := Nat.le_trans hz4 ((Ex.refl [] w4).alloc _).size; clear hV4 hx4)
        | (go_at_call 113; (with_reducible refine (KA2.out).mono ?_); rintro e w4 ⟨rfl, hV4, hx4⟩; have HKp := Lib.hid (HKp.out.ex hx4 HVp.out.pm.offg (HKp.out.not HVp.out.pm.tyG)); have hZp := Nat.le_trans hZp hx4.size; have HVp := Lib.hid hV4; clear hV4 hx4)
        | (go_at_call 113; (with_reducible refine (KA3.out).mono ?_); rintro e w6 ⟨rfl, hV6, hx6⟩; have hK6 := HKf.out.ex hx6 HVp.out.pm.offg (HKf.out.not HVp.out.pm.tyG); have KBf := Lib.hid (KB.out _ _ _ hV6 hK6); have HVp := Lib.hid hV6; clear hV6 hx6)
        | (go_at_call 95; (with_reducible refine (KBf.out).mono ?_); rintro e w9 ⟨rfl, hfin, hy8, hy9⟩)
        | (refine step_append_kids (.tmp 21) (.tmp 23) w3.heap.size (lo := lo2) (kd := kd) rfl rfl rfl rfl HKp.out.row HVp.out.kr.row hZp hkn9 ?_; intro v5 w5 hown5 hgr5; obtain ⟨hV5, a5, c5, rfl, hK5⟩ := HVp.out.grow HKp.out HZ.out.1 HZ.out.2.1 hown5 hgr5; (try (have KBf := Lib.hid (KB.out _ _ _ hV5 hK5))); (try (have KA3 := Lib.hid (KA.out _ hV5))); have HKf := Lib.hid hK5; have HVp := Lib.hid hV5; clear hV5 hK5 hown5 hgr5)
        | fail)
    all_goals
      have HE := Lib.hid hfin
      clear hfin hy8 hy9 x0 x1 x2 x3 x4 x5 c3 KB KBf KA KA1 KA2 HVp HKp HKf hZp
      go_wp2_with fail
      go_ret
      exact ⟨HE.out.2, .inl ⟨rfl, HE.out.1⟩⟩
theorem finishMark_is (ts : List Tk) (hP : Pall ts) {B N : Nat} {W : World} {g : Nat} {pa : Option Addr} {n pc i : Nat} {oa : Option Addr} {on oc : Nat} {kk : Kd} {dp : Bool} {ms : List Mb} {p : Bg} {K2 : List Bg} {T : List Tn} {x : Option (List Tn)} {r : List Pk} {c : UInt8} (hN : N ≤ 900) (hm : n ≤ 300) (hi : i ≤ n)
    (hM : PM B ts W g pa n pc i oa on oc kk.a kk.n kk.c false dp ms (p :: K2)) (hT : dp = false → Nt B W kk T) (hMc : Mc numT (.mk p T) ((pks ts).drop i) K2 x r) (hI : Iv dp N (p :: K2) [T] (n - i)) (hu : p.u = some c) :
    Calls Tryz.prog 103 #[.pointer (some ⟨g, 0, none⟩)] W (FmEnd B N ts g pa n pc x r i W) := by
  rcases hI.pop.2.some hu with h | h | h | h | ⟨h | h, _⟩
  · exact fm_par ts hP hN hm hi hM hT hMc hI hu h.1
  · exact fm_def ts hP hN hm hi hM hT hMc hI hu h.1
  · exact fm_index ts hP hN hm hi hM hT hMc hI hu h.1
  · rcases hMc.mk_amend h.1 with ⟨q, l', e, h6, h58, hMt⟩ | ⟨h58, hMt⟩
    · exact fm_amend ts hP hN hm hi hM hT hI hu h.1 e h6 h58 hMt
    · exact fm_name ts hP hN hm hi hM hT hI hu h.1 h58 hMt
  · exact fm_verb3 ts hP hN hm hi hM hT hMc hI hu h
  · exact fm_verb4 ts hP hN hm hi hM hT hMc hI hu h
end Go.Proofs.YtljkmdmbndjngaaGreat
/-
  The parser's toTerm.
-/
namespace Go.Proofs.YtljkmdmbndjngaaGreat
set_option linter.unusedVariables false
set_option linter.unusedSimpArgs false
open Go.RowKit

def posO (g : Nat) (w : World) : Nat := (intOf ((w.cell? ⟨g, 1, none⟩).getD undef)).toNat
theorem PM.posO {B : Nat} {ts : List Tk} {W : World} {g : Nat} {pa : Option Addr} {n pc i : Nat} {oa : Option Addr} {on oc : Nat} {ta : Option Addr} {tn tc : Nat} {wh dp : Bool} {ms : List Mb} {K : List Bg} (h : PM B ts W g pa n pc i oa on oc ta tn tc wh dp ms K) : posO g W = i := by
  unfold Go.Proofs.YtljkmdmbndjngaaGreat.posO
  rw [Pc.c1 h.bk]
  simp [intOf]
/-- No term is there. -/
def NoS (B : Nat) (ts : List Tk) (g : Nat) (pa : Option Addr) (n pc : Nat) (x : Option (List Tn)) (r : List Pk) (W : World) : Prop :=
  ∃ (i : Nat) (oa : Option Addr) (on oc : Nat) (ta : Option Addr) (tn tc : Nat) (dp : Bool) (ms : List Mb) (K : List Bg), PM B ts W g pa n pc i oa on oc ta tn tc false dp ms K ∧ i ≤ n ∧ r = (pks ts).drop i ∧ x = none
def TtEnd (B N : Nat) (ts : List Tk) (g : Nat) (pa : Option Addr) (n pc : Nat) (x : Option (List Tn)) (r : List Pk) (p0 : Nat) (W : World) (e : Ending) (W' : World) : Prop :=
  Fr B W W' ∧ ((e = .returned (.bool true) ∧ FrS B N ts g pa n pc x r p0 W') ∨ (e = .returned (.bool false) ∧ NoS B ts g pa n pc x r W'))
theorem ToS.low {B N : Nat} {ts : List Tk} {g : Nat} {pa : Option Addr} {n pc : Nat} {x : Option (List Tn)} {r : List Pk} {i i' : Nat} {W : World} (h : ToS B N ts g pa n pc x r i W) (hi : i' ≤ i) : ToS B N ts g pa n pc x r i' W := by
  obtain ⟨j, oa, on, oc, ta, tn, tc, dp, ms, K, h1, h2, h3, h4, h5⟩ := h
  exact ⟨j, oa, on, oc, ta, tn, tc, dp, ms, K, h1, h2, h3, by omega, h5⟩
theorem ToS.pos {B N : Nat} {ts : List Tk} {g : Nat} {pa : Option Addr} {n pc : Nat} {x : Option (List Tn)} {r : List Pk} {i : Nat} {W : World} (h : ToS B N ts g pa n pc x r i W) : i ≤ posO g W ∧ posO g W ≤ n := by
  obtain ⟨j, oa, on, oc, ta, tn, tc, dp, ms, K, h1, h2, h3, h4, h5⟩ := h
  rw [h1.posO]; exact ⟨h4, h5⟩
/-- A tree without trees below is laid. -/
theorem leaf_laid {B N : Nat} {ts : List Tk} {W w : World} {g : Nat} {pa : Option Addr} {n pc i : Nat} {oa : Option Addr} {on oc : Nat} {ta : Option Addr} {tn tc : Nat} {dp : Bool} {ms : List Mb} {K : List Bg} {x : Option (List Tn)} {r : List Pk} {m p0 : Nat} (hp0 : p0 ≤ i) (h : PM B ts w g pa n pc i oa on oc ta tn tc false dp ms K) (hI : Iv dp N K [] m) (hm : n - i + 1 ≤ m) (hi : i ≤ n) (d : Nd) (hk : d.k = 1 ∨ d.k = 2) (hd : d.on w) (hdm : d.m ≤ 100) (hMc : Mc numT (.fr [tnOf d]) ((pks ts).drop i) K x r) (hF : Fr B W w) :
    Calls Tryz.prog 97 #[.pointer (some ⟨g, 0, none⟩), d.val, .slice none 0 0] w (fun e W' => ∃ kk5 : Kd, e = .returned (.slice kk5.a kk5.n kk5.c) ∧ W'.cell? ⟨g, 3, none⟩ = some (.slice ta tn tc) ∧ W'.frozen? ⟨g, 3, none⟩ = false ∧ FrS B N ts g pa n pc x r p0 (W'.setCell ⟨g, 3, none⟩ (.slice kk5.a kk5.n kk5.c)) ∧ Fr B W (W'.setCell ⟨g, 3, none⟩ (.slice kk5.a kk5.n kk5.c))) := by
  have hns : (tnOf d).ns.length ≤ 100 := by
    show (d.ns.map _).length ≤ 100
    rw [List.length_map, hd.nl]; exact hdm
  have hkt : (tnOf d).k = 1 ∨ (tnOf d).k = 2 := hk
  refine (grow_any (lo := B) d h.bk hd hdm (KR.nil B w dp B (Nat.le_refl _) (fun _ => ⟨none, 0, 0, fun _ => d⟩)) (by omega) (fun t ht => by cases ht) (by decide) ⟨1, .cons (k := 0) (by unfold kdT; rw [if_pos hkt]; rfl) .nil⟩).mono ?_
  rintro e W' ⟨kk5, dp5, rfl, hN5, hB5, hx5, hd5, he5⟩
  have e5 : dp5 = dp := by
    cases dp with
    | true => exact hd5 rfl
    | false => cases dp5 with
      | false => rfl
      | true => exact absurd ((he5 rfl).1 rfl) (leaf_flat hkt)
  subst e5
  obtain ⟨hM7, hN7⟩ := h.laid hx5 hB5 hd5 hN5
  have hM6 := h.deeper hx5 hB5 hd5
  have hb6 := Fr.of (Ex.setCell (Ex.refl [g] W') (p := ⟨g, 3, none⟩) (.inl List.mem_cons_self) (.slice kk5.a kk5.n kk5.c)) hM6.offg hM6.size (fun q hq => by rcases List.mem_singleton.1 hq with rfl; exact hM6.hg)
  exact ⟨kk5, rfl, Pc.c3 hB5, hB5.f 3, ⟨i, oa, on, oc, kk5, dp5, ms, K, _, hM7, hN7, hMc, hI.leaf hkt hns hm, hp0, hi⟩, (hF.trans (Fr.of hx5 h.offg h.size (fun k hk => by rcases List.mem_singleton.1 hk with rfl; exact h.hg))).trans hb6⟩
theorem numsL_take (l : List Pk) {N : Nat} (h : N = ((nmL l).take 100).length) : (numsL l N).map (·.data.toList) = ((nmL l).take 100).map numT := by
  unfold numsL
  rw [List.map_map]
  rw [show (nmL l).take N = (nmL l).take 100 by
    rw [h, List.length_take]
    rcases Nat.le_total 100 (nmL l).length with h1 | h1
    · rw [Nat.min_eq_left h1]
    · rw [Nat.min_eq_right h1, List.take_length, List.take_of_length_le h1]]
  exact List.map_congr_left fun t _ => rfl
theorem nmL_one9 {l : List Pk} (h : isK 1 l) : 1 ≤ (nmL l).length := by
  cases l with
  | nil => exact h.elim
  | cons q r =>
    unfold nmL
    rw [if_pos (show q.k = 1 from h)]
    simp
theorem PM.on9 {B N m : Nat} {ts : List Tk} {W : World} {g : Nat} {pa : Option Addr} {n pc i : Nat} {oa : Option Addr} {on oc : Nat} {ta : Option Addr} {tn tc : Nat} {wh dp : Bool} {ms : List Mb} {K : List Bg} {l : List (List Tn)} (h : PM B ts W g pa n pc i oa on oc ta tn tc wh dp ms K) (hI : Iv dp N K l m) (hN : N ≤ 900) : on ≤ 1000 := by
  have := h.len; have := iv_len hI; omega
set_option maxRecDepth 10000 in
set_option maxHeartbeats 6400000 in
theorem toTerm_is (ts : List Tk) (hP : Pall ts) {B N : Nat} {W : World} {g : Nat} {pa : Option Addr} {n pc p0 : Nat} {x : Option (List Tn)} {r : List Pk} (hN : N ≤ 900) (hm : n ≤ 300) (h : ToS B N ts g pa n pc x r p0 W) :
    Calls Tryz.prog 77 #[.pointer (some ⟨g, 0, none⟩)] W (TtEnd B N ts g pa n pc x r p0 W) := by
  have H0 := Lib.hid h
  clear h
  go_enter Tryz.func77, Tryz.ntmps77
  go_wp2_with fail
  go_loopw [] (fun wr => ToS B N ts g pa n pc x r p0 wr ∧ Fr B W wr) (fun wr => n - posO g wr)
  case atStart => exact ⟨H0.out, Fr.refl _ _⟩
  case round =>
    clear H0
    obtain ⟨⟨i, oa, on, oc, ta, tn, tc, dp, ms, K, hM, hMc, hI, hp0, hi⟩, hF⟩ := hrel
    have hpos := hM.posO
    have hon := hM.on9 hI hN
    have hi3 : i ≤ 300 := by omega
    have hll : ((pks ts).drop i).length = n - i := by rw [List.length_drop, pks_len, hM.hn]
    have KN := next_is ts hM.bk (hM.hn ▸ hM.pq.qs) hM.hn hm
    have hvb := hP.vb (i := i)
    have hmk := hP.mk (i := i) (c := 40) (by decide)
    have HM := Lib.hid hM
    have HI := Lib.hid hI
    have HF := Lib.hid hF
    have HPOS := Lib.hid hpos
    have HN9 := Lib.hid hM.hn
    clear hM hI hF hpos
    obtain ⟨L, hL⟩ : ∃ L, L = (pks ts).drop i := ⟨_, rfl⟩
    rw [← hL] at KN hvb hmk hMc hll
    have HL := Lib.hid hL
    clear hL
    unfold NxEnd at KN
    obtain ⟨k9, hk9⟩ : ∃ k9, k9 = kd0 L := ⟨_, rfl⟩
    obtain ⟨T9, hT9⟩ : ∃ T9, T9 = tx (tx0 L) := ⟨_, rfl⟩
    rw [← hk9, ← hT9] at KN
    rw [← hk9] at hvb
    have htl : T9.data.toList = tx0 L := by rw [hT9]; rfl
    rw [← htl] at hvb hmk
    have HVB := Lib.hid hvb
    have HMK := Lib.hid hmk
    have HK9 := Lib.hid hk9
    have HT9 := Lib.hid htl
    replace KN := Lib.hid KN
    clear hvb hmk hk9 hT9 htl
    have S1 := Lib.hid (show ∀ w1 p1, Below wr.heap.size wr w1 → PM B ts (w1.alloc (.cells #[.int .i64 k9, .string T9, .int .i64 p1] 80)) g pa n pc i oa on oc ta tn tc false dp ms K ∧ Fr B W (w1.alloc (.cells #[.int .i64 k9, .string T9, .int .i64 p1] 80)) ∧ Bk 80 (w1.alloc (.cells #[.int .i64 k9, .string T9, .int .i64 p1] 80)) w1.heap.size [.int .i64 k9, .string T9, .int .i64 p1] ∧ w1.heap.size ≠ g by
      intro w1 p1 hb1
      have hM1 := HM.out.below hb1
      have hbx := box_below w1 (.cells #[.int .i64 k9, .string T9, .int .i64 p1] 80)
      exact ⟨hM1.below hbx, (HF.out.trans (Fr.ofB hb1 HM.out.size)).trans (Fr.ofB hbx hM1.size), Bk.new 80 w1 [.int .i64 k9, .string T9, .int .i64 p1], by have := hM1.bk.lt; omega⟩)
    cases hMc with
    | t_num h1 hMt =>
      obtain rfl : k9 = 1 := by rw [HK9.out]; exact (kd0_yes (by decide)).2 h1
      obtain ⟨C, hC⟩ : ∃ C, C = ((nmL L).take 100).length := ⟨_, rfl⟩
      have hC1 : 1 ≤ C := by rw [hC, List.length_take]; have := nmL_one9 h1; omega
      have hCn : i + C ≤ n := by
        have h2 := nmL_le L
        have h3 : C ≤ (nmL L).length := by rw [hC, List.length_take]; omega
        omega
      have HMT := Lib.hid (show Mc numT (.fr [⟨1, [], [], [], ((nmL L).take 100).map numT⟩]) ((pks ts).drop (i + C)) K x r by
        rw [← List.drop_drop, ← HL.out, hC]; exact hMt)
      have HC := Lib.hid hC
      clear hMt h1 hC hll HVB HMK
      go_wp2_with fail
      refine KN.out.mono ?_
      rintro e w1 ⟨p1, rfl, hb1⟩
      obtain ⟨hM2, hF2, hT2, hgt⟩ := S1.out w1 p1 hb1
      have t0 := hT2.p0
      have HM2 := Lib.hid hM2
      have HF2 := Lib.hid hF2
      clear hM2 hF2 hT2 hb1 S1 HM HF KN
      go_upto_region 3 with fail
      generalize w1.alloc (.cells #[.int .i64 1, .string T9, .int .i64 p1] 80) = w2 at *
      have K1 := Lib.hid (numbers_is ts hP HM2.out.bk HM2.out.pq HM2.out.hn hm hi (N := C) (by rw [← HL.out]; exact HC.out))
      go_wp2_with fail
      refine K1.out.mono ?_
      rintro e w3 ⟨a3, c3, rfl, ho3, hB3, hx3⟩
      have hM3 := HM2.out.ex hx3 hB3
      have hF3 := HF2.out.trans (Fr.of hx3 HM2.out.offg HM2.out.size (fun k hk => by rcases List.mem_singleton.1 hk with rfl; exact HM2.out.hg))
      obtain ⟨a4, c4, e4, hca, hcb, hst⟩ := own_st ho3
      injection e4 with e4 e5 e6
      subst e4 e6
      have hnl := numsL_take L HC.out
      have hS := numsL_size (l := L) (B := 300) (fun q hq => by have := (hP q (List.mem_of_mem_drop (show q ∈ (pks ts).drop i by rw [← HL.out]; exact hq))).2; omega) C
      have htn : tnOf (litD a3 C c3 (numsL L C)) = ⟨1, [], [], [], ((nmL L).take 100).map numT⟩ := by rw [← hnl]; rfl
      have KG := Lib.hid (leaf_laid (W := W) (x := x) (r := r) (show p0 ≤ _ by omega) hM3 HI.out (by omega) hCn (litD a3 C c3 (numsL L C)) (.inl rfl) (litD_on (by rw [HL.out]; exact hst) hca hcb hS) (by show C ≤ 100; rw [HC.out, List.length_take]; omega) (by rw [htn]; exact HMT.out) hF3)
      clear K1 t0 HM2 HF2 ho3 hB3 hx3 hM3 hF3 hst hnl hS htn hca hcb HMT
      go_wp2_with fail
      refine (show Calls Tryz.prog 97 #[.pointer (some ⟨g, 0, none⟩), .agg #[.int .i64 1, .string ⟨#[]⟩, .string ⟨#[]⟩, .string ⟨#[]⟩, .slice a3 C c3], .slice none 0 0] w3 _ from KG.out).mono ?_
      rintro e w4 ⟨kk5, rfl, z3, zf, hfr, hf4⟩
      have HE := Lib.hid (show TtEnd B N ts g pa n pc x r p0 W (.returned (.bool true)) (w4.setCell ⟨g, 3, none⟩ (.slice kk5.a kk5.n kk5.c)) from ⟨hf4, .inl ⟨rfl, hfr⟩⟩)
      clear hfr hf4 KG HI
      go_wp2_with fail
      go_ret
      exact HE.out
    | @t_word q l _ _ _ h2 hMt =>
      obtain rfl : k9 = 2 := HK9.out.trans h2
      have hq := drop_next (ts := ts) (i := i) HL.out.symm
      have hin : i + 1 ≤ n := by have := HN9.out; omega
      have hTt : T9.data.toList = q.t := HT9.out
      have hql := (hP.at (i := i) HL.out.symm).2
      have hTz : T9.size ≤ maxLen := by
        have : T9.data.toList.length = T9.size := Array.length_toList
        rw [hTt] at this
        unfold maxLen; omega
      have HMT := Lib.hid (show Mc numT (.fr [tnOf (nameN T9)]) ((pks ts).drop (i + 1)) K x r by
        rw [hq.1, show tnOf (nameN T9) = nv 2 [] [] q.t by rw [← hTt]; rfl]; exact hMt)
      clear hMt h2 hll HVB HMK hTt hql
      go_wp2_with fail
      refine KN.out.mono ?_
      rintro e w1 ⟨p1, rfl, hb1⟩
      obtain ⟨hM2, hF2, hT2, hgt⟩ := S1.out w1 p1 hb1
      have t0 := hT2.p0
      have HM2 := Lib.hid hM2
      have HF2 := Lib.hid hF2
      have HT2 := Lib.hid hT2
      clear hM2 hF2 hT2 hb1 S1 HM HF KN
      go_upto_region 3 with fail
      generalize w1.alloc (.cells #[.int .i64 2, .string T9, .int .i64 p1] 80) = w2 at *
      have c1 := Pc.c1 HM2.out.bk
      have f1 := HM2.out.bk.f 1
      have w9 : IntKind.i64.wrap ((i : Int) + 1) = (i : Int) + 1 := wrn (by omega) (by omega)
      go_upto_region 8 with fail
      have hx3 := Ex.setCell (Ex.refl [g] w2) (p := ⟨g, 1, none⟩) (.inl List.mem_cons_self) (.int .i64 ((i : Int) + 1))
      have hM3 := HM2.out.ex hx3 HM2.out.bk.step
      have hF3 := HF2.out.trans (Fr.of hx3 HM2.out.offg HM2.out.size (fun k hk => by rcases List.mem_singleton.1 hk with rfl; exact HM2.out.hg))
      have hT3 := HT2.out.setOther (p := ⟨g, 1, none⟩) hgt (.int .i64 ((i : Int) + 1))
      have KG := Lib.hid (leaf_laid (W := W) (x := x) (r := r) (show p0 ≤ _ by omega) hM3 HI.out (by omega) hin (nameN T9) (.inr rfl) (nameN_on T9 _ hTz) (Nat.zero_le _) HMT.out hF3)
      clear c1 f1 w9 t0 hx3 hM3 hF3 HM2 HF2 HT2 HMT
      generalize w2.setCell ⟨g, 1, none⟩ (.int .i64 ((i : Int) + 1)) = w3 at *
      have t1 := hT3.p1
      clear hT3
      go_wp2_with fail
      refine (show Calls Tryz.prog 97 #[.pointer (some ⟨g, 0, none⟩), .agg #[.int .i64 2, .string ⟨#[]⟩, .string ⟨#[]⟩, .string T9, .slice none 0 0], .slice none 0 0] w3 _ from KG.out).mono ?_
      rintro e w4 ⟨kk5, rfl, z3, zf, hfr, hf4⟩
      have HE := Lib.hid (show TtEnd B N ts g pa n pc x r p0 W (.returned (.bool true)) (w4.setCell ⟨g, 3, none⟩ (.slice kk5.a kk5.n kk5.c)) from ⟨hf4, .inl ⟨rfl, hfr⟩⟩)
      clear hfr hf4 KG HI t1
      go_wp2_with fail
      go_ret
      exact HE.out
    | @t_par q l _ _ _ h6 ht hMt =>
      obtain rfl : k9 = 6 := HK9.out.trans h6
      have hTt : T9 = ⟨#[40]⟩ := bytes_ext (b := ⟨#[40]⟩) (HT9.out.trans ht)
      subst hTt
      have hq := drop_next (ts := ts) (i := i) HL.out.symm
      have hin : i + 1 ≤ n := by have := HN9.out; omega
      have HMT := Lib.hid (show Mc numT .to ((pks ts).drop (i + 1)) (⟨nv 0 [] [] [], [], some 41⟩ :: K) x r by rw [hq.1]; exact hMt)
      clear hMt h6 ht hll HVB HMK hq
      go_wp2_with fail
      refine KN.out.mono ?_
      rintro e w1 ⟨p1, rfl, hb1⟩
      obtain ⟨hM2, hF2, hT2, hgt⟩ := S1.out w1 p1 hb1
      have t0 := hT2.p0
      have t1 := hT2.p1
      have HM2 := Lib.hid hM2
      have HF2 := Lib.hid hF2
      clear hM2 hF2 hT2 hb1 S1 HM HF KN
      go_upto_region 3 with fail
      generalize w1.alloc (.cells #[.int .i64 6, .string ⟨#[40]⟩, .int .i64 p1] 80) = w2 at *
      have c1 := Pc.c1 HM2.out.bk
      have f1 := HM2.out.bk.f 1
      have w9 : IntKind.i64.wrap ((i : Int) + 1) = (i : Int) + 1 := wrn (by omega) (by omega)
      go_upto_region 12 with fail
      have hx3 := Ex.setCell (Ex.refl [g] w2) (p := ⟨g, 1, none⟩) (.inl List.mem_cons_self) (.int .i64 ((i : Int) + 1))
      have HM3 := Lib.hid (HM2.out.ex hx3 HM2.out.bk.step)
      have HF3 := Lib.hid (HF2.out.trans (Fr.of hx3 HM2.out.offg HM2.out.size (fun k hk => by rcases List.mem_singleton.1 hk with rfl; exact HM2.out.hg)))
      have KB := Lib.hid (begin_is ⟨⟨0, ⟨#[]⟩, ⟨#[]⟩, ⟨#[]⟩, none, 0, 0, []⟩, none, 0, 0, fun _ => ⟨none, 0, 0, fun _ => nameN ⟨#[]⟩⟩, ⟨#[41]⟩, (w2.setCell ⟨g, 1, none⟩ (.int .i64 ((i : Int) + 1))).heap.size⟩ HM3.out.bk HM3.out.row HM3.out.size hon)
      clear c1 f1 w9 t0 t1 hx3 HM2 HF2
      generalize w2.setCell ⟨g, 1, none⟩ (.int .i64 ((i : Int) + 1)) = w3 at *
      go_wp2_with fail
      refine (show Calls Tryz.prog 95 #[.pointer (some ⟨g, 0, none⟩), .agg #[.int .i64 0, .string ⟨#[]⟩, .string ⟨#[]⟩, .string ⟨#[]⟩, .slice none 0 0], .string ⟨#[41]⟩, .slice none 0 0] w3 _ from KB.out).mono ?_
      rintro e w4 ⟨rfl, hx4, oa', oc', hB4, hr4⟩
      have HFIN := Lib.hid (show (ToS B N ts g pa n pc x r p0 w4 ∧ Fr B W w4) ∧ posO g w4 = i + 1 by
        have hpush := HM3.out.push hx4 (p := ⟨nv 0 [] [] [], [], some 41⟩) hB4 hr4 (KR.nil B w3 dp w3.heap.size HM3.out.size _) rfl rfl ⟨St.nil _ _, Nat.le_refl _, Nat.zero_le _, (by decide : (-9223372036854775808 : Int) ≤ 0), (by decide : (0 : Int) ≤ 9223372036854775807), Nat.zero_le _, Nat.zero_le _, Nat.zero_le _, fun s hs => by cases hs⟩ rfl (fun c hc k hk => (HM3.out.sr.lt c hc k hk).1) (fun k hk => by cases hk)
        refine ⟨⟨⟨i + 1, _, _, _, _, _, _, _, _, _, hpush, HMT.out, HI.out.push rfl (.inr ⟨⟨41, rfl, .inl rfl⟩, .inl ⟨rfl, rfl⟩⟩) ?_, by omega, hin⟩, HF3.out.trans (Fr.of hx4 HM3.out.offs HM3.out.size HM3.out.base)⟩, hpush.posO⟩
        rw [wB_ne (by show (0 : Int) ≠ 6; decide)]
        show 1 + wl [] + _ ≤ wl [] + _
        omega)
      have hdec : n - (i + 1) < n - i := by omega
      clear hx4 hB4 hr4 KB HM3 HF3 HMT HI
      go_wp2_with fail
      go_roundw
      case rel => exact HFIN.out.1
      case measure => rw [HFIN.out.2, HPOS.out]; exact hdec
    | t_verb hv hMt =>
      have hv2 := HVB.out.1 hv
      have e1 : (k9 == 1) = false := by
        refine beq_eq_false_iff_ne.2 fun e => ?_
        cases L with
        | nil => exact hv
        | cons q l =>
          have h1 : q.k = 1 := by rw [← e]; exact HK9.out.symm
          rcases hv with h | h | h <;> omega
      have e2 : (k9 == 2) = false := by
        refine beq_eq_false_iff_ne.2 fun e => ?_
        cases L with
        | nil => exact hv
        | cons q l =>
          have h1 : q.k = 2 := by rw [← e]; exact HK9.out.symm
          rcases hv with h | h | h <;> omega
      have e40 : (T9.toList == [40]) = false := by
        rw [str_tl]
        refine beq_eq_false_iff_ne.2 fun e => ?_
        have h40 := HMK.out.2 e
        cases L with
        | nil => exact hv
        | cons q l =>
          have h6 : q.k = 6 := h40.1
          have h7 : q.t = [40] := h40.2
          rcases hv with h | h | h
          · omega
          · omega
          · rw [h7] at h; exact absurd h.2 (by decide)
      have hvd : (decide (k9 = 4) || decide (k9 = 3) || decide (T9.data.toList = [123])) = true := by
        rcases hv2 with h | h | h <;> simp [h]
      have KV := Lib.hid (fun p1 w => by have := pIsVerb_is k9 p1 T9 w; rwa [hvd] at this : ∀ p1 w, Calls Tryz.prog 99 #[.agg #[.int .i64 k9, .string T9, .int .i64 p1]] w (ValEnd (.bool true) w))
      have HMT := Lib.hid (show Mc numT (.vb 3 []) ((pks ts).drop i) K x r by rw [← HL.out]; exact hMt)
      have hdec : ∀ w, ToS B N ts g pa n pc x r (i + 1) w → n - posO g w < n - i := fun w h => by have := h.pos; omega
      have HDEC := Lib.hid hdec
      clear hMt hll HVB HMK hv hv2 hvd hdec
      go_wp2_with fail
      refine KN.out.mono ?_
      rintro e w1 ⟨p1, rfl, hb1⟩
      obtain ⟨hM2, hF2, hT2, hgt⟩ := S1.out w1 p1 hb1
      have t0 := hT2.p0
      have t1 := hT2.p1
      have t2 := hT2.p2
      have HM2 := Lib.hid hM2
      have HF2 := Lib.hid hF2
      clear hM2 hF2 hT2 hb1 S1 HM HF KN
      go_upto_region 3 with fail
      generalize w1.alloc (.cells #[.int .i64 k9, .string T9, .int .i64 p1] 80) = w2 at *
      go_wp2_with fail
      refine (KV.out p1 _).mono ?_
      rintro e w3 ⟨rfl, hb3⟩
      have KB := Lib.hid (verb_is ts hP (HM2.out.below hb3) hm (by omega) (k := 3) (.inl rfl) (KR.nil B w3 dp w3.heap.size (HM2.out.below hb3).size (fun _ => ⟨none, 0, 0, fun _ => nameN ⟨#[]⟩⟩)) rfl (fun c hc k hk => ((HM2.out.below hb3).sr.lt c hc k hk).1) HMT.out HI.out)
      have HF3 := Lib.hid (HF2.out.trans (Fr.ofB hb3 HM2.out.size))
      clear hb3 t0 t1 t2 HM2 HF2 KV HMT HI
      go_wp2_with fail
      refine KB.out.mono ?_
      rintro e w4 ⟨rfl, hto, hfr⟩
      have HFIN := Lib.hid (show ((ToS B N ts g pa n pc x r p0 w4 ∧ Fr B W w4) ∧ n - posO g w4 < n - i) from ⟨⟨hto.low (by omega), HF3.out.trans hfr⟩, HDEC.out w4 hto⟩)
      clear hto hfr KB HF3 HDEC
      go_wp2_with fail
      go_roundw
      case rel => exact HFIN.out.1
      case measure => rw [HPOS.out]; exact HFIN.out.2
    | t_bad h1 h2 h6 hv =>
      have e1 : (k9 == 1) = false := beq_eq_false_iff_ne.2 fun e => h1 ((kd0_yes (by decide)).1 (HK9.out.symm.trans e))
      have e2 : (k9 == 2) = false := beq_eq_false_iff_ne.2 fun e => h2 ((kd0_yes (by decide)).1 (HK9.out.symm.trans e))
      have e40 : (T9.toList == [40]) = false := by
        rw [str_tl]
        exact beq_eq_false_iff_ne.2 fun e => h6 (HMK.out.2 e)
      have hvd : (decide (k9 = 4) || decide (k9 = 3) || decide (T9.data.toList = [123])) = false := by
        have h9 : ¬ (k9 = 4 ∨ k9 = 3 ∨ T9.data.toList = [123]) := fun h => hv (HVB.out.2 h)
        simp only [not_or] at h9
        simp [h9.1, h9.2.1, h9.2.2]
      have KV := Lib.hid (fun p1 w => by have := pIsVerb_is k9 p1 T9 w; rwa [hvd] at this : ∀ p1 w, Calls Tryz.prog 99 #[.agg #[.int .i64 k9, .string T9, .int .i64 p1]] w (ValEnd (.bool false) w))
      clear hll HVB HMK h1 h2 h6 hv hvd
      go_wp2_with fail
      refine KN.out.mono ?_
      rintro e w1 ⟨p1, rfl, hb1⟩
      obtain ⟨hM2, hF2, hT2, hgt⟩ := S1.out w1 p1 hb1
      have t0 := hT2.p0
      have t1 := hT2.p1
      have t2 := hT2.p2
      have HM2 := Lib.hid hM2
      have HF2 := Lib.hid hF2
      clear hM2 hF2 hT2 hb1 S1 HM HF KN
      go_upto_region 3 with fail
      generalize w1.alloc (.cells #[.int .i64 k9, .string T9, .int .i64 p1] 80) = w2 at *
      go_wp2_with fail
      refine (KV.out p1 _).mono ?_
      rintro e w3 ⟨rfl, hb3⟩
      have HFIN := Lib.hid (show TtEnd B N ts g pa n pc none r p0 W (.returned (.bool false)) w3 from ⟨HF2.out.trans (Fr.ofB hb3 HM2.out.size), .inr ⟨rfl, ⟨i, _, _, _, _, _, _, _, _, _, HM2.out.below hb3, hi, HL.out, rfl⟩⟩⟩)
      clear hb3 t0 t1 t2 HM2 HF2 KV HI
      go_wp2_with fail
      go_ret
      exact HFIN.out
end Go.Proofs.YtljkmdmbndjngaaGreat

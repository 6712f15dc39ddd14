import Derived.Test.YtljkmdmbndjngaaGreatMas
/-
  The parser's finishMark: parentheses, an Index, a Define.
-/
namespace Go.Proofs.YtljkmdmbndjngaaGreat
set_option linter.unusedVariables false
set_option linter.unusedSimpArgs false
open Go.RowKit

/-- The end of a line, or where no line goes on. -/
def FiS (B N : Nat) (ts : List Tk) (g : Nat) (pa : Option Addr) (n pc : Nat) (x : Option (List Tn)) (r : List Pk) (i0 : Nat) (W : World) : Prop :=
  ∃ (i : Nat) (oa : Option Addr) (on oc : Nat) (kk : Kd) (wh dp : Bool) (ms : List Mb) (K : List Bg) (T : List Tn), PM B ts W g pa n pc i oa on oc kk.a kk.n kk.c wh dp ms K ∧ (dp = false → Nt B W kk T) ∧ Iv dp N K [T] (n - i) ∧ i0 ≤ i ∧ i ≤ n ∧ r = (pks ts).drop i ∧ ((i = n ∧ K = [] ∧ x = some T) ∨ ((i < n ∨ K ≠ []) ∧ x = none))
/-- The same, at a Define's end: nothing goes on. -/
def WhS (B N : Nat) (ts : List Tk) (g : Nat) (pa : Option Addr) (n pc : Nat) (x : Option (List Tn)) (r : List Pk) (i0 : Nat) (W : World) : Prop :=
  ∃ (i : Nat) (oa : Option Addr) (on oc : Nat) (kk : Kd) (dp : Bool) (ms : List Mb) (K : List Bg) (T : List Tn), PM B ts W g pa n pc i oa on oc kk.a kk.n kk.c true dp ms K ∧ (dp = false → Nt B W kk T) ∧ Iv dp N K [T] (n - i) ∧ i0 ≤ i ∧ i ≤ n ∧ r = (pks ts).drop i ∧ ((i = n ∧ K = [] ∧ x = some T) ∨ ((i < n ∨ K ≠ []) ∧ x = none))
def FmEnd (B N : Nat) (ts : List Tk) (g : Nat) (pa : Option Addr) (n pc : Nat) (x : Option (List Tn)) (r : List Pk) (i0 : Nat) (W : World) (e : Ending) (W' : World) : Prop :=
  Fr B W W' ∧ ((e = .returned (.bool true) ∧ ToS B N ts g pa n pc x r i0 W') ∨ (e = .returned (.bool false) ∧ (FrS B N ts g pa n pc x r i0 W' ∨ WhS B N ts g pa n pc x r i0 W')))
section
variable {M : List UInt8 → List UInt8} {p : Bg} {T : List Tn} {l : List Pk} {K : List Bg} {x : Option (List Tn)} {r : List Pk}
theorem Mc.mk_par (h : Mc M (.mk p T) l K x r) (hk : p.n.k = 0) : Mc M (.fr T) l K x r := by
  cases h with
  | k_par hb h1 => exact h1
  | k_verb hb h1 => omega
  | k_amend hb h ht h1 => omega
  | k_name hb h h1 => omega
  | k_index hb h1 => omega
  | k_def hb => omega
  | k_more hb h => omega
theorem Mc.mk_index (h : Mc M (.mk p T) l K x r) (hk : p.n.k = 8) : Mc M (.fr (p.put T)) l K x r := by
  cases h with
  | k_par hb h1 => omega
  | k_verb hb h1 => omega
  | k_amend hb h ht h1 => omega
  | k_name hb h h1 => omega
  | k_index hb h1 => exact h1
  | k_def hb => omega
  | k_more hb h => omega
theorem Mc.mk_def (h : Mc M (.mk p T) l K x r) (hk : p.n.k = 7) : r = l ∧ ((l = [] ∧ K = [] ∧ x = some (p.put T)) ∨ ((l ≠ [] ∨ K ≠ []) ∧ x = none)) := by
  cases h with
  | k_par hb h1 => omega
  | k_verb hb h1 => omega
  | k_amend hb h ht h1 => omega
  | k_name hb h h1 => omega
  | k_index hb h1 => omega
  | k_def hb => exact ⟨rfl, .inl ⟨rfl, rfl, rfl⟩⟩
  | k_more hb h => exact ⟨rfl, .inr ⟨h, rfl⟩⟩
theorem Mc.mk_verb (h : Mc M (.mk p T) l K x r) (hk : p.n.k = 3 ∨ p.n.k = 4) : Mc M (.ad p.n.k p.n.v (T :: p.ks)) l K x r := by
  cases h with
  | k_par hb h1 => omega
  | k_verb hb h1 => exact h1
  | k_amend hb h ht h1 => omega
  | k_name hb h h1 => omega
  | k_index hb h1 => omega
  | k_def hb => omega
  | k_more hb h => omega
theorem Mc.mk_amend (h : Mc M (.mk p T) l K x r) (hk : p.n.k = 6) : (∃ q l', l = q :: l' ∧ q.k = 6 ∧ q.t = [58] ∧ Mc M .to l' (⟨p.n, [T], none⟩ :: K) x r) ∨ (¬ isMk 58 l ∧ Mc M (.fr (nv 8 [] [] [] :: ([nv 2 [] [] p.n.x] ++ T))) l K x r) := by
  cases h with
  | k_par hb h1 => omega
  | k_verb hb h1 => omega
  | k_amend hb h ht h1 => exact .inl ⟨_, _, rfl, h, ht, h1⟩
  | k_name hb h h1 => exact .inr ⟨h, h1⟩
  | k_index hb h1 => omega
  | k_def hb => omega
  | k_more hb h => omega
theorem BgOk.some {b : Bg} {c : UInt8} (h : BgOk b) (hu : b.u = some c) : ((b.n.k = 0 ∧ b.ks = []) ∨ (b.n.k = 7 ∧ b.ks = []) ∨ (b.n.k = 8 ∧ b.ks.length = 1) ∨ (b.n.k = 6 ∧ b.ks = []) ∨ ((b.n.k = 3 ∨ b.n.k = 4) ∧ b.n.v = [123] ∧ b.n.a = [] ∧ b.n.x = [] ∧ kdT b.n = (b.ks.length : Int) + 2)) := by
  rcases h with h | ⟨_, h⟩
  · rw [hu] at h; cases h.1
  · exact h
end
set_option maxRecDepth 10000 in
set_option maxHeartbeats 6400000 in
theorem fm_par (ts : List Tk) (hP : Pall ts) {B N : Nat} {W : World} {g : Nat} {pa : Option Addr} {n pc i : Nat} {oa : Option Addr} {on oc : Nat} {kk : Kd} {dp : Bool} {ms : List Mb} {p : Bg} {K2 : List Bg} {T : List Tn} {x : Option (List Tn)} {r : List Pk} {c : UInt8} (hN : N ≤ 900) (hm : n ≤ 300) (hi : i ≤ n)
    (hM : PM B ts W g pa n pc i oa on oc kk.a kk.n kk.c false dp ms (p :: K2)) (hT : dp = false → Nt B W kk T) (hMc : Mc numT (.mk p T) ((pks ts).drop i) K2 x r) (hI : Iv dp N (p :: K2) [T] (n - i)) (hu : p.u = some c) (hk : p.n.k = 0) :
    Calls Tryz.prog 103 #[.pointer (some ⟨g, 0, none⟩)] W (FmEnd B N ts g pa n pc x r i W) := by
  cases ms with
  | nil => exact hM.sr.elim
  | cons b l =>
    obtain ⟨_, _, hpK, hS, hlo, hsr, hon⟩ := hM.top
    injection hpK with e1 e2
    subst e1 e2
    have hon9 : on ≤ 1000 := by have := iv_len hI; have := hM.len; omega
    have hok := hI.pop.2.some hu
    have hnd : p.n = tnOf b.d := hS.node.symm
    have hdk : b.d.k = 0 := by rw [← hk, hnd]; rfl
    have hpn : p.n.ns.length ≤ 100 := by rw [hnd, tn_ns hS.on hS.dm]; exact Nat.zero_le _
    have hdm := hS.dm
    have hks : p.ks = [] := by rcases hok with h | h | h | h | h <;> first | exact h.2 | omega
    have HFP := Lib.hid (show Mc numT (.fr T) ((pks ts).drop i) K2 x r ∧ Iv dp N K2 [T] (n - i) from ⟨hMc.mk_par hk, by have := hI.pop.1; rw [hks] at this; exact this.less (by omega)⟩)
    clear hok hks
    obtain ⟨⟨dk, dv, da, dx, dg, dm, dc, dn⟩, ka, kn, kc, kd, u, lo⟩ := b
    have hdm : dm = 0 := hdm
    have hdk : dk = 0 := hdk
    subst hdm hdk
    have HMC := Lib.hid hMc
    have HND := Lib.hid hnd
    have HPN := Lib.hid hpn
    have HI := Lib.hid hI
    have HM := Lib.hid hM
    have HT := Lib.hid hT
    have KL := Lib.hid (show Calls Tryz.prog 114 #[.pointer (some ⟨g, 0, none⟩)] W (fun e W' => e = .returned (.agg #[.int .i64 0, .string dv, .string da, .string dx, .slice dg 0 dc, .slice ka kn kc, .string u]) ∧ Ex [g] W W' ∧ Bk 84 W' g (pcs pa n pc i oa l.length oc kk.a kk.n kk.c false dp) ∧ W'.ownsRow B 129 7 (.slice oa l.length oc) l.length (obs l)) from last_is hM.bk hM.row hon hon9)
    clear hM hT hMc hI hS hlo hsr hnd hpn
    go_enter Tryz.func103, Tryz.ntmps103
    go_wp2_with fail
    refine KL.out.mono ?_
    rintro e w2 ⟨rfl, hx2, hB2, hr2⟩
    obtain ⟨hM2, hd2, lo2, hKR2, hlo2, hsep2⟩ := HM.out.popped hx2 hB2 hr2
    have HT2 := Lib.hid (fun hd => (HT.out hd).ex hx2 HM.out.offg)
    have HF2 := Lib.hid (Fr.of hx2 HM.out.offg HM.out.size (fun k hk => by rcases List.mem_singleton.1 hk with rfl; exact HM.out.hg))
    replace hKR2 : KR B w2 dp lo2 ka kn kc kd p.ks := hKR2
    have hbx := box_below w2 (.cells #[.int .i64 0, .string dv, .string da, .string dx, .slice dg 0 dc, .slice ka kn kc, .string u] 129)
    have hX3 := Bk.new 129 w2 [.int .i64 0, .string dv, .string da, .string dx, .slice dg 0 dc, .slice ka kn kc, .string u]
    rw [show [Value.int .i64 0, .string dv, .string da, .string dx, .slice dg 0 dc, .slice ka kn kc, .string u].toArray = #[.int .i64 0, .string dv, .string da, .string dx, .slice dg 0 dc, .slice ka kn kc, .string u] from rfl] at hX3
    have HM3 := Lib.hid (hM2.below hbx)
    have HT3 := Lib.hid (fun hd => (HT2.out hd).ex (Ex.of [] hbx) (Off.none _))
    have HF3 := Lib.hid (HF2.out.trans (Fr.ofB hbx hM2.size))
    have HKR3 := Lib.hid (hKR2.ex (Ex.of [] hbx) (Off.none _) (fun k hk => by simp))
    have HD3 := Lib.hid (hd2.below hbx)
    have hsz3 := hbx.size
    have hgx : w2.heap.size ≠ g := by have := hM2.bk.lt; omega
    have HSEP := Lib.hid hsep2
    have hbl : w2.heap.size < (w2.alloc (.cells #[.int .i64 0, .string dv, .string da, .string dx, .slice dg 0 dc, .slice ka kn kc, .string u] 129)).heap.size := by simp
    clear hx2 hB2 hr2 hM2 hKR2 hd2 KL HT2 HF2 hsep2 hbx HM HT
    go_upto_region 2 with fail
    generalize w2.alloc (.cells #[.int .i64 0, .string dv, .string da, .string dx, .slice dg 0 dc, .slice ka kn kc, .string u] 129) = w3 at *
    have hlo3 : lo2 ≤ w3.heap.size := by omega
    have HX3 := Lib.hid hX3
    have x0 := hX3.p0
    clear hX3
    have HFIN := Lib.hid (show FmEnd B N ts g pa n pc x r i W (.returned (.bool false)) w3 from ⟨HF3.out, .inr ⟨rfl, .inl ⟨i, oa, l.length, oc, kk, dp, l, K2, T, HM3.out, HT3.out, HFP.out.1, HFP.out.2, Nat.le_refl _, hi⟩⟩⟩)
    clear HM3 HT3 HF3 HKR3 HD3 HSEP HX3
    go_wp2_with fail
    go_ret
    exact HFIN.out
set_option maxRecDepth 10000 in
set_option maxHeartbeats 6400000 in
theorem fm_index (ts : List Tk) (hP : Pall ts) {B N : Nat} {W : World} {g : Nat} {pa : Option Addr} {n pc i : Nat} {oa : Option Addr} {on oc : Nat} {kk : Kd} {dp : Bool} {ms : List Mb} {p : Bg} {K2 : List Bg} {T : List Tn} {x : Option (List Tn)} {r : List Pk} {c : UInt8} (hN : N ≤ 900) (hm : n ≤ 300) (hi : i ≤ n)
    (hM : PM B ts W g pa n pc i oa on oc kk.a kk.n kk.c false dp ms (p :: K2)) (hT : dp = false → Nt B W kk T) (hMc : Mc numT (.mk p T) ((pks ts).drop i) K2 x r) (hI : Iv dp N (p :: K2) [T] (n - i)) (hu : p.u = some c) (hk : p.n.k = 8) :
    Calls Tryz.prog 103 #[.pointer (some ⟨g, 0, none⟩)] W (FmEnd B N ts g pa n pc x r i W) := by
  cases ms with
  | nil => exact hM.sr.elim
  | cons b l =>
    obtain ⟨_, _, hpK, hS, hlo, hsr, hon⟩ := hM.top
    injection hpK with e1 e2
    subst e1 e2
    have hon9 : on ≤ 1000 := by have := iv_len hI; have := hM.len; omega
    have hok := hI.pop.2.some hu
    have hnd : p.n = tnOf b.d := hS.node.symm
    have hdk : b.d.k = 8 := by rw [← hk, hnd]; rfl
    have hpn : p.n.ns.length ≤ 100 := by rw [hnd, tn_ns hS.on hS.dm]; exact Nat.zero_le _
    have hdm := hS.dm
    have hks : p.ks.length ≤ 1 := by rcases hok with h | h | h | h | h <;> first | omega | (rw [h.2]; simp)
    have hkd : kdT p.n = ((p.ks ++ [T]).length : Int) := by
      have h1 : p.ks.length = 1 := by rcases hok with h | h | h | h | h <;> first | exact h.2 | omega
      rw [List.length_append, h1]
      unfold kdT
      rw [hk]; rfl
    have HPL := Lib.hid (show p.ks.length ≤ 1 ∧ Iv dp N K2 (p.ks ++ [T]) (n - i + 1) ∧ kdT p.n = ((p.ks ++ [T]).length : Int) ∧ (∀ t ∈ p.ks ++ [T], ∀ x ∈ t, x.ns.length ≤ 100) ∧ wl (p.ks ++ [T]) ≤ 1000 ∧ Tr (tnOf b.d :: (p.ks ++ [T]).flatten) from ⟨hks, hI.pop.1, hkd, fun t ht => (hI.pop.1.tr t (List.mem_append_left _ ht)).2, by have := hI.pop.1.kids; omega, by rw [← hnd]; exact (tree_put (fun t ht => (hI.pop.1.tr t (List.mem_append_left _ ht)).1) hkd).1⟩)
    clear hok hks hkd
    have HFP := Lib.hid (hMc.mk_index hk)
    obtain ⟨⟨dk, dv, da, dx, dg, dm, dc, dn⟩, ka, kn, kc, kd, u, lo⟩ := b
    have hdm : dm = 0 := hdm
    have hdk : dk = 8 := hdk
    subst hdm hdk
    have HMC := Lib.hid hMc
    have HND := Lib.hid hnd
    have HPN := Lib.hid hpn
    have HI := Lib.hid hI
    have HM := Lib.hid hM
    have HT := Lib.hid hT
    have KL := Lib.hid (show Calls Tryz.prog 114 #[.pointer (some ⟨g, 0, none⟩)] W (fun e W' => e = .returned (.agg #[.int .i64 8, .string dv, .string da, .string dx, .slice dg 0 dc, .slice ka kn kc, .string u]) ∧ Ex [g] W W' ∧ Bk 84 W' g (pcs pa n pc i oa l.length oc kk.a kk.n kk.c false dp) ∧ W'.ownsRow B 129 7 (.slice oa l.length oc) l.length (obs l)) from last_is hM.bk hM.row hon hon9)
    clear hM hT hMc hI hS hlo hsr hnd hpn
    go_enter Tryz.func103, Tryz.ntmps103
    go_wp2_with fail
    refine KL.out.mono ?_
    rintro e w2 ⟨rfl, hx2, hB2, hr2⟩
    obtain ⟨hM2, hd2, lo2, hKR2, hlo2, hsep2⟩ := HM.out.popped hx2 hB2 hr2
    have HT2 := Lib.hid (fun hd => (HT.out hd).ex hx2 HM.out.offg)
    have HF2 := Lib.hid (Fr.of hx2 HM.out.offg HM.out.size (fun k hk => by rcases List.mem_singleton.1 hk with rfl; exact HM.out.hg))
    replace hKR2 : KR B w2 dp lo2 ka kn kc kd p.ks := hKR2
    have hbx := box_below w2 (.cells #[.int .i64 8, .string dv, .string da, .string dx, .slice dg 0 dc, .slice ka kn kc, .string u] 129)
    have hX3 := Bk.new 129 w2 [.int .i64 8, .string dv, .string da, .string dx, .slice dg 0 dc, .slice ka kn kc, .string u]
    rw [show [Value.int .i64 8, .string dv, .string da, .string dx, .slice dg 0 dc, .slice ka kn kc, .string u].toArray = #[.int .i64 8, .string dv, .string da, .string dx, .slice dg 0 dc, .slice ka kn kc, .string u] from rfl] at hX3
    have HM3 := Lib.hid (hM2.below hbx)
    have HT3 := Lib.hid (fun hd => (HT2.out hd).ex (Ex.of [] hbx) (Off.none _))
    have HF3 := Lib.hid (HF2.out.trans (Fr.ofB hbx hM2.size))
    have HKR3 := Lib.hid (hKR2.ex (Ex.of [] hbx) (Off.none _) (fun k hk => by simp))
    have HD3 := Lib.hid (hd2.below hbx)
    have hsz3 := hbx.size
    have hgx : w2.heap.size ≠ g := by have := hM2.bk.lt; omega
    have HSEP := Lib.hid hsep2
    have hbl : w2.heap.size < (w2.alloc (.cells #[.int .i64 8, .string dv, .string da, .string dx, .slice dg 0 dc, .slice ka kn kc, .string u] 129)).heap.size := by simp
    clear hx2 hB2 hr2 hM2 hKR2 hd2 KL HT2 HF2 hsep2 hbx HM HT
    go_upto_region 2 with fail
    generalize w2.alloc (.cells #[.int .i64 8, .string dv, .string da, .string dx, .slice dg 0 dc, .slice ka kn kc, .string u] 129) = w3 at *
    have hlo3 : lo2 ≤ w3.heap.size := by omega
    have HX3 := Lib.hid hX3
    have x0 := hX3.p0
    clear hX3
    have hkn : kn ≤ 5 := by have := HPL.out.1; have := HKR3.out.kl; omega
    have hkn5 : kn ≤ 5000 := by omega
    have HFIN := Lib.hid (show ∀ (w4 w5 : World) (kk5 : Kd) (dp5 : Bool), PM B ts w4 g pa n pc i oa l.length oc kk.a kk.n kk.c false dp l K2 → Ex (Value.slice ka kn kc).ownBlock.toList w3 w4 → Ex [g] w4 w5 → Bk 84 w5 g (pcs pa n pc i oa l.length oc kk.a kk.n kk.c false dp5) → (dp = true → dp5 = true) → (dp = false → (dp5 = true ↔ Deep (tnOf ⟨8, dv, da, dx, dg, 0, dc, dn⟩ :: (p.ks ++ [T]).flatten))) → (dp5 = false → Nt B w5 kk5 (tnOf ⟨8, dv, da, dx, dg, 0, dc, dn⟩ :: (p.ks ++ [T]).flatten)) → ∀ v, FmEnd B N ts g pa n pc x r i W (.returned (.bool false)) ((w5.setCell ⟨g, 3, none⟩ (.slice kk5.a kk5.n kk5.c)).setCell ⟨g, 4, none⟩ (.bool v)) ∨ v = true by
      intro w4 w5 kk5 dp5 hM4 hx4 hx5 hB5 hd5 he5 hN5 v
      by_cases hv : v = true
      · exact .inr hv
      left
      obtain ⟨hM6, hN6⟩ := hM4.laid hx5 hB5 hd5 hN5
      have hI := HPL.out.2.1.put (n := p.n) HPL.out.2.2.1 HPN.out hd5 (by rw [HND.out]; exact he5) (show n - i + 1 ≤ n - i + 1 from Nat.le_refl _)
      have hb4 := Fr.of hx4 (Off.kids HKR3.out.row) HM3.out.size (fun q hq => by have h1 := (HKR3.out.row.lt q (by simpa using hq)).1; have h2 := HKR3.out.lo; omega)
      have hb5 := Fr.of hx5 hM4.offg hM4.size (fun q hq => by rcases List.mem_singleton.1 hq with rfl; exact hM4.hg)
      have hM5 := hM4.deeper hx5 hB5 hd5
      have hb6 := Fr.of (Ex.setCell (Ex.refl [g] w5) (p := ⟨g, 3, none⟩) (.inl List.mem_cons_self) (.slice kk5.a kk5.n kk5.c)) hM5.offg hM5.size (fun q hq => by rcases List.mem_singleton.1 hq with rfl; exact hM5.hg)
      have hx7 := Ex.setCell (Ex.refl [g] (w5.setCell ⟨g, 3, none⟩ (.slice kk5.a kk5.n kk5.c))) (p := ⟨g, 4, none⟩) (.inl List.mem_cons_self) (.bool v)
      have hb7 := Fr.of hx7 hM6.offg hM6.size (fun q hq => by rcases List.mem_singleton.1 hq with rfl; exact hM6.hg)
      have hM7 := hM6.ex hx7 (wh' := v) (hM6.bk.set 4 (.bool v))
      have hN7 : dp5 = false → Nt B _ kk5 (p.put T) := fun hd => by
        rw [show p.put T = tnOf ⟨8, dv, da, dx, dg, 0, dc, dn⟩ :: (p.ks ++ [T]).flatten by unfold Bg.put; rw [HND.out]]
        exact (hN6 hd).ex hx7 hM6.offg
      refine ⟨(((HF3.out.trans hb4).trans hb5).trans hb6).trans hb7, .inr ⟨rfl, ?_⟩⟩
      cases v with
      | true =>
        exact absurd rfl hv
      | false =>
        exact .inl ⟨i, oa, l.length, oc, kk5, dp5, l, K2, p.put T, hM7, hN7, HFP.out, hI, Nat.le_refl _, hi⟩)
    have hbn := box_below w3 (.cells #[.slice kk.a kk.n kk.c] 22)
    have c3 := Pc.c3 HM3.out.bk
    have x1 := HX3.out.p1
    have x2 := HX3.out.p2
    have x3 := HX3.out.p3
    have x4 := HX3.out.p4
    have x5 := HX3.out.p5
    have hX4 := HX3.out.below hbn HX3.out.lt
    have c3' := Pc.c3 (HM3.out.below hbn).bk
    have x0' := hX4.p0
    have x1' := hX4.p1
    have x2' := hX4.p2
    have x3' := hX4.p3
    have x4' := hX4.p4
    have x5' := hX4.p5
    clear hX4 hbn
    go_wp2_with fail
    go_region_law (first
      | (go_simp; go_at_call 97; refine (KG.out).mono ?_; rintro e w5 ⟨kk5, dp5, rfl, hN5, hB5, hx5, hd5, he5⟩; have z3 := Pc.c3 hB5; have zf := hB5.f 3; have hX6 := (HX5.out.ex hx5 (by intro hh; exact hgx (List.mem_singleton.1 hh))).setOther (p := ⟨g, 3, none⟩) hgx (.slice kk5.a kk5.n kk5.c); have hB6 := hB5.set 3 (.slice kk5.a kk5.n kk5.c); have v0 := hX6.p0; have v4 := hB6.c 4; have vf := hB6.f 4)
      | (refine step_push_any w3 (.tmp 73) (.tmp 78) 127 22 _ 1 24 infoKid Tryz.underlying127 rfl (by decide) lo2 ka kn kc (kvs kd kn) [.slice kk.a kk.n kk.c] rfl (by intro u hu; rw [List.mem_singleton] at hu; rw [hu]; rfl) rfl rfl rfl rfl rfl rfl rfl rfl HKR3.out.row hlo3 hkn5 (by decide) ?_; intro av cv w4 hown4 hx4; have hM4 := HM3.out.kids HKR3.out HSEP.out hx4; have hoff4 := Off.kids HKR3.out.row; have hkr4 := HKR3.out.snoc HT3.out hown4 hx4 hoff4; have hX5 := HX3.out.ex hx4 (own_not HKR3.out.row HX3.out (by decide)); have y0 := hX5.p0; have y1 := hX5.p1; have y2 := hX5.p2; have y3 := hX5.p3; have y4 := hX5.p4; have HX5 := Lib.hid hX5; have HKR4 := Lib.hid hkr4; have HM4 := Lib.hid hM4; have HX4 := Lib.hid hx4; have HOFF4 := Lib.hid hoff4; have KG := Lib.hid (grow_any ⟨8, dv, da, dx, dg, 0, dc, dn⟩ HM4.out.bk (on_any HD3.out rfl) (Nat.zero_le _) HKR4.out (by omega) HPL.out.2.2.2.1 HPL.out.2.2.2.2.1 HPL.out.2.2.2.2.2); clear hkr4 hM4 hx4 hoff4 hX5 hown4))
    all_goals
      have HE := Lib.hid ((HFIN.out w4 w5 kk5 dp5 HM4.out HX4.out hx5 hB5 hd5 he5 hN5 false).resolve_right (by decide))
      clear HFIN hx5 hB5 hd5 he5 hN5 z3 zf y0 y1 y2 y3 y4 HKR4 HM4 HX4 HOFF4 KG x0 x1 x2 x3 x4 x5 x0' x1' x2' x3' x4' x5' c3 c3' HX5 hX6 hB6
      go_wp2_with fail
      go_ret
      exact HE.out
set_option maxRecDepth 10000 in
set_option maxHeartbeats 6400000 in
theorem fm_def (ts : List Tk) (hP : Pall ts) {B N : Nat} {W : World} {g : Nat} {pa : Option Addr} {n pc i : Nat} {oa : Option Addr} {on oc : Nat} {kk : Kd} {dp : Bool} {ms : List Mb} {p : Bg} {K2 : List Bg} {T : List Tn} {x : Option (List Tn)} {r : List Pk} {c : UInt8} (hN : N ≤ 900) (hm : n ≤ 300) (hi : i ≤ n)
    (hM : PM B ts W g pa n pc i oa on oc kk.a kk.n kk.c false dp ms (p :: K2)) (hT : dp = false → Nt B W kk T) (hMc : Mc numT (.mk p T) ((pks ts).drop i) K2 x r) (hI : Iv dp N (p :: K2) [T] (n - i)) (hu : p.u = some c) (hk : p.n.k = 7) :
    Calls Tryz.prog 103 #[.pointer (some ⟨g, 0, none⟩)] W (FmEnd B N ts g pa n pc x r i W) := by
  cases ms with
  | nil => exact hM.sr.elim
  | cons b l =>
    obtain ⟨_, _, hpK, hS, hlo, hsr, hon⟩ := hM.top
    injection hpK with e1 e2
    subst e1 e2
    have hon9 : on ≤ 1000 := by have := iv_len hI; have := hM.len; omega
    have hok := hI.pop.2.some hu
    have hnd : p.n = tnOf b.d := hS.node.symm
    have hdk : b.d.k = 7 := by rw [← hk, hnd]; rfl
    have hpn : p.n.ns.length ≤ 100 := by rw [hnd, tn_ns hS.on hS.dm]; exact Nat.zero_le _
    have hdm := hS.dm
    have hks : p.ks.length ≤ 1 := by rcases hok with h | h | h | h | h <;> first | omega | (rw [h.2]; simp)
    have hkd : kdT p.n = ((p.ks ++ [T]).length : Int) := by
      have h1 : p.ks = [] := by rcases hok with h | h | h | h | h <;> first | exact h.2 | omega
      rw [h1]
      unfold kdT
      rw [hk]; rfl
    have HPL := Lib.hid (show p.ks.length ≤ 1 ∧ Iv dp N K2 (p.ks ++ [T]) (n - i + 1) ∧ kdT p.n = ((p.ks ++ [T]).length : Int) ∧ (∀ t ∈ p.ks ++ [T], ∀ x ∈ t, x.ns.length ≤ 100) ∧ wl (p.ks ++ [T]) ≤ 1000 ∧ Tr (tnOf b.d :: (p.ks ++ [T]).flatten) from ⟨hks, hI.pop.1, hkd, fun t ht => (hI.pop.1.tr t (List.mem_append_left _ ht)).2, by have := hI.pop.1.kids; omega, by rw [← hnd]; exact (tree_put (fun t ht => (hI.pop.1.tr t (List.mem_append_left _ ht)).1) hkd).1⟩)
    clear hok hks hkd
    have HFP := Lib.hid (show r = (pks ts).drop i ∧ ((i = n ∧ K2 = [] ∧ x = some (p.put T)) ∨ ((i < n ∨ K2 ≠ []) ∧ x = none)) by
      have hll : ((pks ts).drop i).length = n - i := by rw [List.length_drop, pks_len, hM.hn]
      obtain ⟨h1, h2⟩ := hMc.mk_def hk
      refine ⟨h1, h2.imp (fun h => ⟨?_, h.2⟩) (fun h => ⟨h.1.imp (fun h => ?_) id, h.2⟩)⟩
      · rw [h.1] at hll; simp at hll; omega
      · rcases Nat.lt_or_ge i n with h3 | h3
        · exact h3
        · exact absurd (List.eq_nil_of_length_eq_zero (by omega)) h)
    obtain ⟨⟨dk, dv, da, dx, dg, dm, dc, dn⟩, ka, kn, kc, kd, u, lo⟩ := b
    have hdm : dm = 0 := hdm
    have hdk : dk = 7 := hdk
    subst hdm hdk
    have HMC := Lib.hid hMc
    have HND := Lib.hid hnd
    have HPN := Lib.hid hpn
    have HI := Lib.hid hI
    have HM := Lib.hid hM
    have HT := Lib.hid hT
    have KL := Lib.hid (show Calls Tryz.prog 114 #[.pointer (some ⟨g, 0, none⟩)] W (fun e W' => e = .returned (.agg #[.int .i64 7, .string dv, .string da, .string dx, .slice dg 0 dc, .slice ka kn kc, .string u]) ∧ Ex [g] W W' ∧ Bk 84 W' g (pcs pa n pc i oa l.length oc kk.a kk.n kk.c false dp) ∧ W'.ownsRow B 129 7 (.slice oa l.length oc) l.length (obs l)) from last_is hM.bk hM.row hon hon9)
    clear hM hT hMc hI hS hlo hsr hnd hpn
    go_enter Tryz.func103, Tryz.ntmps103
    go_wp2_with fail
    refine KL.out.mono ?_
    rintro e w2 ⟨rfl, hx2, hB2, hr2⟩
    obtain ⟨hM2, hd2, lo2, hKR2, hlo2, hsep2⟩ := HM.out.popped hx2 hB2 hr2
    have HT2 := Lib.hid (fun hd => (HT.out hd).ex hx2 HM.out.offg)
    have HF2 := Lib.hid (Fr.of hx2 HM.out.offg HM.out.size (fun k hk => by rcases List.mem_singleton.1 hk with rfl; exact HM.out.hg))
    replace hKR2 : KR B w2 dp lo2 ka kn kc kd p.ks := hKR2
    have hbx := box_below w2 (.cells #[.int .i64 7, .string dv, .string da, .string dx, .slice dg 0 dc, .slice ka kn kc, .string u] 129)
    have hX3 := Bk.new 129 w2 [.int .i64 7, .string dv, .string da, .string dx, .slice dg 0 dc, .slice ka kn kc, .string u]
    rw [show [Value.int .i64 7, .string dv, .string da, .string dx, .slice dg 0 dc, .slice ka kn kc, .string u].toArray = #[.int .i64 7, .string dv, .string da, .string dx, .slice dg 0 dc, .slice ka kn kc, .string u] from rfl] at hX3
    have HM3 := Lib.hid (hM2.below hbx)
    have HT3 := Lib.hid (fun hd => (HT2.out hd).ex (Ex.of [] hbx) (Off.none _))
    have HF3 := Lib.hid (HF2.out.trans (Fr.ofB hbx hM2.size))
    have HKR3 := Lib.hid (hKR2.ex (Ex.of [] hbx) (Off.none _) (fun k hk => by simp))
    have HD3 := Lib.hid (hd2.below hbx)
    have hsz3 := hbx.size
    have hgx : w2.heap.size ≠ g := by have := hM2.bk.lt; omega
    have HSEP := Lib.hid hsep2
    have hbl : w2.heap.size < (w2.alloc (.cells #[.int .i64 7, .string dv, .string da, .string dx, .slice dg 0 dc, .slice ka kn kc, .string u] 129)).heap.size := by simp
    clear hx2 hB2 hr2 hM2 hKR2 hd2 KL HT2 HF2 hsep2 hbx HM HT
    go_upto_region 2 with fail
    generalize w2.alloc (.cells #[.int .i64 7, .string dv, .string da, .string dx, .slice dg 0 dc, .slice ka kn kc, .string u] 129) = w3 at *
    have hlo3 : lo2 ≤ w3.heap.size := by omega
    have HX3 := Lib.hid hX3
    have x0 := hX3.p0
    clear hX3
    have hkn : kn ≤ 5 := by have := HPL.out.1; have := HKR3.out.kl; omega
    have hkn5 : kn ≤ 5000 := by omega
    have HFIN := Lib.hid (show ∀ (w4 w5 : World) (kk5 : Kd) (dp5 : Bool), PM B ts w4 g pa n pc i oa l.length oc kk.a kk.n kk.c false dp l K2 → Ex (Value.slice ka kn kc).ownBlock.toList w3 w4 → Ex [g] w4 w5 → Bk 84 w5 g (pcs pa n pc i oa l.length oc kk.a kk.n kk.c false dp5) → (dp = true → dp5 = true) → (dp = false → (dp5 = true ↔ Deep (tnOf ⟨7, dv, da, dx, dg, 0, dc, dn⟩ :: (p.ks ++ [T]).flatten))) → (dp5 = false → Nt B w5 kk5 (tnOf ⟨7, dv, da, dx, dg, 0, dc, dn⟩ :: (p.ks ++ [T]).flatten)) → ∀ v, FmEnd B N ts g pa n pc x r i W (.returned (.bool false)) ((w5.setCell ⟨g, 3, none⟩ (.slice kk5.a kk5.n kk5.c)).setCell ⟨g, 4, none⟩ (.bool v)) ∨ v = false by
      intro w4 w5 kk5 dp5 hM4 hx4 hx5 hB5 hd5 he5 hN5 v
      by_cases hv : v = false
      · exact .inr hv
      left
      obtain ⟨hM6, hN6⟩ := hM4.laid hx5 hB5 hd5 hN5
      have hI := HPL.out.2.1.put (n := p.n) HPL.out.2.2.1 HPN.out hd5 (by rw [HND.out]; exact he5) (show n - i + 1 ≤ n - i + 1 from Nat.le_refl _)
      have hb4 := Fr.of hx4 (Off.kids HKR3.out.row) HM3.out.size (fun q hq => by have h1 := (HKR3.out.row.lt q (by simpa using hq)).1; have h2 := HKR3.out.lo; omega)
      have hb5 := Fr.of hx5 hM4.offg hM4.size (fun q hq => by rcases List.mem_singleton.1 hq with rfl; exact hM4.hg)
      have hM5 := hM4.deeper hx5 hB5 hd5
      have hb6 := Fr.of (Ex.setCell (Ex.refl [g] w5) (p := ⟨g, 3, none⟩) (.inl List.mem_cons_self) (.slice kk5.a kk5.n kk5.c)) hM5.offg hM5.size (fun q hq => by rcases List.mem_singleton.1 hq with rfl; exact hM5.hg)
      have hx7 := Ex.setCell (Ex.refl [g] (w5.setCell ⟨g, 3, none⟩ (.slice kk5.a kk5.n kk5.c))) (p := ⟨g, 4, none⟩) (.inl List.mem_cons_self) (.bool v)
      have hb7 := Fr.of hx7 hM6.offg hM6.size (fun q hq => by rcases List.mem_singleton.1 hq with rfl; exact hM6.hg)
      have hM7 := hM6.ex hx7 (wh' := v) (hM6.bk.set 4 (.bool v))
      have hN7 : dp5 = false → Nt B _ kk5 (p.put T) := fun hd => by
        rw [show p.put T = tnOf ⟨7, dv, da, dx, dg, 0, dc, dn⟩ :: (p.ks ++ [T]).flatten by unfold Bg.put; rw [HND.out]]
        exact (hN6 hd).ex hx7 hM6.offg
      refine ⟨(((HF3.out.trans hb4).trans hb5).trans hb6).trans hb7, .inr ⟨rfl, ?_⟩⟩
      cases v with
      | true =>
        exact .inr ⟨i, oa, l.length, oc, kk5, dp5, l, K2, p.put T, hM7, hN7, hI, Nat.le_refl _, hi, HFP.out.1, HFP.out.2⟩
      | false =>
        exact absurd rfl hv)
    have hbn := box_below w3 (.cells #[.slice kk.a kk.n kk.c] 22)
    have c3 := Pc.c3 HM3.out.bk
    have x1 := HX3.out.p1
    have x2 := HX3.out.p2
    have x3 := HX3.out.p3
    have x4 := HX3.out.p4
    have x5 := HX3.out.p5
    have hX4 := HX3.out.below hbn HX3.out.lt
    have c3' := Pc.c3 (HM3.out.below hbn).bk
    have x0' := hX4.p0
    have x1' := hX4.p1
    have x2' := hX4.p2
    have x3' := hX4.p3
    have x4' := hX4.p4
    have x5' := hX4.p5
    clear hX4 hbn
    go_wp2_with fail
    go_region_law (first
      | (go_simp; go_at_call 97; refine (KG.out).mono ?_; rintro e w5 ⟨kk5, dp5, rfl, hN5, hB5, hx5, hd5, he5⟩; have z3 := Pc.c3 hB5; have zf := hB5.f 3; have hX6 := (HX5.out.ex hx5 (by intro hh; exact hgx (List.mem_singleton.1 hh))).setOther (p := ⟨g, 3, none⟩) hgx (.slice kk5.a kk5.n kk5.c); have hB6 := hB5.set 3 (.slice kk5.a kk5.n kk5.c); have v0 := hX6.p0; have v4 := hB6.c 4; have vf := hB6.f 4)
      | (refine step_push_any w3 (.tmp 73) (.tmp 78) 127 22 _ 1 24 infoKid Tryz.underlying127 rfl (by decide) lo2 ka kn kc (kvs kd kn) [.slice kk.a kk.n kk.c] rfl (by intro u hu; rw [List.mem_singleton] at hu; rw [hu]; rfl) rfl rfl rfl rfl rfl rfl rfl rfl HKR3.out.row hlo3 hkn5 (by decide) ?_; intro av cv w4 hown4 hx4; have hM4 := HM3.out.kids HKR3.out HSEP.out hx4; have hoff4 := Off.kids HKR3.out.row; have hkr4 := HKR3.out.snoc HT3.out hown4 hx4 hoff4; have hX5 := HX3.out.ex hx4 (own_not HKR3.out.row HX3.out (by decide)); have y0 := hX5.p0; have y1 := hX5.p1; have y2 := hX5.p2; have y3 := hX5.p3; have y4 := hX5.p4; have HX5 := Lib.hid hX5; have HKR4 := Lib.hid hkr4; have HM4 := Lib.hid hM4; have HX4 := Lib.hid hx4; have HOFF4 := Lib.hid hoff4; have KG := Lib.hid (grow_any ⟨7, dv, da, dx, dg, 0, dc, dn⟩ HM4.out.bk (on_any HD3.out rfl) (Nat.zero_le _) HKR4.out (by omega) HPL.out.2.2.2.1 HPL.out.2.2.2.2.1 HPL.out.2.2.2.2.2); clear hkr4 hM4 hx4 hoff4 hX5 hown4))
    all_goals
      have HE := Lib.hid ((HFIN.out w4 w5 kk5 dp5 HM4.out HX4.out hx5 hB5 hd5 he5 hN5 true).resolve_right (by decide))
      clear HFIN hx5 hB5 hd5 he5 hN5 z3 zf y0 y1 y2 y3 y4 HKR4 HM4 HX4 HOFF4 KG x0 x1 x2 x3 x4 x5 x0' x1' x2' x3' x4' x5' c3 c3' HX5 hX6 hB6
      go_wp2_with fail
      go_ret
      exact HE.out
end Go.Proofs.YtljkmdmbndjngaaGreat
/-
  The parser's finishMark: an Amend, or an Index of a name.
-/
namespace Go.Proofs.YtljkmdmbndjngaaGreat
set_option linter.unusedVariables false
set_option linter.unusedSimpArgs false
open Go.RowKit

theorem Iv.leaf2 {dp : Bool} {N m m' : Nat} {K : List Bg} {T : List Tn} (h : Iv dp N K [T] m) {n : Tn} (hk : n.k = 1 ∨ n.k = 2) (hn : n.ns.length ≤ 100) (hm : m' + 1 ≤ m) : Iv dp N K [[n], T] m' := by
  have ht : Dp [n] 1 1 := .cons (k := 0) (by unfold kdT; rw [if_pos hk]; rfl) .nil
  refine ⟨?_, ?_, ?_, h.ok, ?_⟩
  · intro t hh
    rcases List.mem_cons.1 hh with rfl | hh
    · exact ⟨⟨1, ht⟩, fun x hx => by rcases List.mem_singleton.1 hx with rfl; exact hn⟩
    · exact h.tr t hh
  · intro hd t hh
    rcases List.mem_cons.1 hh with rfl | hh
    · exact ⟨1, ht, by omega⟩
    · exact h.fl hd t hh
  · intro hd
    obtain ⟨t, h1, h2⟩ := h.de hd
    exact ⟨t, List.mem_cons_of_mem _ h1, h2⟩
  · have := h.wt
    rw [wl_cons] at this ⊢
    rw [wl_cons]
    simp only [List.length_singleton]
    omega
theorem leaf_flat {n : Tn} (hk : n.k = 1 ∨ n.k = 2) : ¬ Deep [n] := by
  have ht : Dp [n] 1 1 := .cons (k := 0) (by unfold kdT; rw [if_pos hk]; rfl) .nil
  exact fun h => Deep.not h ⟨1, ht, by omega⟩
theorem one_row {w : World} {base : Nat} {k : Kd} (hb : base ≤ w.heap.size) : (w.alloc (.cells #[.slice k.a k.n k.c] 22)).ownsRow base 22 1 (.slice (some ⟨w.heap.size, 0, none⟩) 1 1) 1 (kvs (fun _ => k) 1) := World.ownsRow_lit (base := base) (e := 22) (size := 1) w #[.slice k.a k.n k.c] 1 hb (by unfold maxLen; omega) rfl
theorem two_row {w : World} {base : Nat} {k k' : Kd} (hb : base ≤ w.heap.size) : (w.alloc (.cells #[.slice k.a k.n k.c, .slice k'.a k'.n k'.c] 22)).ownsRow base 22 1 (.slice (some ⟨w.heap.size, 0, none⟩) 2 2) 2 (kvs (fun i => if i = 0 then k else k') 2) := World.ownsRow_lit (base := base) (e := 22) (size := 1) w #[.slice k.a k.n k.c, .slice k'.a k'.n k'.c] 2 hb (by unfold maxLen; omega) rfl
set_option maxRecDepth 10000 in
set_option maxHeartbeats 6400000 in
theorem fm_amend (ts : List Tk) (hP : Pall ts) {B N : Nat} {W : World} {g : Nat} {pa : Option Addr} {n pc i : Nat} {oa : Option Addr} {on oc : Nat} {kk : Kd} {dp : Bool} {ms : List Mb} {p : Bg} {K2 : List Bg} {T : List Tn} {x : Option (List Tn)} {r : List Pk} {c : UInt8} (hN : N ≤ 900) (hm : n ≤ 300) (hi : i ≤ n)
    (hM : PM B ts W g pa n pc i oa on oc kk.a kk.n kk.c false dp ms (p :: K2)) (hT : dp = false → Nt B W kk T) (hI : Iv dp N (p :: K2) [T] (n - i)) (hu : p.u = some c) (hk : p.n.k = 6) {q : Pk} {l9 : List Pk} (e9 : (pks ts).drop i = q :: l9) (hq6 : q.k = 6) (hqt : q.t = [58]) (hMt : Mc numT .to l9 (⟨p.n, [T], none⟩ :: K2) x r) :
    Calls Tryz.prog 103 #[.pointer (some ⟨g, 0, none⟩)] W (FmEnd B N ts g pa n pc x r i W) := by
  cases ms with
  | nil => exact hM.sr.elim
  | cons b l =>
    obtain ⟨_, _, hpK, hS, hlo, hsr, hon⟩ := hM.top
    injection hpK with e1 e2
    subst e1 e2
    have hon9 : on ≤ 1000 := by have := iv_len hI; have := hM.len; omega
    have hok := hI.pop.2.some hu
    have hnd : p.n = tnOf b.d := hS.node.symm
    have hdk : b.d.k = 6 := by rw [← hk, hnd]; rfl
    have hpn : p.n.ns.length ≤ 100 := by rw [hnd, tn_ns hS.on hS.dm]; exact Nat.zero_le _
    have hdm := hS.dm
    have hks : p.ks = [] := by rcases hok with h | h | h | h | h <;> first | exact h.2 | omega
    have hI6 : Iv dp N K2 [T] (n - i + 2) := by have := hI.pop6 hk; rwa [hks] at this
    have hxz := hS.on.xz
    have HFP := Lib.hid (⟨hq6, hqt, hMt⟩ : q.k = 6 ∧ q.t = [58] ∧ Mc numT .to l9 (⟨p.n, [T], none⟩ :: K2) x r)
    have HI6 := Lib.hid hI6
    clear hok hks hI6
    obtain ⟨⟨dk, dv, da, dx, dg, dm, dc, dn⟩, ka, kn, kc, kd, u, lo⟩ := b
    have hdm : dm = 0 := hdm
    have hdk : dk = 6 := hdk
    subst hdm hdk
    have HND := Lib.hid hnd
    have HPN := Lib.hid hpn
    have HI := Lib.hid hI
    have HM := Lib.hid hM
    have HT := Lib.hid hT
    have KL := Lib.hid (show Calls Tryz.prog 114 #[.pointer (some ⟨g, 0, none⟩)] W (fun e W' => e = .returned (.agg #[.int .i64 6, .string dv, .string da, .string dx, .slice dg 0 dc, .slice ka kn kc, .string u]) ∧ Ex [g] W W' ∧ Bk 84 W' g (pcs pa n pc i oa l.length oc kk.a kk.n kk.c false dp) ∧ W'.ownsRow B 129 7 (.slice oa l.length oc) l.length (obs l)) from last_is hM.bk hM.row hon hon9)
    clear hM hT hI hS hlo hsr hnd hpn
    go_enter Tryz.func103, Tryz.ntmps103
    go_wp2_with fail
    refine KL.out.mono ?_
    rintro e w2 ⟨rfl, hx2, hB2, hr2⟩
    obtain ⟨hM2, hd2, lo2, hKR2, hlo2, hsep2⟩ := HM.out.popped hx2 hB2 hr2
    have HT2 := Lib.hid (fun hd => (HT.out hd).ex hx2 HM.out.offg)
    have HF2 := Lib.hid (Fr.of hx2 HM.out.offg HM.out.size (fun k hk => by rcases List.mem_singleton.1 hk with rfl; exact HM.out.hg))
    replace hKR2 : KR B w2 dp lo2 ka kn kc kd p.ks := hKR2
    have hbx := box_below w2 (.cells #[.int .i64 6, .string dv, .string da, .string dx, .slice dg 0 dc, .slice ka kn kc, .string u] 129)
    have hX3 := Bk.new 129 w2 [.int .i64 6, .string dv, .string da, .string dx, .slice dg 0 dc, .slice ka kn kc, .string u]
    rw [show [Value.int .i64 6, .string dv, .string da, .string dx, .slice dg 0 dc, .slice ka kn kc, .string u].toArray = #[.int .i64 6, .string dv, .string da, .string dx, .slice dg 0 dc, .slice ka kn kc, .string u] from rfl] at hX3
    have HM3 := Lib.hid (hM2.below hbx)
    have HT3 := Lib.hid (fun hd => (HT2.out hd).ex (Ex.of [] hbx) (Off.none _))
    have HF3 := Lib.hid (HF2.out.trans (Fr.ofB hbx hM2.size))
    have HKR3 := Lib.hid (hKR2.ex (Ex.of [] hbx) (Off.none _) (fun k hk => by simp))
    have HD3 := Lib.hid (hd2.below hbx)
    have hsz3 := hbx.size
    have HOB := Lib.hid (fun k hk => (hM2.row.lt k hk).2 : ∀ k, (Value.slice oa l.length oc).ownBlock = some k → k < w2.heap.size)
    have hgx : w2.heap.size ≠ g := by have := hM2.bk.lt; omega
    have HSEP := Lib.hid hsep2
    have hbl : w2.heap.size < (w2.alloc (.cells #[.int .i64 6, .string dv, .string da, .string dx, .slice dg 0 dc, .slice ka kn kc, .string u] 129)).heap.size := by simp
    clear hx2 hB2 hr2 hM2 hKR2 hd2 KL HT2 HF2 hsep2 hbx HM HT
    go_upto_region 2 with fail
    generalize w2.alloc (.cells #[.int .i64 6, .string dv, .string da, .string dx, .slice dg 0 dc, .slice ka kn kc, .string u] 129) = w3 at *
    have hlo3 : lo2 ≤ w3.heap.size := by omega
    have HX3 := Lib.hid hX3
    have x0 := hX3.p0
    clear hX3
    have KN := next_is ts HM3.out.bk (HM3.out.hn ▸ HM3.out.pq.qs) HM3.out.hn hm
    rw [e9, show NxEnd (q :: l9) w3 = fun e W' => ∃ p : Int, e = .returned (.agg #[.int .i64 q.k, .string (tx q.t), .int .i64 p]) ∧ Below w3.heap.size w3 W' from rfl, hqt, show tx [58] = ⟨#[58]⟩ from rfl] at KN
    obtain ⟨e10, hin⟩ := drop_next e9
    have hin2 : i + 1 ≤ n := by have := HM3.out.hn; omega
    have hi3 : i ≤ 300 := by omega
    have K1 := Lib.hid KN
    have E10 := Lib.hid e10
    have hf1 := tok_f1
    clear KN e9 e10 hq6 hqt hMt
    go_wp2_with fail
    refine K1.out.mono ?_
    rintro e w4 ⟨p1, rfl, hb4⟩
    have HM4 := Lib.hid (HM3.out.below hb4)
    have HT4 := Lib.hid (fun hd => (HT3.out hd).ex (Ex.of [] hb4) (Off.none _))
    have HF4 := Lib.hid (HF3.out.trans (Fr.ofB hb4 HM3.out.size))
    have HD4 := Lib.hid (HD3.out.below hb4)
    have HX4 := Lib.hid (HX3.out.on hb4)
    have hob := HOB.out
    clear hb4 HM3 HT3 HF3 HKR3 HD3 HX3 K1 x0 HSEP
    have c1 := Pc.c1 HM4.out.bk
    have f1 := HM4.out.bk.f 1
    have w9 : IntKind.i64.wrap ((i : Int) + 1) = (i : Int) + 1 := wrn (by omega) (by omega)
    go_upto_region 10 with fail
    have hx5 := Ex.setCell (Ex.refl [g] w4) (p := ⟨g, 1, none⟩) (.inl List.mem_cons_self) (.int .i64 ((i : Int) + 1))
    have HM5 := Lib.hid (HM4.out.ex hx5 HM4.out.bk.step)
    have HT5 := Lib.hid (fun hd => (HT4.out hd).ex hx5 HM4.out.offg)
    have HF5 := Lib.hid (HF4.out.trans (Fr.of hx5 HM4.out.offg HM4.out.size (fun k hk => by rcases List.mem_singleton.1 hk with rfl; exact HM4.out.hg)))
    have HD5 := Lib.hid (on_any HD4.out rfl : (Nd.mk 6 dv da dx dg 0 dc dn).on (w4.setCell ⟨g, 1, none⟩ (.int .i64 ((i : Int) + 1))))
    have HX5 := Lib.hid (HX4.out.setOther (p := ⟨g, 1, none⟩) hgx (.int .i64 ((i : Int) + 1)))
    clear c1 f1 w9 hx5 HM4 HT4 HF4 HD4 HX4
    generalize w4.setCell ⟨g, 1, none⟩ (.int .i64 ((i : Int) + 1)) = w5 at *
    have KB := Lib.hid (show ∀ (w : World) (nb : Nat), Ex [] w5 w → w.ownsRow w5.heap.size 22 1 (.slice (some ⟨nb, 0, none⟩) 1 1) 1 (kvs (fun _ => kk) 1) → Calls Tryz.prog 95 #[.pointer (some ⟨g, 0, none⟩), .agg #[.int .i64 6, .string dv, .string da, .string dx, .slice dg 0 dc], .string ⟨#[]⟩, .slice (some ⟨nb, 0, none⟩) 1 1] w (fun e W' => e = .returned (.tuple #[]) ∧ (ToS B N ts g pa n pc x r i W' ∧ Fr B W W') ∧ (W'.cell? ⟨w2.heap.size, 0, none⟩ = some (.int .i64 6) ∧ W'.cell? ⟨w2.heap.size, 1, none⟩ = some (.string dv) ∧ W'.cell? ⟨w2.heap.size, 2, none⟩ = some (.string da) ∧ W'.cell? ⟨w2.heap.size, 3, none⟩ = some (.string dx) ∧ W'.cell? ⟨w2.heap.size, 4, none⟩ = some (.slice dg 0 dc) ∧ W'.cell? ⟨g, 3, none⟩ = some (.slice kk.a kk.n kk.c))) by
      intro w nb hxw hrw
      have hMw := HM5.out.ex (Ex.mono hxw (by simp)) (HM5.out.bk.ex hxw (by simp))
      have hXw := HX5.out.ex hxw (by simp)
      have hon9 : l.length ≤ 1000 := by have := iv_len HI6.out; have := hMw.len; omega
      have hKw : KR B w dp w5.heap.size (some ⟨nb, 0, none⟩) 1 1 (fun _ => kk) [T] := ⟨rfl, hrw, HM5.out.size, fun hd i hi => by
        obtain rfl : i = 0 := by simp at hi; omega
        exact (HT5.out hd).ex hxw (Off.none _)⟩
      refine (begin_is ⟨⟨6, dv, da, dx, dg, 0, dc, dn⟩, some ⟨nb, 0, none⟩, 1, 1, fun _ => kk, ⟨#[]⟩, w5.heap.size⟩ hMw.bk hMw.row hMw.size hon9).mono ?_
      rintro e W' ⟨rfl, hx6, oa', oc', hB6, hr6⟩
      have hpush := hMw.push hx6 (p := ⟨p.n, [T], none⟩) hB6 hr6 hKw HND.out.symm rfl (on_any HD5.out rfl) rfl (fun c hc k hk => (HM5.out.sr.lt c hc k hk).1) (hKw.not hMw.tyS)
      have hX6 := hXw.ex hx6 (by
        intro hm
        rcases List.mem_cons.1 hm with h1 | h1
        · exact hgx h1
        · have := hob _ (by simpa using h1); omega)
      refine ⟨rfl, ⟨⟨i + 1, _, _, _, _, _, _, _, _, _, hpush, by rw [E10.out]; exact HFP.out.2.2, HI6.out.push rfl ?_ ?_, by omega, hin2⟩, (HF5.out.trans (Fr.of hxw (Off.none _) HM5.out.size (fun k hk => by cases hk))).trans (Fr.of hx6 hMw.offs hMw.size hMw.base)⟩, hX6.p0, hX6.p1, hX6.p2, hX6.p3, hX6.p4, Pc.c3 hB6⟩
      · refine .inl ⟨rfl, by show 1 ≤ p.n.k; omega, by show p.n.k ≤ 8; omega, ?_⟩
        show kdT p.n = 2
        unfold kdT; rw [hk]; rfl
      · unfold wB
        rw [if_pos (show p.n.k = 6 from hk)]
        show 2 + wl [T] + _ ≤ _
        omega)
    have x0 := HX5.out.p0
    have x1 := HX5.out.p1
    have x2 := HX5.out.p2
    have x3 := HX5.out.p3
    have x4 := HX5.out.p4
    have c3 := Pc.c3 HM5.out.bk
    have hbn := (Ex.refl [] w5).alloc (.cells #[.slice kk.a kk.n kk.c] 22)
    have hXn := HX5.out.ex hbn (by simp)
    have x0' := hXn.p0
    have x1' := hXn.p1
    have x2' := hXn.p2
    have x3' := hXn.p3
    have x4' := hXn.p4
    have c3' := Pc.c3 (HM5.out.bk.ex hbn (by simp))
    have KB1 := Lib.hid (KB.out ((w5.alloc (.cells #[.slice kk.a kk.n kk.c] 22)).drew) w5.heap.size ((Ex.refl [] w5).alloc _).drew (one_row (Nat.le_refl _)))
    clear hXn hbn hob
    go_region_held3 (fun w' => w'.cell? ⟨w2.heap.size, 0, none⟩ = some (.int .i64 6) ∧ w'.cell? ⟨w2.heap.size, 1, none⟩ = some (.string dv) ∧ w'.cell? ⟨w2.heap.size, 2, none⟩ = some (.string da) ∧ w'.cell? ⟨w2.heap.size, 3, none⟩ = some (.string dx) ∧ w'.cell? ⟨w2.heap.size, 4, none⟩ = some (.slice dg 0 dc) ∧ w'.cell? ⟨g, 3, none⟩ = some (.slice kk.a kk.n kk.c))
      (first | exact ⟨x0, x1, x2, x3, x4, c3⟩ | exact ⟨x0', x1', x2', x3', x4', c3'⟩ | exact hy9 | fail)
      (first
        | (go_at_call 95; (with_reducible refine (KB1.out).mono ?_); rintro e w9 ⟨rfl, hfin, hy9⟩)
        | fail)
    all_goals
      have HE := Lib.hid hfin
      clear hfin hy9 x0 x1 x2 x3 x4 x0' x1' x2' x3' x4' c3 c3' KB KB1 HM5 HT5 HF5 HD5 HX5
      go_wp2_with fail
      go_ret
      exact ⟨HE.out.2, .inl ⟨rfl, HE.out.1⟩⟩
set_option maxRecDepth 10000 in
set_option maxHeartbeats 6400000 in
theorem fm_name (ts : List Tk) (hP : Pall ts) {B N : Nat} {W : World} {g : Nat} {pa : Option Addr} {n pc i : Nat} {oa : Option Addr} {on oc : Nat} {kk : Kd} {dp : Bool} {ms : List Mb} {p : Bg} {K2 : List Bg} {T : List Tn} {x : Option (List Tn)} {r : List Pk} {c : UInt8} (hN : N ≤ 900) (hm : n ≤ 300) (hi : i ≤ n)
    (hM : PM B ts W g pa n pc i oa on oc kk.a kk.n kk.c false dp ms (p :: K2)) (hT : dp = false → Nt B W kk T) (hI : Iv dp N (p :: K2) [T] (n - i)) (hu : p.u = some c) (hk : p.n.k = 6) (h58 : ¬ isMk 58 ((pks ts).drop i)) (hMt : Mc numT (.fr (nv 8 [] [] [] :: ([nv 2 [] [] p.n.x] ++ T))) ((pks ts).drop i) K2 x r) :
    Calls Tryz.prog 103 #[.pointer (some ⟨g, 0, none⟩)] W (FmEnd B N ts g pa n pc x r i W) := by
  cases ms with
  | nil => exact hM.sr.elim
  | cons b l =>
    obtain ⟨_, _, hpK, hS, hlo, hsr, hon⟩ := hM.top
    injection hpK with e1 e2
    subst e1 e2
    have hon9 : on ≤ 1000 := by have := iv_len hI; have := hM.len; omega
    have hok := hI.pop.2.some hu
    have hnd : p.n = tnOf b.d := hS.node.symm
    have hdk : b.d.k = 6 := by rw [← hk, hnd]; rfl
    have hpn : p.n.ns.length ≤ 100 := by rw [hnd, tn_ns hS.on hS.dm]; exact Nat.zero_le _
    have hdm := hS.dm
    have hks : p.ks = [] := by rcases hok with h | h | h | h | h <;> first | exact h.2 | omega
    have hI6 : Iv dp N K2 [T] (n - i + 2) := by have := hI.pop6 hk; rwa [hks] at this
    have hxz := hS.on.xz
    have HFP := Lib.hid hMt
    have HI6 := Lib.hid hI6
    clear hok hks hI6
    obtain ⟨⟨dk, dv, da, dx, dg, dm, dc, dn⟩, ka, kn, kc, kd, u, lo⟩ := b
    have hdm : dm = 0 := hdm
    have hdk : dk = 6 := hdk
    subst hdm hdk
    have HND := Lib.hid hnd
    have HPN := Lib.hid hpn
    have HI := Lib.hid hI
    have HM := Lib.hid hM
    have HT := Lib.hid hT
    have KL := Lib.hid (show Calls Tryz.prog 114 #[.pointer (some ⟨g, 0, none⟩)] W (fun e W' => e = .returned (.agg #[.int .i64 6, .string dv, .string da, .string dx, .slice dg 0 dc, .slice ka kn kc, .string u]) ∧ Ex [g] W W' ∧ Bk 84 W' g (pcs pa n pc i oa l.length oc kk.a kk.n kk.c false dp) ∧ W'.ownsRow B 129 7 (.slice oa l.length oc) l.length (obs l)) from last_is hM.bk hM.row hon hon9)
    clear hM hT hI hS hlo hsr hnd hpn
    go_enter Tryz.func103, Tryz.ntmps103
    go_wp2_with fail
    refine KL.out.mono ?_
    rintro e w2 ⟨rfl, hx2, hB2, hr2⟩
    obtain ⟨hM2, hd2, lo2, hKR2, hlo2, hsep2⟩ := HM.out.popped hx2 hB2 hr2
    have HT2 := Lib.hid (fun hd => (HT.out hd).ex hx2 HM.out.offg)
    have HF2 := Lib.hid (Fr.of hx2 HM.out.offg HM.out.size (fun k hk => by rcases List.mem_singleton.1 hk with rfl; exact HM.out.hg))
    replace hKR2 : KR B w2 dp lo2 ka kn kc kd p.ks := hKR2
    have hbx := box_below w2 (.cells #[.int .i64 6, .string dv, .string da, .string dx, .slice dg 0 dc, .slice ka kn kc, .string u] 129)
    have hX3 := Bk.new 129 w2 [.int .i64 6, .string dv, .string da, .string dx, .slice dg 0 dc, .slice ka kn kc, .string u]
    rw [show [Value.int .i64 6, .string dv, .string da, .string dx, .slice dg 0 dc, .slice ka kn kc, .string u].toArray = #[.int .i64 6, .string dv, .string da, .string dx, .slice dg 0 dc, .slice ka kn kc, .string u] from rfl] at hX3
    have HM3 := Lib.hid (hM2.below hbx)
    have HT3 := Lib.hid (fun hd => (HT2.out hd).ex (Ex.of [] hbx) (Off.none _))
    have HF3 := Lib.hid (HF2.out.trans (Fr.ofB hbx hM2.size))
    have HKR3 := Lib.hid (hKR2.ex (Ex.of [] hbx) (Off.none _) (fun k hk => by simp))
    have HD3 := Lib.hid (hd2.below hbx)
    have hsz3 := hbx.size
    have hgx : w2.heap.size ≠ g := by have := hM2.bk.lt; omega
    have HSEP := Lib.hid hsep2
    have hbl : w2.heap.size < (w2.alloc (.cells #[.int .i64 6, .string dv, .string da, .string dx, .slice dg 0 dc, .slice ka kn kc, .string u] 129)).heap.size := by simp
    clear hx2 hB2 hr2 hM2 hKR2 hd2 KL HT2 HF2 hsep2 hbx HM HT
    go_upto_region 2 with fail
    generalize w2.alloc (.cells #[.int .i64 6, .string dv, .string da, .string dx, .slice dg 0 dc, .slice ka kn kc, .string u] 129) = w3 at *
    have hlo3 : lo2 ≤ w3.heap.size := by omega
    have HX3 := Lib.hid hX3
    have x0 := hX3.p0
    clear hX3
    have KN := next_is ts HM3.out.bk (HM3.out.hn ▸ HM3.out.pq.qs) HM3.out.hn hm
    have ht58 : tx0 ((pks ts).drop i) ≠ [58] := fun e => h58 ((hP.mk (by decide)).2 e)
    unfold NxEnd at KN
    have eT : ((tx (tx0 ((pks ts).drop i))).toList == [58]) = false := by
      rw [str_tl, tx_list]
      exact beq_eq_false_iff_ne.2 ht58
    generalize kd0 ((pks ts).drop i) = k9 at KN
    generalize tx (tx0 ((pks ts).drop i)) = T9 at KN eT
    have K1 := Lib.hid KN
    have hf1 := tok_f1
    clear KN h58 hMt ht58
    go_wp2_with fail
    refine K1.out.mono ?_
    rintro e w4 ⟨p1, rfl, hb4⟩
    have HM4 := Lib.hid (HM3.out.below hb4)
    have HT4 := Lib.hid (fun hd => (HT3.out hd).ex (Ex.of [] hb4) (Off.none _))
    have HF4 := Lib.hid (HF3.out.trans (Fr.ofB hb4 HM3.out.size))
    have HX4 := Lib.hid (HX3.out.on hb4)
    clear hb4 HM3 HT3 HF3 HKR3 HD3 HX3 K1 x0 HSEP
    have hnx : nv 2 [] [] p.n.x = tnOf (nameN dx) := by rw [HND.out]; rfl
    have KG1 := Lib.hid (show ∀ w, Ex [] w4 w → Calls Tryz.prog 97 #[.pointer (some ⟨g, 0, none⟩), .agg #[.int .i64 2, .string ⟨#[]⟩, .string ⟨#[]⟩, .string dx, .slice none 0 0], .slice none 0 0] w (fun e W' => ∃ kk5 : Kd, e = .returned (.slice kk5.a kk5.n kk5.c) ∧ (dp = false → Nt B W' kk5 [nv 2 [] [] p.n.x]) ∧ PM B ts W' g pa n pc i oa l.length oc kk.a kk.n kk.c false dp l K2 ∧ Ex [g] w4 W') by
      intro w hxw
      have hMw := HM4.out.ex (Ex.mono hxw (by simp)) (HM4.out.bk.ex hxw (by simp))
      refine (grow_any (lo := B) (nameN dx) hMw.bk (nameN_on dx w hxz) (Nat.zero_le _) (KR.nil B w dp B (Nat.le_refl _) (fun _ => kk)) (by omega) (fun t ht => by cases ht) (by decide) ⟨1, .cons (k := 0) rfl .nil⟩).mono ?_
      rintro e W' ⟨kk5, dp5, rfl, hN5, hB5, hx5, hd5, he5⟩
      have e5 : dp5 = dp := by
        cases dp with
        | true => exact hd5 rfl
        | false => cases dp5 with
          | false => rfl
          | true => exact absurd ((he5 rfl).1 rfl) (leaf_flat (.inr rfl))
      subst e5
      refine ⟨kk5, rfl, fun hd => ?_, hMw.ex hx5 hB5, (Ex.mono hxw (by simp)).trans hx5⟩
      rw [hnx]
      exact hN5 hd)
    have KG2 := Lib.hid (show ∀ (w5 w : World) (kk5 : Kd) (nb : Nat), PM B ts w5 g pa n pc i oa l.length oc kk.a kk.n kk.c false dp l K2 → Ex [g] w4 w5 → (dp = false → Nt B w5 kk5 [nv 2 [] [] p.n.x]) → Ex [] w5 w → w.ownsRow w5.heap.size 22 1 (.slice (some ⟨nb, 0, none⟩) 2 2) 2 (kvs (fun i => if i = 0 then kk5 else kk) 2) → Calls Tryz.prog 97 #[.pointer (some ⟨g, 0, none⟩), .agg #[.int .i64 8, .string ⟨#[]⟩, .string ⟨#[]⟩, .string ⟨#[]⟩, .slice none 0 0], .slice (some ⟨nb, 0, none⟩) 2 2] w (fun e W' => ∃ kk6 : Kd, e = .returned (.slice kk6.a kk6.n kk6.c) ∧ W'.cell? ⟨g, 3, none⟩ = some (.slice kk.a kk.n kk.c) ∧ W'.frozen? ⟨g, 3, none⟩ = false ∧ FrS B N ts g pa n pc x r i (W'.setCell ⟨g, 3, none⟩ (.slice kk6.a kk6.n kk6.c)) ∧ Fr B W (W'.setCell ⟨g, 3, none⟩ (.slice kk6.a kk6.n kk6.c))) by
      intro w5 w kk5 nb hM5 hx5 hN5 hxw hrw
      have hMw := hM5.ex (Ex.mono hxw (by simp)) (hM5.bk.ex hxw (by simp))
      have hIl := HI6.out.leaf2 (n := nv 2 [] [] p.n.x) (m' := n - i + 1) (.inr rfl) (Nat.zero_le _) (by omega)
      have hKw : KR B w dp w5.heap.size (some ⟨nb, 0, none⟩) 2 2 (fun i => if i = 0 then kk5 else kk) [[nv 2 [] [] p.n.x], T] := ⟨rfl, hrw, hM5.size, fun hd j hj => by
        match j, hj with
        | 0, _ => exact (hN5 hd).ex hxw (Off.none _)
        | 1, _ => exact ((HT4.out hd).ex hx5 HM4.out.offg).ex hxw (Off.none _)⟩
      have hIX : tnOf (⟨8, ⟨#[]⟩, ⟨#[]⟩, ⟨#[]⟩, none, 0, 0, []⟩ : Nd) = nv 8 [] [] [] := rfl
      refine (grow_any ⟨8, ⟨#[]⟩, ⟨#[]⟩, ⟨#[]⟩, none, 0, 0, []⟩ hMw.bk ⟨St.nil _ _, Nat.le_refl _, Nat.zero_le _, (by decide : (-9223372036854775808 : Int) ≤ 8), (by decide : (8 : Int) ≤ 9223372036854775807), Nat.zero_le _, Nat.zero_le _, Nat.zero_le _, fun s hs => by cases hs⟩ (Nat.zero_le _) hKw (by omega) (fun t ht => (hIl.tr t (List.mem_append_left _ ht)).2) (by have := hIl.kids; omega) (tree_put (fun t ht => (hIl.tr t (List.mem_append_left _ ht)).1) rfl).1).mono ?_
      rintro e W' ⟨kk6, dp6, rfl, hN6, hB6, hx6, hd6, he6⟩
      obtain ⟨hM7, hN7⟩ := hMw.laid hx6 hB6 hd6 hN6
      have hM6 := hMw.deeper hx6 hB6 hd6
      have hI7 := hIl.put (n := nv 8 [] [] []) (m' := n - i) rfl (Nat.zero_le _) hd6 (by rw [← hIX]; exact he6) (by omega)
      have hX : tnOf (⟨8, ⟨#[]⟩, ⟨#[]⟩, ⟨#[]⟩, none, 0, 0, []⟩ : Nd) :: [[nv 2 [] [] p.n.x], T].flatten = nv 8 [] [] [] :: ([nv 2 [] [] p.n.x] ++ T) := by rw [hIX]; simp
      have hb6 := Fr.of (Ex.setCell (Ex.refl [g] W') (p := ⟨g, 3, none⟩) (.inl List.mem_cons_self) (.slice kk6.a kk6.n kk6.c)) hM6.offg hM6.size (fun q hq => by rcases List.mem_singleton.1 hq with rfl; exact hM6.hg)
      refine ⟨kk6, rfl, Pc.c3 hB6, hB6.f 3, ⟨i, oa, l.length, oc, kk6, dp6, l, K2, _, hM7, hN7, by rw [hX]; exact HFP.out, by rw [← hIX] at hI7; exact hI7, Nat.le_refl _, hi⟩, (((HF4.out.trans (Fr.of hx5 HM4.out.offg HM4.out.size (fun k hk => by rcases List.mem_singleton.1 hk with rfl; exact HM4.out.hg))).trans (Fr.of hxw (Off.none _) hM5.size (fun k hk => by cases hk))).trans (Fr.of hx6 hMw.offg hMw.size (fun k hk => by rcases List.mem_singleton.1 hk with rfl; exact hMw.hg))).trans hb6⟩)
    have x3 := HX4.out.p3
    have c3 := Pc.c3 HM4.out.bk
    go_wp2_with fail
    have KG1a := Lib.hid (KG1.out w4.drew ((Ex.refl [] w4).drew))
    go_region_law (first
      | (go_simp; go_at_call 97; (with_reducible refine (KG1a.out).mono ?_); rintro e w5 ⟨kk5, rfl, hN5, hM5, hx5⟩; have c35 := Pc.c3 hM5.bk; have c35' := Pc.c3 ((hM5.bk).alloc (.cells #[.slice kk5.a kk5.n kk5.c, .slice kk.a kk.n kk.c] 22)); have KG2a := Lib.hid (KG2.out w5 (w5.alloc (.cells #[.slice kk5.a kk5.n kk5.c, .slice kk.a kk.n kk.c] 22)) kk5 w5.heap.size hM5 hx5 hN5 ((Ex.refl [] w5).alloc _) (two_row (Nat.le_refl _))); clear hN5 hM5 hx5)
      | (go_simp; go_at_call 97; (with_reducible refine (KG2a.out).mono ?_); rintro e w6 ⟨kk6, rfl, z3, zf, hfin, hfr⟩)
      | fail)
    all_goals
      have HE := Lib.hid (⟨hfin, hfr⟩ : _ ∧ _)
      clear hfin hfr z3 zf x3 c3 c35 c35' KG1 KG2 KG1a KG2a HM4 HT4 HF4 HX4
      go_wp2_with fail
      go_ret
      exact ⟨HE.out.2, .inr ⟨rfl, .inl HE.out.1⟩⟩
end Go.Proofs.YtljkmdmbndjngaaGreat

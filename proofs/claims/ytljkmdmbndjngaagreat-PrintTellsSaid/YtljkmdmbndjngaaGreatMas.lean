import Derived.Test.YtljkmdmbndjngaaGreatMar
/-
  The parser's states before a term and behind one; verb.
-/
namespace Go.Proofs.YtljkmdmbndjngaaGreat
set_option linter.unusedVariables false
set_option linter.unusedSimpArgs false
open Go.RowKit

section
variable {M : List UInt8 → List UInt8}
theorem Mc.ad_inv {k : Int} {v : List UInt8} {ls : List (List Tn)} {l : List Pk} {K : List Bg} {x : Option (List Tn)} {r : List Pk} (h : Mc M (.ad k v ls) l K x r) (hp : ∀ q l', l = q :: l' → q.k = 5 → ∃ c, q.t = [c]) : Mc M .to (l.drop (advN k l)) (⟨nv k v (advA k l) [], ls, none⟩ :: K) x r := by
  cases h with
  | @d_is _ _ _ q c l r K x h ht hc h1 =>
    have e : hasA k (q :: l) = true := by
      unfold hasA
      rw [show kd0 (q :: l) = q.k from rfl, show tx0 (q :: l) = q.t from rfl, h, ht, Bool.and_eq_true]
      exact ⟨rfl, List.any_eq_true.2 ⟨c, hc, by simp⟩⟩
    unfold advN advA
    rw [if_pos e, if_pos e, show tx0 (q :: l) = q.t from rfl, ht]
    exact h1
  | @d_no _ _ _ ts r K x h h1 =>
    have e : hasA k l = false := by
      cases hh : hasA k l with
      | false => rfl
      | true =>
        unfold hasA at hh
        rw [Bool.and_eq_true, decide_eq_true_iff, List.any_eq_true] at hh
        obtain ⟨h5, c, hc, he⟩ := hh
        cases l with
        | nil => cases h5
        | cons q l' => exact absurd (show q.t = [c] by simpa [tx0] using he) (h q l' rfl h5 c hc)
    unfold advN advA
    rw [e]
    exact h1
theorem Mc.vb_inv {k : Int} {ls : List (List Tn)} {l : List Pk} {K : List Bg} {x : Option (List Tn)} {r : List Pk} (h : Mc M (.vb k ls) l K x r) : ∃ q l', l = q :: l' ∧ (((q.k = 3 ∨ q.k = 4) ∧ Mc M (.ad k q.t ls) l' K x r) ∨ (q.k = 6 ∧ q.t = [123] ∧ Mc M .to l' (⟨nv k q.t [] [], ls, some 125⟩ :: K) x r)) := by
  cases h with
  | v_one h h1 => exact ⟨_, _, rfl, .inl ⟨h, h1⟩⟩
  | v_body h ht h1 => exact ⟨_, _, rfl, .inr ⟨h, ht, h1⟩⟩
end
/-- Before a term. -/
def ToS (B N : Nat) (ts : List Tk) (g : Nat) (pa : Option Addr) (n pc : Nat) (x : Option (List Tn)) (r : List Pk) (i0 : Nat) (W : World) : Prop :=
  ∃ (i : Nat) (oa : Option Addr) (on oc : Nat) (ta : Option Addr) (tn tc : Nat) (dp : Bool) (ms : List Mb) (K : List Bg), PM B ts W g pa n pc i oa on oc ta tn tc false dp ms K ∧ Mc numT .to ((pks ts).drop i) K x r ∧ Iv dp N K [] (n - i) ∧ i0 ≤ i ∧ i ≤ n
/-- Behind a term. -/
def FrS (B N : Nat) (ts : List Tk) (g : Nat) (pa : Option Addr) (n pc : Nat) (x : Option (List Tn)) (r : List Pk) (i0 : Nat) (W : World) : Prop :=
  ∃ (i : Nat) (oa : Option Addr) (on oc : Nat) (kk : Kd) (dp : Bool) (ms : List Mb) (K : List Bg) (T : List Tn), PM B ts W g pa n pc i oa on oc kk.a kk.n kk.c false dp ms K ∧ (dp = false → Nt B W kk T) ∧ Mc numT (.fr T) ((pks ts).drop i) K x r ∧ Iv dp N K [T] (n - i) ∧ i0 ≤ i ∧ i ≤ n
theorem KR.not {B : Nat} {W : World} {dp : Bool} {lo : Nat} {ka : Option Addr} {kn kc : Nat} {kd : Nat → Kd} {ls : List (List Tn)} (h : KR B W dp lo ka kn kc kd ls) {S : List Nat} (hS : ∀ s ∈ S, ∃ cur t fr, W.heap[s]? = some (.cells cur t fr) ∧ t ≠ 22) : ∀ k, (Value.slice ka kn kc).ownBlock = some k → k ∉ S := by
  intro k hk hm
  obtain ⟨cur, t, fr, h1, h2⟩ := hS k hm
  exact own_not h.row h1 h2 (by rw [hk]; simp)
theorem wB_ne {b : Bg} (h : b.n.k ≠ 6) : wB b = 1 + wl b.ks := by unfold wB; rw [if_neg h]
theorem tx_nil : tx [] = ⟨#[]⟩ := rfl
theorem bVerbN (k : Int) (v a : List UInt8) (h3 : k = 3 ∨ k = 4) (hv : v.length ≤ 300) (ha : a.length ≤ 300) (W : World) : (Nd.mk k (tx v) (tx a) ⟨#[]⟩ none 0 0 []).on W :=
  ⟨St.nil _ _, Nat.le_refl _, Nat.zero_le _, by show _ ≤ k; omega, by show k ≤ _; omega, by show (tx v).size ≤ _; rw [tx_size]; unfold maxLen; omega, by show (tx a).size ≤ _; rw [tx_size]; unfold maxLen; omega, Nat.zero_le _, fun s hs => by cases hs⟩
theorem advA_len {k : Int} {l : List Pk} (h : ∀ q ∈ l, q.t.length ≤ 256) : (advA k l).length ≤ 300 := by
  unfold advA
  split
  · cases l with
    | nil => exact Nat.zero_le _
    | cons q l => have := h q List.mem_cons_self; show q.t.length ≤ _; omega
  · exact Nat.zero_le _
theorem advN_le {k : Int} {l : List Pk} : advN k l ≤ l.length := by
  unfold advN
  split
  · rename_i h
    cases l with
    | nil => cases h
    | cons q l => simp
  · omega
theorem kd_verb {k : Int} {v a : List UInt8} (h3 : k = 3 ∨ k = 4) (hv : v ≠ [123]) : kdT (nv k v a []) = k - 2 := by
  unfold kdT nv
  rcases h3 with rfl | rfl
  · simp [hv]
  · simp [hv]
theorem kd_body {k : Int} {a : List UInt8} (h3 : k = 3 ∨ k = 4) : kdT (nv k [123] a []) = k - 1 := by
  unfold kdT nv
  rcases h3 with rfl | rfl
  · simp
  · simp
set_option maxRecDepth 10000 in
set_option maxHeartbeats 3200000 in
theorem verb_is (ts : List Tk) (hP : Pall ts) {B N : Nat} {W : World} {g : Nat} {pa : Option Addr} {n pc i : Nat} {oa : Option Addr} {on oc : Nat} {ta : Option Addr} {tn tc : Nat} {dp : Bool} {ms : List Mb} {K : List Bg} (h : PM B ts W g pa n pc i oa on oc ta tn tc false dp ms K) (hm : n ≤ 300) (hN : N ≤ 1000) {k : Int} (hk : k = 3 ∨ k = 4)
    {lo : Nat} {ka : Option Addr} {kn kc : Nat} {kd : Nat → Kd} {ls : List (List Tn)} (kr : KR B W dp lo ka kn kc kd ls) (hls : (ls.length : Int) + 3 = k) (hlo : ∀ c ∈ ms, ∀ q, (Value.slice c.ka c.kn c.kc).ownBlock = some q → q < lo) {x : Option (List Tn)} {r : List Pk} (hMc : Mc numT (.vb k ls) ((pks ts).drop i) K x r) (hI : Iv dp N K ls (n - i)) :
    Calls Tryz.prog 100 #[.pointer (some ⟨g, 0, none⟩), .int .i64 k, .slice ka kn kc] W fun e W' => e = .returned (.tuple #[]) ∧ ToS B N ts g pa n pc x r (i + 1) W' ∧ Fr B W W' := by
  obtain ⟨q, l, e, hc⟩ := hMc.vb_inv
  obtain ⟨e1, hin⟩ := drop_next e
  obtain ⟨hPs, hPl⟩ := hP.at e
  have hon : on ≤ 1000 := by
    have h1 := h.len
    have h2 := hI.wt
    have h3 : K.length ≤ wK K := by
      clear hMc hI h hc h1 h2
      induction K with
      | nil => exact Nat.zero_le _
      | cons b K ih =>
        rw [wK_cons]
        have : 1 ≤ wB b := by unfold wB; split <;> omega
        simp only [List.length_cons]; omega
    omega
  have hi3 : i < 300 := by have := h.hn; omega
  have hin2 : i + 1 ≤ n := by have := h.hn; omega
  have K1 := next_is ts h.bk (h.hn ▸ h.pq.qs) h.hn hm
  rw [e, show NxEnd (q :: l) W = fun e W' => ∃ p : Int, e = .returned (.agg #[.int .i64 q.k, .string (tx q.t), .int .i64 p]) ∧ Below W.heap.size W W' from rfl] at K1
  have HH := Lib.hid h
  have HKR := Lib.hid kr
  replace K1 := Lib.hid K1
  have hgl := h.bk.lt
  have hnn := h.hn
  have hl9 : (pks ts).drop (i + 1) = l := e1
  clear h kr e hMc
  have hf1 := tok_f1
  obtain ⟨T, hT⟩ : ∃ T, T = tx q.t := ⟨_, rfl⟩
  rw [← hT] at K1
  have HT0 := Lib.hid hT
  clear hT
  go_enter Tryz.func100, Tryz.ntmps100
  go_wp2_with fail
  refine K1.out.mono ?_
  rintro e w1 ⟨p1, rfl, hb1⟩
  have hH1 := HH.out.below hb1
  have hKR1 := HKR.out.ex (Ex.of [] hb1) (Off.none _) (fun k hk => by simp)
  have hbx := box_below w1 (.cells #[.int .i64 k, .string T, .string ⟨#[]⟩, .string ⟨#[]⟩, .slice none 0 0] 37)
  have hN2 := Bk.new 37 w1 [.int .i64 k, .string T, .string ⟨#[]⟩, .string ⟨#[]⟩, .slice none 0 0]
  rw [show [Value.int .i64 k, .string T, .string ⟨#[]⟩, .string ⟨#[]⟩, .slice none 0 0].toArray = #[.int .i64 k, .string T, .string ⟨#[]⟩, .string ⟨#[]⟩, .slice none 0 0] from rfl] at hN2
  have HH2 := Lib.hid (hH1.below hbx)
  have HKR2 := Lib.hid (hKR1.ex (Ex.of [] hbx) (Off.none _) (fun k hk => by simp))
  have HF2 := Lib.hid ((Fr.ofB hb1 HH.out.size).trans (Fr.ofB hbx hH1.size))
  have HN2 := Lib.hid hN2
  have hne : w1.heap.size ≠ g := by have := hH1.bk.lt; omega
  clear hb1 hH1 hKR1 hbx hN2 K1 HH HKR
  go_upto_region 1 with fail
  generalize w1.alloc (.cells #[.int .i64 k, .string T, .string ⟨#[]⟩, .string ⟨#[]⟩, .slice none 0 0] 37) = w2 at *
  have c1 := Pc.c1 HH2.out.bk
  have f1 := HH2.out.bk.f 1
  have w9 : IntKind.i64.wrap ((i : Int) + 1) = (i : Int) + 1 := wrn (by omega) (by omega)
  go_upto_region 2 with fail
  have hx3 := Ex.setCell (Ex.refl [g] w2) (p := ⟨g, 1, none⟩) (.inl List.mem_cons_self) (.int .i64 ((i : Int) + 1))
  have HH3 := Lib.hid (HH2.out.ex hx3 HH2.out.bk.step)
  have HKR3 := Lib.hid (HKR2.out.ex hx3 HH2.out.offg (HKR2.out.not HH2.out.tyG))
  have HF3 := Lib.hid (HF2.out.trans (Fr.of hx3 HH2.out.offg HH2.out.size (fun k hk => by rcases List.mem_singleton.1 hk with rfl; exact HH2.out.hg)))
  have hN3 := HN2.out.setOther (p := ⟨g, 1, none⟩) hne (.int .i64 ((i : Int) + 1))
  clear hx3 HH2 HKR2 HF2 HN2 c1 f1 w9
  generalize w2.setCell ⟨g, 1, none⟩ (.int .i64 ((i : Int) + 1)) = w3 at *
  have x0 := hN3.p0
  have x1 := hN3.p1
  have x2 := hN3.p2
  have x3 := hN3.p3
  have x4 := hN3.p4
  have HN3 := Lib.hid hN3
  clear hN3
  rcases hc with ⟨hq, hMa⟩ | ⟨hq, hqt, hMa⟩
  · have hnb := not_brace hPs hq
    have eT : (T.toList == [123]) = false := by
      rw [str_tl, HT0.out, tx_list]
      exact beq_eq_false_iff_ne.2 hnb
    have hMt := hMa.ad_inv (fun q' l' e hk5 => ps_one (hP.at (i := i + 1) (hl9.trans e)).1 (.inl hk5))
    have KA := withAdv_is ts hP HH3.out.bk HH3.out.pq HH3.out.hn hm hin2 hk T ⟨#[]⟩ none 0 0
    rw [hl9] at KA
    have HMT := Lib.hid hMt
    replace KA := Lib.hid KA
    have HI := Lib.hid hI
    have HT := Lib.hid HT0.out
    have HC := Lib.hid (⟨hnb, hPl, fun p hp => (hP p (List.mem_of_mem_drop (show p ∈ (pks ts).drop (i + 1) by rw [hl9]; exact hp))).2⟩ : q.t ≠ [123] ∧ q.t.length ≤ 256 ∧ ∀ p ∈ l, p.t.length ≤ 256)
    have HL9 := Lib.hid hl9
    have hll : l.length = n - (i + 1) := by rw [← hl9, List.length_drop, pks_len, hnn]
    clear hMt hMa hI hnb hPs hPl hl9 e1
    go_wp2_with fail
    refine KA.out.mono ?_
    rintro e w4 ⟨rfl, hB4, hx4⟩
    have HH4 := Lib.hid (HH3.out.ex hx4 hB4)
    have HKR4 := Lib.hid (HKR3.out.ex hx4 HH3.out.offg (HKR3.out.not HH3.out.tyG))
    have HF4 := Lib.hid (HF3.out.trans (Fr.of hx4 HH3.out.offg HH3.out.size (fun k hk => by rcases List.mem_singleton.1 hk with rfl; exact HH3.out.hg)))
    have KB := Lib.hid (begin_is ⟨⟨k, T, tx (advA k l), ⟨#[]⟩, none, 0, 0, []⟩, ka, kn, kc, kd, ⟨#[]⟩, lo⟩ HH4.out.bk HH4.out.row HH4.out.size hon)
    clear hx4 hB4 HH3 HKR3 HF3 KA x0 x1 x2 x3 x4 HN3 eT
    go_wp2_with fail
    refine KB.out.mono ?_
    rintro e w5 ⟨rfl, hx5, oa', oc', hB5, hr5⟩
    have hadv := advN_le (k := k) (l := l)
    have HFIN := Lib.hid (show ToS B N ts g pa n pc x r (i + 1) w5 ∧ Fr B W w5 by
      have hpush := HH4.out.push hx5 (p := ⟨nv k q.t (advA k l) [], ls, none⟩) hB5 hr5 HKR4.out (by show (_ : Tn) = _; rw [HT.out]; rfl) rfl (by rw [HT.out]; exact bVerbN k q.t _ hk (by have := HC.out.2.1; omega) (advA_len HC.out.2.2) _) rfl hlo (HKR4.out.not HH4.out.tyS)
      refine ⟨⟨_, _, _, _, _, _, _, _, _, _, hpush, ?_, HI.out.push rfl ?_ ?_, by omega, by omega⟩, HF4.out.trans (Fr.of hx5 HH4.out.offs HH4.out.size HH4.out.base)⟩
      · rw [← List.drop_drop, HL9.out]
        exact HMT.out
      · refine .inl ⟨rfl, ?_, ?_, ?_⟩
        · show 1 ≤ k; omega
        · show k ≤ 8; omega
        · rw [kd_verb hk HC.out.1]; show k - 2 = (ls.length : Int) + 1; omega
      · rw [wB_ne (show k ≠ 6 by omega)]
        show 1 + wl ls + _ ≤ _
        omega)
    clear hx5 hB5 hr5 HH4 HKR4 HF4 KB HMT HI HC
    go_wp2_with fail
    first | go_end0 | refine bodyPost_ret (results_none rfl _ _ _) rfl ?_ | refine bodyPost_end (results_none rfl _ _ _) rfl ?_
    exact ⟨rfl, HFIN.out⟩
  · have eT : (T.toList == [123]) = true := by rw [str_tl, HT0.out, hqt]; rfl
    have HMT := Lib.hid hMa
    have HI := Lib.hid hI
    have HT := Lib.hid (HT0.out.trans (by rw [hqt]) : T = tx [123])
    have HL9 := Lib.hid hl9
    rw [hqt] at HMT
    have KB := Lib.hid (begin_is ⟨⟨k, T, ⟨#[]⟩, ⟨#[]⟩, none, 0, 0, []⟩, ka, kn, kc, kd, ⟨#[125]⟩, lo⟩ HH3.out.bk HH3.out.row HH3.out.size hon)
    clear hMa hI hPs hPl hl9 e1
    go_wp2_with fail
    refine KB.out.mono ?_
    rintro e w5 ⟨rfl, hx5, oa', oc', hB5, hr5⟩
    have HFIN := Lib.hid (show ToS B N ts g pa n pc x r (i + 1) w5 ∧ Fr B W w5 by
      have hpush := HH3.out.push hx5 (p := ⟨nv k [123] [] [], ls, some 125⟩) hB5 hr5 HKR3.out (by show (_ : Tn) = _; rw [HT.out]; rfl) rfl (by rw [HT.out]; exact bVerbN k [123] [] hk (by decide) (by decide) _) rfl hlo (HKR3.out.not HH3.out.tyS)
      refine ⟨⟨_, _, _, _, _, _, _, _, _, _, hpush, ?_, HI.out.push rfl ?_ ?_, by omega, by omega⟩, HF3.out.trans (Fr.of hx5 HH3.out.offs HH3.out.size HH3.out.base)⟩
      · rw [HL9.out]
        exact HMT.out
      · refine .inr ⟨⟨125, rfl, by decide⟩, .inr (.inr (.inr (.inr ⟨hk, rfl, rfl, rfl, ?_⟩)))⟩
        rw [kd_body hk]; show k - 1 = (ls.length : Int) + 2; omega
      · rw [wB_ne (show k ≠ 6 by omega)]
        show 1 + wl ls + _ ≤ _
        omega)
    clear hx5 hB5 hr5 HH3 HKR3 HF3 KB HMT HI x0 x1 x2 x3 x4 HN3
    go_wp2_with fail
    first | go_end0 | refine bodyPost_ret (results_none rfl _ _ _) rfl ?_ | refine bodyPost_end (results_none rfl _ _ _) rfl ?_
    exact ⟨rfl, HFIN.out⟩
end Go.Proofs.YtljkmdmbndjngaaGreat
/-
  grow, deep or not; finishVerbs.
-/
namespace Go.Proofs.YtljkmdmbndjngaaGreat
set_option linter.unusedVariables false
set_option linter.unusedSimpArgs false
open Go.RowKit

/-- What grow tells. -/
def GrEnd (B : Nat) (X : List Tn) (g : Nat) (pa : Option Addr) (n pc i : Nat) (oa : Option Addr) (on oc : Nat) (ta : Option Addr) (tn tc : Nat) (wh dp : Bool) (W : World) (e : Ending) (W' : World) : Prop :=
  ∃ (kk : Kd) (dp' : Bool), e = .returned (.slice kk.a kk.n kk.c) ∧ (dp' = false → Nt B W' kk X) ∧ Bk 84 W' g (pcs pa n pc i oa on oc ta tn tc wh dp') ∧ Ex [g] W W' ∧ (dp = true → dp' = true) ∧ (dp = false → (dp' = true ↔ Deep X))
theorem grow_any {B lo : Nat} {W : World} {g : Nat} {pa : Option Addr} {n pc i : Nat} {oa : Option Addr} {on oc : Nat} {ta : Option Addr} {tn tc : Nat} {wh dp : Bool} (d : Nd) {ka : Option Addr} {K kc : Nat} {k : Nat → Kd} {Ts : List (List Tn)} (h : Bk 84 W g (pcs pa n pc i oa on oc ta tn tc wh dp))
    (hd : d.on W) (hdm : d.m ≤ 100) (kr : KR B W dp lo ka K kc k Ts) (hK3 : K ≤ 10) (hns : ∀ t ∈ Ts, ∀ x ∈ t, x.ns.length ≤ 100) (hw : wl Ts ≤ 1000) (hX : Tr (tnOf d :: Ts.flatten)) :
    Calls Tryz.prog 97 #[.pointer (some ⟨g, 0, none⟩), d.val, .slice ka K kc] W (GrEnd B (tnOf d :: Ts.flatten) g pa n pc i oa on oc ta tn tc wh dp W) := by
  cases dp with
  | true =>
    refine (grow_deep d ka K kc h).mono ?_
    rintro e w1 ⟨rfl, hb⟩
    exact ⟨⟨none, 0, 0, fun _ => d⟩, true, rfl, fun h => (by cases h), h.on hb, Ex.of [g] hb, fun _ => rfl, fun h => by cases h⟩
  | false =>
    obtain ⟨D, hD⟩ := hX
    refine (grow_is d ka K kc k Ts h hd hdm kr.kl hK3 (kr.nt rfl) hns kr.row hw hD).mono ?_
    rintro e w1 ⟨kk, rfl, hN, hB, hx⟩
    refine ⟨kk, _, rfl, fun _ => hN, hB, hx, fun h => (by cases h), fun _ => ?_⟩
    rw [decide_eq_true_iff]
    exact ⟨fun h => ⟨D, hD, h⟩, fun ⟨d', hd', h⟩ => by rw [(hD.det hd').2]; exact h⟩
theorem infoKid : (Tryz.prog.info? 22).map (fun i => (i.zero, i.size, i.bytes)) = some (some (.slice none 0 0), 1, 24) := by kernel_rfl
theorem KR.snoc {B : Nat} {W W' : World} {dp : Bool} {lo : Nat} {ka : Option Addr} {kn kc : Nat} {kd : Nat → Kd} {ls : List (List Tn)} (h : KR B W dp lo ka kn kc kd ls) {kk : Kd} {T : List Tn} (hT : dp = false → Nt B W kk T) {av : Option Addr} {cv : Nat} (ho : W'.ownsRow lo 22 1 (.slice av (kn + 1) cv) (kn + 1) (kvs kd kn ++ [.slice kk.a kk.n kk.c])) {S : List Nat} (hx : Ex S W W') (hoff : Off S W) :
    KR B W' dp lo av (kn + 1) cv (fun i => if i = kn then kk else kd i) (ls ++ [T]) := by
  refine ⟨by rw [h.kl, List.length_append]; rfl, ?_, h.lo, fun hd i hi => ?_⟩
  · rw [show kvs (fun i => if i = kn then kk else kd i) (kn + 1) = kvs kd kn ++ [.slice kk.a kk.n kk.c] by
      show kvs _ kn ++ [_] = _
      rw [kvs_same (k' := kd) kn (fun i hi => by rw [if_neg (by omega)])]
      simp]
    exact ho
  · by_cases hk : i = kn
    · rw [if_pos hk]
      have e : (ls ++ [T])[i] = T := by
        subst hk
        simp [h.kl]
      rw [e]
      exact (hT hd).ex hx hoff
    · rw [if_neg hk]
      have hi2 : i < ls.length := by rw [List.length_append] at hi; have := h.kl; simp at hi; omega
      rw [List.getElem_append_left hi2]
      exact (h.nt hd i hi2).ex hx hoff
theorem Off.kids {base n : Nat} {W : World} {v : Value} {xs : List Value} (h : W.ownsRow base 22 1 v n xs) : Off v.ownBlock.toList W := Off.row h (by decide) (by decide) (by decide)
section
variable {B : Nat} {ts : List Tk} {W W' : World} {g : Nat} {pa : Option Addr} {n pc i : Nat} {oa : Option Addr} {on oc : Nat} {ta : Option Addr} {tn tc : Nat} {wh dp : Bool} {ms : List Mb} {K : List Bg}
/-- Trees' rows that are above the stack's may change. -/
theorem PM.kids (h : PM B ts W g pa n pc i oa on oc ta tn tc wh dp ms K) {lo : Nat} {ka : Option Addr} {kn kc : Nat} {kd : Nat → Kd} {ls : List (List Tn)} (kr : KR B W dp lo ka kn kc kd ls) (hlo : ∀ c ∈ ms, ∀ q, (Value.slice c.ka c.kn c.kc).ownBlock = some q → q < lo) (hx : Ex (Value.slice ka kn kc).ownBlock.toList W W') : PM B ts W' g pa n pc i oa on oc ta tn tc wh dp ms K := by
  have hoff := Off.kids kr.row
  refine ⟨h.bk.ex hx (own_not kr.row h.bk (by decide)), h.pq.ex hx hoff, h.hn, own_ex h.row hx ?_, h.hon, h.sr.ex hx hoff ?_, h.hg⟩
  · intro k hk hm
    rcases h.row.2 with ⟨h1, _⟩ | ⟨k', cap, cur, h1, _, h2, _⟩
    · rw [h1] at hk; cases hk
    · rw [h1] at hk
      cases hk
      exact own_not kr.row h2 (by decide) hm
  · intro c hc k hk hm
    have h1 := hlo c hc k hk
    have h2 := (kr.row.lt k (by simpa using hm)).1
    omega
/-- The last one begun: what it is plainly, where its trees lie. -/
theorem PM.top {b : Mb} {l : List Mb} (h : PM B ts W g pa n pc i oa on oc ta tn tc wh dp (b :: l) K) : ∃ p K2, K = p :: K2 ∧ SOk B W dp b p ∧ (∀ c ∈ l, ∀ k, (Value.slice c.ka c.kn c.kc).ownBlock = some k → k < b.lo) ∧ SR B W dp l K2 ∧ on = l.length + 1 := by
  cases K with
  | nil => exact h.sr.elim
  | cons p K2 => exact ⟨p, K2, rfl, h.sr.1, h.sr.2.1, h.sr.2.2, h.hon⟩
theorem KR.rebase {B : Nat} {W : World} {dp : Bool} {lo : Nat} {ka : Option Addr} {kn kc : Nat} {kd : Nat → Kd} {ls : List (List Tn)} (h : KR B W dp lo ka kn kc kd ls) (hB : B ≤ W.heap.size) : KR B W dp (min lo W.heap.size) ka kn kc kd ls := by
  refine ⟨h.kl, ⟨h.row.1, ?_⟩, by have := h.lo; omega, h.nt⟩
  rcases h.row.2 with h1 | ⟨k, cap, cur, h1, h2, h3, h4⟩
  · exact .inl h1
  · exact .inr ⟨k, cap, cur, h1, by omega, h3, h4⟩
/-- It is taken away. -/
theorem PM.popped {b : Mb} {l : List Mb} {p : Bg} {K2 : List Bg} (h : PM B ts W g pa n pc i oa on oc ta tn tc wh dp (b :: l) (p :: K2)) (hx : Ex [g] W W') (hb : Bk 84 W' g (pcs pa n pc i oa l.length oc ta tn tc wh dp)) (hr : W'.ownsRow B 129 7 (.slice oa l.length oc) l.length (obs l)) :
    PM B ts W' g pa n pc i oa l.length oc ta tn tc wh dp l K2 ∧ b.d.on W' ∧ ∃ lo, KR B W' dp lo b.ka b.kn b.kc b.kd p.ks ∧ lo ≤ W'.heap.size ∧ ∀ c ∈ l, ∀ k, (Value.slice c.ka c.kn c.kc).ownBlock = some k → k < lo := by
  have hs := h.sr.2.2.ex hx h.offg (fun c hc => h.sr.not h.tyG c (List.mem_cons_of_mem _ hc))
  have hS := h.sr.1.ex hx h.offg (h.sr.not h.tyG b List.mem_cons_self)
  have hP : PM B ts W' g pa n pc i oa l.length oc ta tn tc wh dp l K2 := ⟨hb, h.pq.ex hx h.offg, h.hn, hr, rfl, hs, h.hg⟩
  have hK : KR B W' dp b.lo b.ka b.kn b.kc b.kd p.ks := ⟨hS.kn, hS.row, hS.lo, hS.nt⟩
  refine ⟨hP, hS.on, _, hK.rebase hP.size, Nat.min_le_right _ _, fun c hc k hk => ?_⟩
  have h1 := h.sr.2.1 c hc k hk
  have h2 := (hs.lt c hc k hk).1
  omega
theorem PM.lenO (h : PM B ts W g pa n pc i oa on oc ta tn tc wh dp ms K) : slN ((W.cell? ⟨g, 2, none⟩).getD undef) = on := by rw [Pc.c2 h.bk]; rfl
end
theorem Mc.dn_pop {M : List UInt8 → List UInt8} {T : List Tn} {p : Bg} {l : List Pk} {K : List Bg} {x : Option (List Tn)} {r : List Pk} (h : Mc M (.dn T) l (p :: K) x r) (hu : p.u = none) : Mc M (.dn (p.put T)) l K x r := by
  cases h with
  | e_pop hb h1 => exact h1
  | e_mark hb h ht h1 => rw [hu] at hb; cases hb
  | e_not hb h => rw [hu] at hb; cases hb
theorem BgOk.none {b : Bg} (h : BgOk b) (hu : b.u = none) : kdT b.n = (b.ks.length : Int) + 1 := by
  rcases h with h | ⟨⟨c, hc, _⟩, _⟩
  · exact h.2.2.2
  · rw [hu] at hc; cases hc
theorem kdT_le (n : Tn) : kdT n ≤ 3 := by
  unfold kdT
  repeat' split
  all_goals omega
theorem iv_len {dp : Bool} {N m : Nat} {K : List Bg} {l : List (List Tn)} (h : Iv dp N K l m) : K.length ≤ N := by
  have h2 := h.wt
  have h3 : K.length ≤ wK K := by
    clear h h2
    induction K with
    | nil => exact Nat.zero_le _
    | cons b K ih =>
      rw [wK_cons]
      have : 1 ≤ wB b := by unfold wB; split <;> omega
      simp only [List.length_cons]; omega
  omega
theorem tn_ns {d : Nd} {W : World} (h : d.on W) (h0 : d.m = 0) : (tnOf d).ns = [] := by
  have := h.nl
  rw [h0] at this
  show d.ns.map _ = []
  rw [List.eq_nil_of_length_eq_zero this]; rfl
/-- Behind a term, and all that ends with what it stands in. -/
def DnS (B N : Nat) (ts : List Tk) (g : Nat) (pa : Option Addr) (n pc : Nat) (x : Option (List Tn)) (r : List Pk) (i m : Nat) (W : World) : Prop :=
  ∃ (oa : Option Addr) (on oc : Nat) (kk : Kd) (dp : Bool) (ms : List Mb) (K : List Bg) (T : List Tn), PM B ts W g pa n pc i oa on oc kk.a kk.n kk.c false dp ms K ∧ (dp = false → Nt B W kk T) ∧ Mc numT (.dn T) ((pks ts).drop i) K x r ∧ Iv dp N K [T] m
def lenO (g : Nat) (w : World) : Nat := slN ((w.cell? ⟨g, 2, none⟩).getD undef)
end Go.Proofs.YtljkmdmbndjngaaGreat
/-
  The parser's finishVerbs.
-/
namespace Go.Proofs.YtljkmdmbndjngaaGreat
set_option linter.unusedVariables false
set_option linter.unusedSimpArgs false
open Go.RowKit

/-- Behind a term, and all that ends with what it stands in: nothing more ends so. -/
def EnS (B N : Nat) (ts : List Tk) (g : Nat) (pa : Option Addr) (n pc : Nat) (x : Option (List Tn)) (r : List Pk) (i m : Nat) (W : World) : Prop :=
  ∃ (oa : Option Addr) (on oc : Nat) (kk : Kd) (dp : Bool) (ms : List Mb) (K : List Bg) (T : List Tn), PM B ts W g pa n pc i oa on oc kk.a kk.n kk.c false dp ms K ∧ (dp = false → Nt B W kk T) ∧ Mc numT (.dn T) ((pks ts).drop i) K x r ∧ Iv dp N K [T] m ∧ (∀ b K2, K = b :: K2 → b.u ≠ none)
/-- A tree grown is laid: the parser behind it. -/
theorem PM.laid {B : Nat} {ts : List Tk} {W w : World} {g : Nat} {pa : Option Addr} {n pc i : Nat} {oa : Option Addr} {on oc : Nat} {ta : Option Addr} {tn tc : Nat} {wh dp dp' : Bool} {ms : List Mb} {K : List Bg} {X : List Tn} {kk : Kd} (h : PM B ts W g pa n pc i oa on oc ta tn tc wh dp ms K) (hx : Ex [g] W w) (hb : Bk 84 w g (pcs pa n pc i oa on oc ta tn tc wh dp')) (hd : dp = true → dp' = true) (hN : dp' = false → Nt B w kk X) :
    PM B ts (w.setCell ⟨g, 3, none⟩ (.slice kk.a kk.n kk.c)) g pa n pc i oa on oc kk.a kk.n kk.c wh dp' ms K ∧ (dp' = false → Nt B (w.setCell ⟨g, 3, none⟩ (.slice kk.a kk.n kk.c)) kk X) := by
  have h1 := h.deeper hx hb hd
  have hx2 := Ex.setCell (Ex.refl [g] w) (p := ⟨g, 3, none⟩) (.inl List.mem_cons_self) (.slice kk.a kk.n kk.c)
  exact ⟨h1.ex hx2 (hb.set 3 _), fun hd => (hN hd).ex hx2 h1.offg⟩
set_option maxRecDepth 10000 in
set_option maxHeartbeats 6400000 in
theorem finishVerbs_is (ts : List Tk) {B N : Nat} {W : World} {g : Nat} {pa : Option Addr} {n pc i m : Nat} {x : Option (List Tn)} {r : List Pk} (hN : N ≤ 900) (h : DnS B N ts g pa n pc x r i m W) :
    Calls Tryz.prog 101 #[.pointer (some ⟨g, 0, none⟩)] W fun e W' => e = .returned (.tuple #[]) ∧ EnS B N ts g pa n pc x r i m W' ∧ Fr B W W' := by
  have H0 := Lib.hid h
  clear h
  go_enter Tryz.func101, Tryz.ntmps101
  go_wp2_with fail
  go_loopw [] (fun wr => DnS B N ts g pa n pc x r i m wr ∧ Fr B W wr) (fun wr => lenO g wr)
  case atStart => exact ⟨H0.out, Fr.refl _ _⟩
  case round =>
    clear H0
    obtain ⟨⟨oa, on, oc, kk, dp, ms, K, T, hM, hT, hMc, hI⟩, hF⟩ := hrel
    have c2 := Pc.c2 hM.bk
    have hlen : lenO g wr = on := by unfold lenO; rw [c2]; rfl
    cases ms with
    | nil =>
      have hon : on = 0 := hM.hon
      subst hon
      have hK : K = [] := by
        have := hM.len
        exact List.eq_nil_of_length_eq_zero this.symm
      subst hK
      have HFIN := Lib.hid (show EnS B N ts g pa n pc x r i m wr ∧ Fr B W wr from ⟨⟨oa, 0, oc, kk, dp, [], [], T, hM, hT, hMc, hI, fun b K2 h => by cases h⟩, hF⟩)
      clear hM hT hMc hI hF hlen
      go_wp2_with fail
      first | go_end0 | refine bodyPost_ret (results_none rfl _ _ _) rfl ?_ | refine bodyPost_end (results_none rfl _ _ _) rfl ?_
      exact ⟨rfl, HFIN.out⟩
    | cons b l =>
      obtain ⟨p, K2, rfl, hS, hlo, hsr, hon⟩ := hM.top
      have hon9 : on ≤ 1000 := by have := iv_len hI; have := hM.len; omega
      have KU := Lib.hid (show Calls _ _ _ _ (ValEnd (.string b.u) wr) from upTo_is hM.bk hM.row hM.hon hon9)
      have hu := hS.u
      have e0 : (0 : Int) < (on : Int) := by omega
      cases hpu : p.u with
      | some c =>
        have eU : b.u.toList.isEmpty = false := by rw [str_tl, hu, hpu]; rfl
        have HM := Lib.hid hM
        have HFIN := Lib.hid (show ∀ w, Below wr.heap.size wr w → EnS B N ts g pa n pc x r i m w ∧ Fr B W w from fun w hb => ⟨⟨oa, on, oc, kk, dp, b :: l, p :: K2, T, hM.below hb, fun hd => (hT hd).ex (Ex.of [] hb) (Off.none _), hMc, hI, fun b K2 h => by cases h; rw [hpu]; simp⟩, hF.trans (Fr.ofB hb hM.size)⟩)
        clear hM hT hMc hI hF hlen hS hlo hsr hu hpu hon
        go_wp2_with fail
        refine KU.out.mono ?_
        rintro e w1 ⟨rfl, hb1⟩
        have HEND := Lib.hid (HFIN.out w1 hb1)
        clear hb1 c2
        go_wp2_with fail
        first | go_end0 | refine bodyPost_ret (results_none rfl _ _ _) rfl ?_ | refine bodyPost_end (results_none rfl _ _ _) rfl ?_
        exact ⟨rfl, HEND.out⟩
      | none =>
        have eU : b.u.toList.isEmpty = true := by rw [str_tl, hu, hpu]; rfl
        have hMc2 := hMc.dn_pop hpu
        obtain ⟨hI2, hbg⟩ := hI.pop
        have hkd := hbg.none hpu
        have hks : p.ks.length ≤ 3 := by have := kdT_le p.n; omega
        have hTr := (tree_put (n := p.n) (l := p.ks ++ [T]) (fun t ht => (hI2.tr t (List.mem_append_left _ ht)).1) (by rw [hkd, List.length_append]; rfl)).1
        have hns : ∀ t ∈ p.ks ++ [T], ∀ x ∈ t, x.ns.length ≤ 100 := fun t ht => (hI2.tr t (List.mem_append_left _ ht)).2
        have hwl : wl (p.ks ++ [T]) ≤ 1000 := by have := hI2.kids; omega
        have hnd : p.n = tnOf b.d := hS.node.symm
        have hpn : p.n.ns.length ≤ 100 := by rw [hnd, tn_ns hS.on hS.dm]; exact Nat.zero_le _
        have HPL := Lib.hid (⟨hMc2, hI2, hkd, hTr, hns, hwl, hnd, hpn, hks⟩ : Mc numT (.dn (p.put T)) ((pks ts).drop i) K2 x r ∧ Iv dp N K2 (p.ks ++ [T]) (m + 1) ∧ kdT p.n = (p.ks.length : Int) + 1 ∧ Tr (p.n :: (p.ks ++ [T]).flatten) ∧ (∀ t ∈ p.ks ++ [T], ∀ x ∈ t, x.ns.length ≤ 100) ∧ wl (p.ks ++ [T]) ≤ 1000 ∧ p.n = tnOf b.d ∧ p.n.ns.length ≤ 100 ∧ p.ks.length ≤ 3)
        have HM := Lib.hid hM
        have HT := Lib.hid hT
        have HF := Lib.hid hF
        have HLO := Lib.hid hlo
        have hdm := hS.dm
        have HLEN := Lib.hid hlen
        clear hM hT hMc hI hF hS hlo hsr hu hpu hMc2 hI2 hbg hkd hks hTr hns hwl hnd hpn
        obtain ⟨⟨dk, dv, da, dx, dg, dm, dc, dn⟩, ka, kn, kc, kd, u, lo⟩ := b
        have hdm : dm = 0 := hdm
        subst hdm
        go_wp2_with fail
        refine KU.out.mono ?_
        rintro e w1 ⟨rfl, hb1⟩
        have HM1 := Lib.hid (HM.out.below hb1)
        have HT1 := Lib.hid (fun hd => (HT.out hd).ex (Ex.of [] hb1) (Off.none _))
        have HF1 := Lib.hid (HF.out.trans (Fr.ofB hb1 HM.out.size))
        clear hb1 c2 HM HT HF KU
        have KL := Lib.hid (show Calls Tryz.prog 114 #[.pointer (some ⟨g, 0, none⟩)] w1 (fun e W' => e = .returned (.agg #[.int .i64 dk, .string dv, .string da, .string dx, .slice dg 0 dc, .slice ka kn kc, .string u]) ∧ Ex [g] w1 W' ∧ Bk 84 W' g (pcs pa n pc i oa l.length oc kk.a kk.n kk.c false dp) ∧ W'.ownsRow B 129 7 (.slice oa l.length oc) l.length (obs l)) from last_is HM1.out.bk HM1.out.row hon hon9)
        go_wp2_with fail
        refine KL.out.mono ?_
        rintro e w2 ⟨rfl, hx2, hB2, hr2⟩
        obtain ⟨hM2, hd2, lo2, hKR2, hlo2, hsep2⟩ := HM1.out.popped hx2 hB2 hr2
        have HT2 := Lib.hid (fun hd => (HT1.out hd).ex hx2 HM1.out.offg)
        have HF2 := Lib.hid (HF1.out.trans (Fr.of hx2 HM1.out.offg HM1.out.size (fun k hk => by rcases List.mem_singleton.1 hk with rfl; exact HM1.out.hg)))
        replace hKR2 : KR B w2 dp lo2 ka kn kc kd p.ks := hKR2
        have hbx := box_below w2 (.cells #[.int .i64 dk, .string dv, .string da, .string dx, .slice dg 0 dc, .slice ka kn kc, .string u] 129)
        have hX3 := Bk.new 129 w2 [.int .i64 dk, .string dv, .string da, .string dx, .slice dg 0 dc, .slice ka kn kc, .string u]
        rw [show [Value.int .i64 dk, .string dv, .string da, .string dx, .slice dg 0 dc, .slice ka kn kc, .string u].toArray = #[.int .i64 dk, .string dv, .string da, .string dx, .slice dg 0 dc, .slice ka kn kc, .string u] from rfl] at hX3
        have HM3 := Lib.hid (hM2.below hbx)
        have HT3 := Lib.hid (fun hd => (HT2.out hd).ex (Ex.of [] hbx) (Off.none _))
        have HF3 := Lib.hid (HF2.out.trans (Fr.ofB hbx hM2.size))
        have HKR3 := Lib.hid (hKR2.ex (Ex.of [] hbx) (Off.none _) (fun k hk => by simp))
        have HD3 := Lib.hid (hd2.below hbx)
        have hsz3 := hbx.size
        have hgx : w2.heap.size ≠ g := by have := hM2.bk.lt; omega
        have HSEP := Lib.hid hsep2
        have hkn : kn ≤ 5 := by have := hKR2.kl; have := HPL.out.2.2.2.2.2.2.2.2; omega
        clear hx2 hB2 hr2 hM2 hKR2 hd2 KL HM1 HT1 HF1 HT2 HF2 e0 hlen hsep2 hbx
        have c3 : wr.heap.size = wr.heap.size := rfl
        clear c3
        go_wp2_with fail
        generalize w2.alloc (.cells #[.int .i64 dk, .string dv, .string da, .string dx, .slice dg 0 dc, .slice ka kn kc, .string u] 129) = w3 at *
        have hlo3 : lo2 ≤ w3.heap.size := by omega
        have hbn := box_below w3 (.cells #[.slice kk.a kk.n kk.c] 22)
        have c3 := Pc.c3 HM3.out.bk
        have x0 := hX3.p0
        have x1 := hX3.p1
        have x2 := hX3.p2
        have x3 := hX3.p3
        have x4 := hX3.p4
        have x5 := hX3.p5
        have hX4 := hX3.below hbn hX3.lt
        have c3' := Pc.c3 (HM3.out.below hbn).bk
        have x0' := hX4.p0
        have x1' := hX4.p1
        have x2' := hX4.p2
        have x3' := hX4.p3
        have x4' := hX4.p4
        have x5' := hX4.p5
        have HFIN := Lib.hid (show ∀ (w4 w5 : World) (kk5 : Kd) (dp5 : Bool), PM B ts w4 g pa n pc i oa l.length oc kk.a kk.n kk.c false dp l K2 → Ex (Value.slice ka kn kc).ownBlock.toList w3 w4 → Ex [g] w4 w5 → Bk 84 w5 g (pcs pa n pc i oa l.length oc kk.a kk.n kk.c false dp5) → (dp = true → dp5 = true) → (dp = false → (dp5 = true ↔ Deep (tnOf ⟨dk, dv, da, dx, dg, 0, dc, dn⟩ :: (p.ks ++ [T]).flatten))) → (dp5 = false → Nt B w5 kk5 (tnOf ⟨dk, dv, da, dx, dg, 0, dc, dn⟩ :: (p.ks ++ [T]).flatten)) → (DnS B N ts g pa n pc x r i m (w5.setCell ⟨g, 3, none⟩ (.slice kk5.a kk5.n kk5.c)) ∧ Fr B W (w5.setCell ⟨g, 3, none⟩ (.slice kk5.a kk5.n kk5.c))) ∧ lenO g (w5.setCell ⟨g, 3, none⟩ (.slice kk5.a kk5.n kk5.c)) = l.length by
          intro w4 w5 kk5 dp5 hM4 hx4 hx5 hB5 hd5 he5 hN5
          obtain ⟨hM6, hN6⟩ := hM4.laid hx5 hB5 hd5 hN5
          have hI := HPL.out.2.1.put (n := p.n) (by rw [HPL.out.2.2.1, List.length_append]; rfl) HPL.out.2.2.2.2.2.2.2.1 hd5 (by rw [HPL.out.2.2.2.2.2.2.1]; exact he5) (Nat.le_refl _)
          have hb4 := Fr.of hx4 (Off.kids HKR3.out.row) HM3.out.size (fun q hq => by have h1 := (HKR3.out.row.lt q (by simpa using hq)).1; have h2 := HKR3.out.lo; omega)
          have hb5 := Fr.of hx5 hM4.offg hM4.size (fun q hq => by rcases List.mem_singleton.1 hq with rfl; exact hM4.hg)
          have hM5 := hM4.deeper hx5 hB5 hd5
          have hb6 := Fr.of (Ex.setCell (Ex.refl [g] w5) (p := ⟨g, 3, none⟩) (.inl List.mem_cons_self) (.slice kk5.a kk5.n kk5.c)) hM5.offg hM5.size (fun q hq => by rcases List.mem_singleton.1 hq with rfl; exact hM5.hg)
          refine ⟨⟨⟨_, _, _, kk5, dp5, l, K2, p.put T, hM6, ?_, HPL.out.1, hI⟩, ((HF3.out.trans hb4).trans hb5).trans hb6⟩, hM6.lenO⟩
          rw [show p.put T = tnOf ⟨dk, dv, da, dx, dg, 0, dc, dn⟩ :: (p.ks ++ [T]).flatten by unfold Bg.put; rw [HPL.out.2.2.2.2.2.2.1]]
          exact hN6)
        have HX3 := Lib.hid hX3
        have hkn5 : kn ≤ 5000 := by omega
        clear hX3 hX4 hbn
        go_region_law (first
          | (go_simp; go_at_call 97; refine (KG.out).mono ?_; rintro e w5 ⟨kk5, dp5, rfl, hN5, hB5, hx5, hd5, he5⟩; have z3 := Pc.c3 hB5; have zf := hB5.f 3)
          | (refine step_push_any w3 (.tmp 21) (.tmp 26) 127 22 _ 1 24 infoKid Tryz.underlying127 rfl (by decide) lo2 ka kn kc (kvs kd kn) [.slice kk.a kk.n kk.c] rfl (by intro u hu; rw [List.mem_singleton] at hu; rw [hu]; rfl) rfl rfl rfl rfl rfl rfl rfl rfl HKR3.out.row hlo3 hkn5 (by decide) ?_; intro av cv w4 hown4 hx4; have hM4 := HM3.out.kids HKR3.out HSEP.out hx4; have hoff4 := Off.kids HKR3.out.row; have hkr4 := HKR3.out.snoc HT3.out hown4 hx4 hoff4; have hX5 := HX3.out.ex hx4 (own_not HKR3.out.row HX3.out (by decide)); have y0 := hX5.p0; have y1 := hX5.p1; have y2 := hX5.p2; have y3 := hX5.p3; have y4 := hX5.p4; have HKR4 := Lib.hid hkr4; have HM4 := Lib.hid hM4; have HX4 := Lib.hid hx4; have HOFF4 := Lib.hid hoff4; have KG := Lib.hid (grow_any ⟨dk, dv, da, dx, dg, 0, dc, dn⟩ HM4.out.bk (on_any HD3.out rfl) (Nat.zero_le _) HKR4.out (by omega) HPL.out.2.2.2.2.1 HPL.out.2.2.2.2.2.1 (by have h9 := HPL.out.2.2.2.1; rw [HPL.out.2.2.2.2.2.2.1] at h9; exact h9)); clear hkr4 hM4 hx4 hoff4 hX5 hown4))
        all_goals
          have HE := Lib.hid (HFIN.out w4 w5 kk5 dp5 HM4.out HX4.out hx5 hB5 hd5 he5 hN5)
          clear HFIN hx5 hB5 hd5 he5 hN5 z3 zf y0 y1 y2 y3 y4 HKR4 HM4 HX4 HOFF4 KG x0 x1 x2 x3 x4 x5 x0' x1' x2' x3' x4' x5' c3 c3'
          go_wp2_with fail
          go_roundw
          case rel => exact HE.out.1
          case measure => rw [HE.out.2]; show _ < lenO g wr; rw [HLEN.out, hon]; exact Nat.lt_succ_self _
end Go.Proofs.YtljkmdmbndjngaaGreat

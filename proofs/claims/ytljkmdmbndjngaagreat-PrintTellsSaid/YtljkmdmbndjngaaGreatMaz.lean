import Derived.Test.YtljkmdmbndjngaaGreatMay
import Derived.Test.YtljkmdmbndjngaaGreatMav
import Derived.Test.YtljkmdmbndjngaaGreatMaw
import Derived.Test.YtljkmdmbndjngaaGreatMam
import Derived.BigQuiet
/-
  The reference's line.
-/
namespace Go.Proofs.YtljkmdmbndjngaaGreat
set_option linter.unusedVariables false
set_option linter.unusedSimpArgs false
open Go.RowKit

theorem expr_all (ts : List Tk) (hf : Few ts) (hp : ∀ q ∈ pks ts, q.k = 3 ∨ q.k = 4 → q.t ≠ [123]) : ∀ m i, ts.length + 1 - i ≤ m → ExprAt ts i := by
  intro m
  induction m with
  | zero => exact fun i hi a n c W x r h hn hm hin => absurd hin (by omega)
  | succ m ih => exact fun i hi => expr_is ts i hf hp (fun j ch a n c W x r hj h hn hm hjn hR => closed_is ts j ch a n c W x r h hn hm hjn (ih j (by omega)) hR) (fun j hj => ih j (by omega))
theorem rexpr (ts : List Tk) (hf : Few ts) (hp : ∀ q ∈ pks ts, q.k = 3 ∨ q.k = 4 → q.t ≠ [123]) (i : Nat) : ExprAt ts i := expr_all ts hf hp _ i (Nat.le_refl _)
theorem pure_base {f : FuncId} {args : Array Value} {wb w : World} {v : Value} (hb : Below wb.heap.size wb w) (h : Calls Tryz.prog f args w (PureEnd v w)) : Calls Tryz.prog f args w fun e W' => e = .returned v ∧ Below wb.heap.size wb W' :=
  h.mono fun _ _ ⟨h1, h2⟩ => ⟨h1, h2 ▸ hb⟩
/-- What a line is, by its first two parts. -/
inductive Lc (M : List UInt8 → List UInt8) (ts : List Pk) (x : Option (List Tn)) (r : List Pk) : Prop
  | assign (h : isK 2 ts) (h2 : isMk 58 ts.tail) (x1 : Option (List Tn)) (h1 : Rd' M .expr (ts.drop 2) x1 r) (hx : x = x1.map (⟨5, [], [], tx0 ts, []⟩ :: ·))
  | defbad (h : isK 3 ts) (h2 : isMk 58 ts.tail) (h3 : ¬ isMk 123 (ts.drop 2)) (hx : x = none) (hr : r = ts.drop 2)
  | define (h : isK 3 ts) (h2 : isMk 58 ts.tail) (h3 : isMk 123 (ts.drop 2)) (x1 : Option (List Tn)) (h1 : Rd' M (.cl 125) (ts.drop 3) x1 r) (hx : x = x1.map (⟨7, [], [], tx0 ts, []⟩ :: ·))
  | amend (h : isK 2 ts) (h2 : isMk 91 ts.tail) (I : List Tn) (r1 : List Pk) (h1 : Rd' M (.cl 93) (ts.drop 2) (some I) r1) (h3 : isMk 58 r1) (x1 : Option (List Tn)) (h4 : Rd' M .expr r1.tail x1 r) (hx : x = x1.map fun X => ⟨6, [], [], tx0 ts, []⟩ :: (I ++ X))
  | index (h : isK 2 ts) (h2 : isMk 91 ts.tail) (x1 : Option (List Tn)) (r1 : List Pk) (h1 : Rd' M (.cl 93) (ts.drop 2) x1 r1) (h3 : x1 = none ∨ ¬ isMk 58 r1) (h4 : Rd' M .expr ts x r)
  | plain (h1 : ¬ (isK 2 ts ∧ (isMk 58 ts.tail ∨ isMk 91 ts.tail))) (h2 : ¬ (isK 3 ts ∧ isMk 58 ts.tail)) (h : Rd' M .expr ts x r)
theorem Ln.cases {M : List UInt8 → List UInt8} {ts r : List Pk} {x : Option (List Tn)} (h : Ln M ts x r) : Lc M ts x r := by
  have nv : ∀ {q : Pk} {l : List Pk}, q.k = 2 → ¬ isVb (q :: l) := by
    intro q l hq g
    rcases (show q.k = 3 ∨ q.k = 4 ∨ (q.k = 6 ∧ q.t = [123]) from g) with g | g | g <;> omega
  cases h with
  | assign h h2 ht h1 => exact .assign h ⟨h2, ht⟩ _ h1 rfl
  | defbad h h2 ht h1 => exact .defbad h ⟨h2, ht⟩ h1 rfl rfl
  | define h h2 ht h3 hb h1 => exact .define h ⟨h2, ht⟩ ⟨h3, hb⟩ _ h1 rfl
  | idxbad h h2 ht h1 => exact .index h ⟨h2, ht⟩ _ _ h1 (.inl rfl) (.e_bad (nv h) (.t_is (.m_word h) (.b_bad h2 ht h1)))
  | amend h h2 ht h1 h3 hd h4 => exact .amend h ⟨h2, ht⟩ _ _ h1 ⟨h3, hd⟩ _ h4 rfl
  | ixbad h h2 ht h1 h3 h4 => exact .index h ⟨h2, ht⟩ _ _ h1 (.inr h3) (.e_bad (nv h) (.t_is (.m_word h) (.b_is h2 ht h1 h4)))
  | index h h2 ht h1 h3 h4 h5 => exact .index h ⟨h2, ht⟩ _ _ h1 (.inr h3) (.e_term (nv h) (.t_is (.m_word h) (.b_is h2 ht h1 h4)) h5)
  | plain h1 h2 h => exact .plain h1 h2 h
theorem not_mk2 {l : List Pk} {b d : UInt8} (h : isMk b l) (hbd : b ≠ d) : ¬ isMk d l := by
  cases l with
  | nil => exact fun g => g
  | cons q l => exact fun g => hbd (by have e := h.2.symm.trans g.2; injection e)
/-- What the reference's line tells. -/
def LtEnd (x : Option (List Tn)) (i : Nat) (W : World) (e : Ending) (W' : World) : Prop :=
  ∃ a n c L, e = .returned (.agg #[.slice a n c, .int .i64 i, .bool x.isSome]) ∧ Nl W.heap.size W' a n c L ∧ n ≤ 5000 ∧ (∀ X, x = some X → L = X) ∧ Below W.heap.size W W'
set_option maxRecDepth 10000 in
set_option maxHeartbeats 6400000 in
theorem rline_is (ts : List Tk) (hf : Few ts) (hp : ∀ q ∈ pks ts, q.k = 3 ∨ q.k = 4 → q.t ≠ [123]) (a : Option Addr) (n c : Nat) (W : World) (x : Option (List Tn)) (r : List Pk) (h : Qs W a n (rtk ts)) (hn : n = ts.length) (hm : n ≤ 300) (hR : Ln numT (pks ts) x r) :
    Calls Tryz.prog 63 #[.slice a n c] W (LtEnd x (n - r.length) W) := by
  have hl : (pks ts).length = n := by rw [pks_len, hn]
  have htx : (tx0 (pks ts)).length ≤ 300 := by
    cases hd : pks ts with
    | nil => simp [tx0]
    | cons q l =>
      obtain ⟨t, ht, rfl⟩ := List.mem_map.1 (show q ∈ pks ts by rw [hd]; exact List.mem_cons_self)
      exact hf t ht
  obtain ⟨T0, hT⟩ : ∃ T, T = tx (tx0 (pks ts)) := ⟨_, rfl⟩
  have HTZ := Lib.hid (show T0.size ≤ maxLen by rw [hT, tx_size]; unfold maxLen; omega)
  have HTL := Lib.hid (show T0.data.toList = tx0 (pks ts) by rw [hT, tx_list])
  obtain ⟨W0, hW0⟩ : ∃ W0, W0 = W.alloc (.cells #[.slice none 0 0, .int .i64 0, .bool false] 87) := ⟨_, rfl⟩
  have hb0 : Below W.heap.size W W0 := by rw [hW0]; exact box_below W _
  have hR0 : Bk 87 W0 W.heap.size [.slice none 0 0, .int .i64 0, .bool false] := by rw [hW0]; exact Bk.new 87 W _
  have KT := Lib.hid (fun w (hb : Below W.heap.size W w) => (by have := rtext_is ts a n c w (h.below hb) hn (by omega) 0; rw [List.drop_zero, ← hT] at this; exact this : Calls Tryz.prog 85 #[.slice a n c, .int .i64 0] w (PureEnd (.string T0) w)))
  have K0 := (by have := rkind_is ts a n c W0 (h.below hb0) hn (by omega) 0; rw [List.drop_zero] at this; exact this : Calls Tryz.prog 81 #[.slice a n c, .int .i64 0] W0 (PureEnd (.int .i64 (kd0 (pks ts))) W0))
  have KM1 := (rmark_is ts a n c W0 (h.below hb0) hn (by omega) 1 ⟨#[58]⟩ : Calls Tryz.prog 82 #[.slice a n c, .int .i64 1, .string ⟨#[58]⟩] W0 (PureEnd (.bool (mkB ((pks ts).drop 1) [58])) W0))
  have KM2 := (rmark_is ts a n c W0 (h.below hb0) hn (by omega) 1 ⟨#[91]⟩ : Calls Tryz.prog 82 #[.slice a n c, .int .i64 1, .string ⟨#[91]⟩] W0 (PureEnd (.bool (mkB ((pks ts).drop 1) [91])) W0))
  have KM3 := (rmark_is ts a n c W0 (h.below hb0) hn (by omega) 2 ⟨#[123]⟩ : Calls Tryz.prog 82 #[.slice a n c, .int .i64 2, .string ⟨#[123]⟩] W0 (PureEnd (.bool (mkB ((pks ts).drop 2) [123])) W0))
  have KM := Lib.hid (fun w (hb : Below W.heap.size W w) (j : Nat) => (rmark_is ts a n c w (h.below hb) hn (by omega) j ⟨#[58]⟩ : Calls Tryz.prog 82 #[.slice a n c, .int .i64 j, .string ⟨#[58]⟩] w (PureEnd (.bool (mkB ((pks ts).drop j) [58])) w)))
  have KE := Lib.hid (fun w (hb : Below W.heap.size W w) (i : Nat) x1 r1 (hi : i ≤ n) h1 => rexpr ts hf hp i a n c w x1 r1 (h.below hb) hn hm hi h1)
  have KC := Lib.hid (fun w (hb : Below W.heap.size W w) (i : Nat) ch x1 r1 (hi : i ≤ n) h1 => closed_is ts i ch a n c w x1 r1 (h.below hb) hn hm hi (rexpr ts hf hp i) h1)
  have hcase := hR.cases
  obtain ⟨p, hpp⟩ : ∃ p, p = n - r.length := ⟨_, rfl⟩
  rw [← hpp]
  have HP := Lib.hid hpp
  have HL := Lib.hid hl
  have HRw := Lib.hid hR0
  have HBw := Lib.hid hb0
  have HW0 := Lib.hid hW0
  have ltail : ∀ l : List Pk, l.tail = l.drop 1 := fun l => by simp
  have two : ∀ c, isMk c (pks ts).tail → 2 ≤ n := fun c g => by
    rw [← hl]
    cases hd : pks ts with
    | nil => rw [hd] at g; exact g.elim
    | cons q l =>
      rw [hd] at g
      cases l with
      | nil => exact g.elim
      | cons w l => simp
  clear hR hf hp h hn hl hpp hR0 hb0 htx hT hW0
  rcases hcase with ⟨hk, hk2, x1, h1, hxm⟩ | ⟨hk, hk2, h3, hxm, hr⟩ | ⟨hk, hk2, h3, x1, h1, hxm⟩ | ⟨hk, hk2, I, r1, h1, h3, x1, h4, hxm⟩ | ⟨hk, hk2, x1, r1, h1, h3, h4⟩ | ⟨hk, hk9, h4⟩
  · have h2n := two _ hk2
    rw [(kd0_yes (by decide)).2 hk] at K0
    rw [← ltail, mkB_yes.2 hk2] at KM1
    have A1 := KE.out W0 HBw.out 2 x1 r h2n h1
    rw [← HP.out] at A1
    replace A1 := Lib.hid A1
    replace K0 := Lib.hid K0
    replace KM1 := Lib.hid KM1
    have HXM := Lib.hid hxm
    clear KM2 KM3 h1 hxm hk hk2 two ltail KE KC KM
    go_enter Tryz.func63, Tryz.ntmps63
    go_wp2_with fail
    rw [← HW0.out]
    refine K0.out.mono ?_
    rintro e w9 ⟨rfl, rfl⟩
    rw [HW0.out]
    go_wp2_with fail
    rw [← HW0.out]
    refine KM1.out.mono ?_
    rintro e w9 ⟨rfl, rfl⟩
    rw [HW0.out]
    go_wp2_with fail
    rw [← HW0.out]
    refine A1.out.mono ?_
    rintro e w1 ⟨a1, n1, c1, L1, rfl, hL1, hn1, hx1, hb1⟩
    obtain ⟨y, hy⟩ : ∃ y, y = w1.heap.size := ⟨_, rfl⟩
    have hY := Bk.new' 87 w1 hy [.slice a1 n1 c1, .int .i64 p, .bool x1.isSome]
    have hbx := box_below w1 (.cells #[.slice a1 n1 c1, .int .i64 p, .bool x1.isSome] 87)
    obtain ⟨wz, hwz⟩ : ∃ wz, wz = w1.alloc (.cells #[.slice a1 n1 c1, .int .i64 p, .bool x1.isSome] 87) := ⟨_, rfl⟩
    rw [← hwz] at hY hbx
    have h1z := hb1.trans (hbx.mono hb1.size)
    have HRz := Lib.hid (HRw.out.on h1z)
    have HBz := Lib.hid (HBw.out.trans (h1z.mono HBw.out.size))
    have HLz := Lib.hid ((hL1.base HBw.out.size).below hbx)
    have HYz := Lib.hid hY
    have HWz := Lib.hid hwz
    have HYy := Lib.hid hy
    have HX1 := Lib.hid hx1
    have hww : W.heap.size < wz.heap.size := HRz.out.lt
    have hyl : y < wz.heap.size := hY.lt
    have hyW : W.heap.size < y := by have := HBw.out.size; have := hb1.size; have := HRw.out.lt; omega
    have ney : y ≠ W.heap.size := by omega
    have KN := Lib.hid (fun w' (hb : Below wz.heap.size wz w') => (node_base hb (by have := rnode_is W.heap.size (headN 5 T0) a1 none none n1 c1 0 0 0 0 L1 [] [] w' (Nat.le_trans (Nat.le_of_lt hww) hb.size) rfl (headN_on 5 T0 w' HTZ.out (by omega) (by omega)) (HLz.out.below hb) (Nl.nil _ _) (Nl.nil _ _) (by omega) (by omega) (by omega); rw [List.append_nil, List.append_nil] at this; exact this) : Calls Tryz.prog 84 #[.agg #[.int .i64 5, .string ⟨#[]⟩, .string ⟨#[]⟩, .string T0, .slice none 0 0], .slice a1 n1 c1, .slice none 0 0, .slice none 0 0] w' fun e W' => ∃ a n c, e = .returned (.slice a n c) ∧ Nl W.heap.size W' a n c (⟨5, [], [], T0.data.toList, []⟩ :: L1) ∧ Below wz.heap.size wz W'))
    have KT0 := Lib.hid (fun w' (hb : Below wz.heap.size wz w') => pure_base hb (KT.out w' (HBz.out.trans (hb.mono HBz.out.size))))
    have z0 := HYz.out.p0
    have z1 := HYz.out.p1
    have z2 := HYz.out.p2
    clear hL1 hx1 hb1 hbx h1z hY hwz hy
    rw [HWz.out, HYy.out] at z0 z1 z2
    go_wp2_with fail
    rw [← HWz.out, ← HYy.out]
    clear z0 z1 z2
    have z0 := HYz.out.p0
    have z1 := HYz.out.p1
    have z2 := HYz.out.p2
    have hq : Below wz.heap.size wz wz := Below.refl _ _
    go_region_held3 (fun w' => w'.cell? ⟨y, 0, none⟩ = some (.slice a1 n1 c1) ∧ w'.cell? ⟨y, 1, none⟩ = some (.int .i64 p) ∧ w'.cell? ⟨y, 2, none⟩ = some (.bool x1.isSome))
      (first | exact ⟨(by (repeat (first | with_reducible refine cell_far ney ?_ | with_reducible refine cell_drewx ?_)); exact ((Below.cell (p := ⟨y, 0, none⟩) (by repeat' (first | exact hq | refine Below.drew ?_)) hyl).trans z0)), (by (repeat (first | with_reducible refine cell_far ney ?_ | with_reducible refine cell_drewx ?_)); exact ((Below.cell (p := ⟨y, 1, none⟩) (by repeat' (first | exact hq | refine Below.drew ?_)) hyl).trans z1)), (by (repeat (first | with_reducible refine cell_far ney ?_ | with_reducible refine cell_drewx ?_)); exact ((Below.cell (p := ⟨y, 2, none⟩) (by repeat' (first | exact hq | refine Below.drew ?_)) hyl).trans z2))⟩ | fail)
      (first
        | (go_at_call 85; (with_reducible refine (KT0.out _ (by repeat' (first | exact hq | refine Below.drew ?_))).mono ?_); rintro e wt ⟨rfl, hq⟩)
        | (go_at_call 84; (with_reducible refine (KN.out _ (by repeat' (first | exact hq | refine Below.drew ?_))).mono ?_); rintro e wa ⟨a9, n9, c9, rfl, hN9, hq⟩; have hRa := HRz.out.below hq hww; have fa0 := hRa.f 0; have fa1 := hRa.f 1; have fa2 := hRa.f 2; have ca0 := hRa.p0; have ca1 := hRa.p1; have ca2 := hRa.p2))
    have hn9 := hN9.len
    have HN10 := Lib.hid (hN9.fill (a' := a9) (n' := n9) (c' := c9) (i' := (p : Int)) (b' := x1.isSome) hRa)
    have HB9 := Lib.hid (below3 (HBz.out.trans (hq.mono (Nat.le_of_lt hww))) (Nat.le_refl _) (.slice a9 n9 c9) (.int .i64 (p : Int)) (.bool x1.isSome))
    have hlz := HLz.out.len
    have hn99 : n9 ≤ 5000 := by rw [← hn9]; simp only [List.length_cons, List.length_append]; omega
    have HRA := Lib.hid hRa
    clear hn9 hlz hN9 hRa fa0 fa1 fa2 ca0 ca1 ca2 hq
    go_wp2_with fail
    have hRR := HRA.out.set3 (.slice a9 n9 c9) (.int .i64 (p : Int)) (.bool x1.isSome)
    have o0 := hRR.p0
    have o1 := hRR.p1
    have o2 := hRR.p2
    exact bodyPost_ret (v := .agg #[.slice a9 n9 c9, .int .i64 (p : Int), .bool x1.isSome]) (by simp [results, Tryz.results63, go_sem, o0, o1, o2]) rfl ⟨_, _, _, _, by rw [HXM.out, Option.isSome_map], HN10.out, hn99, (fun X hX => by rw [HXM.out] at hX; cases x1 with | none => cases hX | some Y => cases hX; rw [HX1.out Y rfl, HTL.out]), HB9.out⟩
  · have h2n := two _ hk2
    have hk23 : kd0 (pks ts) = 3 := (kd0_yes (by decide)).2 hk
    rw [hk23] at K0
    rw [← ltail, mkB_yes.2 hk2] at KM1
    rw [mkB_no h3] at KM3
    have hp2 : p = 2 := by rw [HP.out, hr, List.length_drop, HL.out]; omega
    subst hxm hp2
    replace K0 := Lib.hid K0
    replace KM1 := Lib.hid KM1
    replace KM3 := Lib.hid KM3
    clear KM2 hk hk2 two ltail KE KC KM hk23 h3 hr
    have u0 := HRw.out.p0
    have u1 := HRw.out.p1
    have u2 := HRw.out.p2
    have fu0 := HRw.out.f 0
    have fu1 := HRw.out.f 1
    have fu2 := HRw.out.f 2
    rw [HW0.out] at u0 u1 u2 fu0 fu1 fu2
    go_enter Tryz.func63, Tryz.ntmps63
    go_wp2_with fail
    rw [← HW0.out]
    refine K0.out.mono ?_
    rintro e w9 ⟨rfl, rfl⟩
    rw [HW0.out]
    go_wp2_with fail
    rw [← HW0.out]
    refine K0.out.mono ?_
    rintro e w9 ⟨rfl, rfl⟩
    rw [HW0.out]
    go_wp2_with fail
    rw [← HW0.out]
    refine KM1.out.mono ?_
    rintro e w9 ⟨rfl, rfl⟩
    rw [HW0.out]
    go_wp2_with fail
    rw [← HW0.out]
    refine KM3.out.mono ?_
    rintro e w9 ⟨rfl, rfl⟩
    rw [HW0.out]
    go_wp2_with fail
    have hRR := Bk.new 87 W [.slice none 0 0, .int .i64 2, .bool false]
    have o0 := hRR.p0
    have o1 := hRR.p1
    have o2 := hRR.p2
    exact bodyPost_ret (v := .agg #[.slice none 0 0, .int .i64 2, .bool false]) (by simp [results, Tryz.results63, go_sem, o0, o1, o2]) rfl ⟨_, _, _, [], rfl, Nl.nil _ _, by omega, (fun X hX => by cases hX), box_below W _⟩
  · have h2n := two _ hk2
    have h3n : 3 ≤ n := by
      rcases Nat.lt_or_ge 2 n with h9 | h9
      · omega
      · rw [List.drop_eq_nil_of_le (by rw [HL.out]; exact h9)] at h3
        exact h3.elim
    have hk23 : kd0 (pks ts) = 3 := (kd0_yes (by decide)).2 hk
    rw [hk23] at K0
    rw [← ltail, mkB_yes.2 hk2] at KM1
    rw [mkB_yes.2 h3] at KM3
    have A1 := (KC.out W0 HBw.out 3 125 x1 r h3n h1 : Calls Tryz.prog 86 #[.slice a n c, .int .i64 3, .string ⟨#[125]⟩] W0 (GtEnd x1 (n - r.length) W0))
    rw [← HP.out] at A1
    replace A1 := Lib.hid A1
    replace K0 := Lib.hid K0
    replace KM1 := Lib.hid KM1
    replace KM3 := Lib.hid KM3
    have HXM := Lib.hid hxm
    clear KM2 h1 hxm hk hk2 two ltail KE KC KM hk23 h3
    go_enter Tryz.func63, Tryz.ntmps63
    go_wp2_with fail
    rw [← HW0.out]
    refine K0.out.mono ?_
    rintro e w9 ⟨rfl, rfl⟩
    rw [HW0.out]
    go_wp2_with fail
    rw [← HW0.out]
    refine K0.out.mono ?_
    rintro e w9 ⟨rfl, rfl⟩
    rw [HW0.out]
    go_wp2_with fail
    rw [← HW0.out]
    refine KM1.out.mono ?_
    rintro e w9 ⟨rfl, rfl⟩
    rw [HW0.out]
    go_wp2_with fail
    rw [← HW0.out]
    refine KM3.out.mono ?_
    rintro e w9 ⟨rfl, rfl⟩
    rw [HW0.out]
    go_wp2_with fail
    rw [← HW0.out]
    refine A1.out.mono ?_
    rintro e w1 ⟨a1, n1, c1, L1, rfl, hL1, hn1, hx1, hb1⟩
    obtain ⟨y, hy⟩ : ∃ y, y = w1.heap.size := ⟨_, rfl⟩
    have hY := Bk.new' 87 w1 hy [.slice a1 n1 c1, .int .i64 p, .bool x1.isSome]
    have hbx := box_below w1 (.cells #[.slice a1 n1 c1, .int .i64 p, .bool x1.isSome] 87)
    obtain ⟨wz, hwz⟩ : ∃ wz, wz = w1.alloc (.cells #[.slice a1 n1 c1, .int .i64 p, .bool x1.isSome] 87) := ⟨_, rfl⟩
    rw [← hwz] at hY hbx
    have h1z := hb1.trans (hbx.mono hb1.size)
    have HRz := Lib.hid (HRw.out.on h1z)
    have HBz := Lib.hid (HBw.out.trans (h1z.mono HBw.out.size))
    have HLz := Lib.hid ((hL1.base HBw.out.size).below hbx)
    have HYz := Lib.hid hY
    have HWz := Lib.hid hwz
    have HYy := Lib.hid hy
    have HX1 := Lib.hid hx1
    have hww : W.heap.size < wz.heap.size := HRz.out.lt
    have hyl : y < wz.heap.size := hY.lt
    have hyW : W.heap.size < y := by have := HBw.out.size; have := hb1.size; have := HRw.out.lt; omega
    have ney : y ≠ W.heap.size := by omega
    have KN := Lib.hid (fun w' (hb : Below wz.heap.size wz w') => (node_base hb (by have := rnode_is W.heap.size (headN 7 T0) a1 none none n1 c1 0 0 0 0 L1 [] [] w' (Nat.le_trans (Nat.le_of_lt hww) hb.size) rfl (headN_on 7 T0 w' HTZ.out (by omega) (by omega)) (HLz.out.below hb) (Nl.nil _ _) (Nl.nil _ _) (by omega) (by omega) (by omega); rw [List.append_nil, List.append_nil] at this; exact this) : Calls Tryz.prog 84 #[.agg #[.int .i64 7, .string ⟨#[]⟩, .string ⟨#[]⟩, .string T0, .slice none 0 0], .slice a1 n1 c1, .slice none 0 0, .slice none 0 0] w' fun e W' => ∃ a n c, e = .returned (.slice a n c) ∧ Nl W.heap.size W' a n c (⟨7, [], [], T0.data.toList, []⟩ :: L1) ∧ Below wz.heap.size wz W'))
    have KT0 := Lib.hid (fun w' (hb : Below wz.heap.size wz w') => pure_base hb (KT.out w' (HBz.out.trans (hb.mono HBz.out.size))))
    have z0 := HYz.out.p0
    have z1 := HYz.out.p1
    have z2 := HYz.out.p2
    clear hL1 hx1 hb1 hbx h1z hY hwz hy
    rw [HWz.out, HYy.out] at z0 z1 z2
    go_wp2_with fail
    rw [← HWz.out, ← HYy.out]
    clear z0 z1 z2
    have z0 := HYz.out.p0
    have z1 := HYz.out.p1
    have z2 := HYz.out.p2
    have hq : Below wz.heap.size wz wz := Below.refl _ _
    go_region_held3 (fun w' => w'.cell? ⟨y, 0, none⟩ = some (.slice a1 n1 c1) ∧ w'.cell? ⟨y, 1, none⟩ = some (.int .i64 p) ∧ w'.cell? ⟨y, 2, none⟩ = some (.bool x1.isSome))
      (first | exact ⟨(by (repeat (first | with_reducible refine cell_far ney ?_ | with_reducible refine cell_drewx ?_)); exact ((Below.cell (p := ⟨y, 0, none⟩) (by repeat' (first | exact hq | refine Below.drew ?_)) hyl).trans z0)), (by (repeat (first | with_reducible refine cell_far ney ?_ | with_reducible refine cell_drewx ?_)); exact ((Below.cell (p := ⟨y, 1, none⟩) (by repeat' (first | exact hq | refine Below.drew ?_)) hyl).trans z1)), (by (repeat (first | with_reducible refine cell_far ney ?_ | with_reducible refine cell_drewx ?_)); exact ((Below.cell (p := ⟨y, 2, none⟩) (by repeat' (first | exact hq | refine Below.drew ?_)) hyl).trans z2))⟩ | fail)
      (first
        | (go_at_call 85; (with_reducible refine (KT0.out _ (by repeat' (first | exact hq | refine Below.drew ?_))).mono ?_); rintro e wt ⟨rfl, hq⟩)
        | (go_at_call 84; (with_reducible refine (KN.out _ (by repeat' (first | exact hq | refine Below.drew ?_))).mono ?_); rintro e wa ⟨a9, n9, c9, rfl, hN9, hq⟩; have hRa := HRz.out.below hq hww; have fa0 := hRa.f 0; have fa1 := hRa.f 1; have fa2 := hRa.f 2; have ca0 := hRa.p0; have ca1 := hRa.p1; have ca2 := hRa.p2))
    have hn9 := hN9.len
    have HN10 := Lib.hid (hN9.fill (a' := a9) (n' := n9) (c' := c9) (i' := (p : Int)) (b' := x1.isSome) hRa)
    have HB9 := Lib.hid (below3 (HBz.out.trans (hq.mono (Nat.le_of_lt hww))) (Nat.le_refl _) (.slice a9 n9 c9) (.int .i64 (p : Int)) (.bool x1.isSome))
    have hlz := HLz.out.len
    have hn99 : n9 ≤ 5000 := by rw [← hn9]; simp only [List.length_cons, List.length_append]; omega
    have HRA := Lib.hid hRa
    clear hn9 hlz hN9 hRa fa0 fa1 fa2 ca0 ca1 ca2 hq
    go_wp2_with fail
    have hRR := HRA.out.set3 (.slice a9 n9 c9) (.int .i64 (p : Int)) (.bool x1.isSome)
    have o0 := hRR.p0
    have o1 := hRR.p1
    have o2 := hRR.p2
    exact bodyPost_ret (v := .agg #[.slice a9 n9 c9, .int .i64 (p : Int), .bool x1.isSome]) (by simp [results, Tryz.results63, go_sem, o0, o1, o2]) rfl ⟨_, _, _, _, by rw [HXM.out, Option.isSome_map], HN10.out, hn99, (fun X hX => by rw [HXM.out] at hX; cases x1 with | none => cases hX | some Y => cases hX; rw [HX1.out Y rfl, HTL.out]), HB9.out⟩
  · have h2n := two _ hk2
    rw [(kd0_yes (by decide)).2 hk] at K0
    rw [← ltail, mkB_no (not_mk2 hk2 (by decide))] at KM1
    rw [← ltail, mkB_yes.2 hk2] at KM2
    have A1 := (KC.out W0 HBw.out 2 93 (some I) r1 h2n h1 : Calls Tryz.prog 86 #[.slice a n c, .int .i64 2, .string ⟨#[93]⟩] W0 (GtEnd (some I) (n - r1.length) W0))
    obtain ⟨e1, hj1⟩ := suf_drop h1.suffix (by rw [HL.out]; exact h2n)
    rw [HL.out] at e1 hj1
    obtain ⟨q, hq⟩ : ∃ q, q = n - r1.length := ⟨_, rfl⟩
    rw [← hq] at A1 e1 hj1
    have hqn : q + 1 ≤ n := by
      rcases Nat.lt_or_ge q n with h9 | h9
      · omega
      · rw [e1, List.drop_eq_nil_of_le (by rw [HL.out]; exact h9)] at h3
        exact h3.elim
    have et : r1.tail = (pks ts).drop (q + 1) := by rw [e1, ltail, List.drop_drop]
    replace A1 := Lib.hid A1
    replace K0 := Lib.hid K0
    replace KM1 := Lib.hid KM1
    replace KM2 := Lib.hid KM2
    have HXM := Lib.hid hxm
    have H4 := Lib.hid (show Rd' numT .expr ((pks ts).drop (q + 1)) x1 r by rw [← et]; exact h4)
    have H3 := Lib.hid (show mkB ((pks ts).drop q) [58] = true by rw [← e1]; exact mkB_yes.2 h3)
    clear KM3 h1 hxm hk hk2 two ltail KC h3 h4 e1 hq et
    go_enter Tryz.func63, Tryz.ntmps63
    go_wp2_with fail
    rw [← HW0.out]
    refine K0.out.mono ?_
    rintro e w9 ⟨rfl, rfl⟩
    rw [HW0.out]
    go_wp2_with fail
    rw [← HW0.out]
    refine KM1.out.mono ?_
    rintro e w9 ⟨rfl, rfl⟩
    rw [HW0.out]
    go_wp2_with fail
    rw [← HW0.out]
    refine K0.out.mono ?_
    rintro e w9 ⟨rfl, rfl⟩
    rw [HW0.out]
    go_wp2_with fail
    rw [← HW0.out]
    refine K0.out.mono ?_
    rintro e w9 ⟨rfl, rfl⟩
    rw [HW0.out]
    go_wp2_with fail
    rw [← HW0.out]
    refine KM2.out.mono ?_
    rintro e w9 ⟨rfl, rfl⟩
    rw [HW0.out]
    go_wp2_with fail
    rw [← HW0.out]
    refine A1.out.mono ?_
    rintro e w1w ⟨a1w, n1w, c1w, L1w, rfl, hL1w, hn1w, hx1w, hb1w⟩
    obtain ⟨yw, hyw⟩ : ∃ y, y = w1w.heap.size := ⟨_, rfl⟩
    have hYw := Bk.new' 87 w1w hyw [.slice a1w n1w c1w, .int .i64 q, .bool (some I).isSome]
    have hbxw := box_below w1w (.cells #[.slice a1w n1w c1w, .int .i64 q, .bool (some I).isSome] 87)
    obtain ⟨wzw, hwzw⟩ : ∃ wz, wz = w1w.alloc (.cells #[.slice a1w n1w c1w, .int .i64 q, .bool (some I).isSome] 87) := ⟨_, rfl⟩
    rw [← hwzw] at hYw hbxw
    have h1zw := hb1w.trans (hbxw.mono hb1w.size)
    have HRzw := Lib.hid (HRw.out.on h1zw)
    have HBzw := Lib.hid (HBw.out.trans (h1zw.mono HBw.out.size))
    have HLzw := Lib.hid ((hL1w.base HBw.out.size).below hbxw)
    have HYzw := Lib.hid hYw
    have HWzw := Lib.hid hwzw
    have HYyw := Lib.hid hyw
    have HX1w := Lib.hid hx1w
    have hwww : W.heap.size < wzw.heap.size := HRzw.out.lt
    have hylw : yw < wzw.heap.size := hYw.lt
    have hyWw : W.heap.size < yw := by have := HBw.out.size; have := hb1w.size; have := HRw.out.lt; omega
    have neyw : yw ≠ W.heap.size := by omega
    obtain rfl : L1w = I := HX1w.out I rfl
    rw [Option.isSome_some] at *
    have M1 := KM.out wzw HBzw.out q
    rw [H3.out] at M1
    replace M1 := Lib.hid M1
    have A2 := KE.out wzw HBzw.out (q + 1) x1 r hqn H4.out
    rw [← HP.out, Int.natCast_add] at A2
    replace A2 := Lib.hid (show Calls Tryz.prog 83 #[.slice a n c, .int .i64 ((q : Int) + 1)] wzw (GtEnd x1 p wzw) from A2)
    have z0 := HYzw.out.p0
    have z1 := HYzw.out.p1
    have z2 := HYzw.out.p2
    clear hL1w hx1w hb1w hbxw h1zw hYw hwzw hyw KM KE H3 H4 A1
    rw [HWzw.out, HYyw.out] at z0 z1 z2
    go_wp2_with fail
    rw [← HWzw.out]
    refine M1.out.mono ?_
    rintro e w9 ⟨rfl, rfl⟩
    rw [HWzw.out]
    go_wp2_with fail
    rw [← HWzw.out]
    clear z0 z1 z2
    refine A2.out.mono ?_
    rintro e w1 ⟨a1, n1, c1, L1, rfl, hL1, hn1, hx1, hb1⟩
    obtain ⟨y, hy⟩ : ∃ y, y = w1.heap.size := ⟨_, rfl⟩
    have hY := Bk.new' 87 w1 hy [.slice a1 n1 c1, .int .i64 p, .bool x1.isSome]
    have hbx := box_below w1 (.cells #[.slice a1 n1 c1, .int .i64 p, .bool x1.isSome] 87)
    obtain ⟨wz, hwz⟩ : ∃ wz, wz = w1.alloc (.cells #[.slice a1 n1 c1, .int .i64 p, .bool x1.isSome] 87) := ⟨_, rfl⟩
    rw [← hwz] at hY hbx
    have h1z := hb1.trans (hbx.mono hb1.size)
    have HRz := Lib.hid (HRzw.out.on h1z)
    have HBz := Lib.hid (HBzw.out.trans (h1z.mono HBzw.out.size))
    have HLz := Lib.hid ((hL1.base HBzw.out.size).below hbx)
    have HYz := Lib.hid hY
    have HWz := Lib.hid hwz
    have HYy := Lib.hid hy
    have HX1 := Lib.hid hx1
    have hww : W.heap.size < wz.heap.size := HRz.out.lt
    have hyl : y < wz.heap.size := hY.lt
    have hyW : W.heap.size < y := by have := HBzw.out.size; have := hb1.size; have := HRzw.out.lt; omega
    have ney : y ≠ W.heap.size := by omega
    have HLw := Lib.hid (HLzw.out.below h1z)
    have HYw := Lib.hid (HYzw.out.on h1z)
    have hywl : yw < wz.heap.size := HYw.out.lt
    have KN := Lib.hid (fun w' (hb : Below wz.heap.size wz w') => (node_base hb (by have := rnode_is W.heap.size (headN 6 T0) a1w a1 none n1w c1w n1 c1 0 0 L1w L1 [] w' (Nat.le_trans (Nat.le_of_lt hww) hb.size) rfl (headN_on 6 T0 w' HTZ.out (by omega) (by omega)) (HLw.out.below hb) (HLz.out.below hb) (Nl.nil _ _) (by omega) (by omega) (by omega); rw [List.append_nil] at this; exact this) : Calls Tryz.prog 84 #[.agg #[.int .i64 6, .string ⟨#[]⟩, .string ⟨#[]⟩, .string T0, .slice none 0 0], .slice a1w n1w c1w, .slice a1 n1 c1, .slice none 0 0] w' fun e W' => ∃ a n c, e = .returned (.slice a n c) ∧ Nl W.heap.size W' a n c (⟨6, [], [], T0.data.toList, []⟩ :: (L1w ++ L1)) ∧ Below wz.heap.size wz W'))
    have KT0 := Lib.hid (fun w' (hb : Below wz.heap.size wz w') => pure_base hb (KT.out w' (HBz.out.trans (hb.mono HBz.out.size))))
    have z0 := HYz.out.p0
    have z1 := HYz.out.p1
    have z2 := HYz.out.p2
    have x0 := HYw.out.p0
    have hlw := HLw.out.len
    clear hL1 hx1 hb1 hbx h1z hY hwz hy
    have HWH := Lib.hid (⟨HWz.out, HYy.out⟩ : wz = _ ∧ y = _)
    rw [HWz.out, HYy.out] at z0 z1 z2
    go_wp2_with fail
    rw [← HWz.out, ← HYy.out, ← HYyw.out]
    clear z0 z1 z2 x0
    have z0 := HYz.out.p0
    have z1 := HYz.out.p1
    have z2 := HYz.out.p2
    have x0 := HYw.out.p0
    have hq : Below wz.heap.size wz wz := Below.refl _ _
    go_region_held3 (fun w' => w'.cell? ⟨yw, 0, none⟩ = some (.slice a1w n1w c1w) ∧ w'.cell? ⟨y, 0, none⟩ = some (.slice a1 n1 c1) ∧ w'.cell? ⟨y, 1, none⟩ = some (.int .i64 p) ∧ w'.cell? ⟨y, 2, none⟩ = some (.bool x1.isSome))
      (first | exact ⟨(by (repeat (first | with_reducible refine cell_far neyw ?_ | with_reducible refine cell_drewx ?_)); exact ((Below.cell (p := ⟨yw, 0, none⟩) (by repeat' (first | exact hq | refine Below.drew ?_)) hywl).trans x0)), (by (repeat (first | with_reducible refine cell_far ney ?_ | with_reducible refine cell_drewx ?_)); exact ((Below.cell (p := ⟨y, 0, none⟩) (by repeat' (first | exact hq | refine Below.drew ?_)) hyl).trans z0)), (by (repeat (first | with_reducible refine cell_far ney ?_ | with_reducible refine cell_drewx ?_)); exact ((Below.cell (p := ⟨y, 1, none⟩) (by repeat' (first | exact hq | refine Below.drew ?_)) hyl).trans z1)), (by (repeat (first | with_reducible refine cell_far ney ?_ | with_reducible refine cell_drewx ?_)); exact ((Below.cell (p := ⟨y, 2, none⟩) (by repeat' (first | exact hq | refine Below.drew ?_)) hyl).trans z2))⟩ | fail)
      (first
        | (go_at_call 85; (with_reducible refine (KT0.out _ (by repeat' (first | exact hq | refine Below.drew ?_))).mono ?_); rintro e wt ⟨rfl, hq⟩)
        | (go_at_call 84; (with_reducible refine (KN.out _ (by repeat' (first | exact hq | refine Below.drew ?_))).mono ?_); rintro e wa ⟨a9, n9, c9, rfl, hN9, hq⟩; have hRa := HRz.out.below hq hww; have fa0 := hRa.f 0; have fa1 := hRa.f 1; have fa2 := hRa.f 2; have ca0 := hRa.p0; have ca1 := hRa.p1; have ca2 := hRa.p2))
    have hn9 := hN9.len
    have HN10 := Lib.hid (hN9.fill (a' := a9) (n' := n9) (c' := c9) (i' := (p : Int)) (b' := x1.isSome) hRa)
    have HB9 := Lib.hid (below3 (HBz.out.trans (hq.mono (Nat.le_of_lt hww))) (Nat.le_refl _) (.slice a9 n9 c9) (.int .i64 (p : Int)) (.bool x1.isSome))
    have hlz := HLz.out.len
    have hn99 : n9 ≤ 5000 := by rw [← hn9]; simp only [List.length_cons, List.length_append]; omega
    have HRA := Lib.hid hRa
    clear hn9 hlz hN9 hRa fa0 fa1 fa2 ca0 ca1 ca2 hq
    go_wp2_with fail
    have hRR := HRA.out.set3 (.slice a9 n9 c9) (.int .i64 (p : Int)) (.bool x1.isSome)
    have o0 := hRR.p0
    have o1 := hRR.p1
    have o2 := hRR.p2
    exact bodyPost_ret (v := .agg #[.slice a9 n9 c9, .int .i64 (p : Int), .bool x1.isSome]) (by simp [results, Tryz.results63, go_sem, o0, o1, o2]) rfl ⟨_, _, _, _, by rw [HXM.out, Option.isSome_map], HN10.out, hn99, (fun X hX => by rw [HXM.out] at hX; cases x1 with | none => cases hX | some Y => cases hX; rw [HX1.out Y rfl, HTL.out]), HB9.out⟩
  · have h2n := two _ hk2
    rw [(kd0_yes (by decide)).2 hk] at K0
    rw [← ltail, mkB_no (not_mk2 hk2 (by decide))] at KM1
    rw [← ltail, mkB_yes.2 hk2] at KM2
    have A1 := (KC.out W0 HBw.out 2 93 x1 r1 h2n h1 : Calls Tryz.prog 86 #[.slice a n c, .int .i64 2, .string ⟨#[93]⟩] W0 (GtEnd x1 (n - r1.length) W0))
    obtain ⟨e1, hj1⟩ := suf_drop h1.suffix (by rw [HL.out]; exact h2n)
    rw [HL.out] at e1 hj1
    obtain ⟨q, hq⟩ : ∃ q, q = n - r1.length := ⟨_, rfl⟩
    rw [← hq] at A1 e1 hj1
    replace A1 := Lib.hid A1
    replace K0 := Lib.hid K0
    replace KM1 := Lib.hid KM1
    replace KM2 := Lib.hid KM2
    have H3 := Lib.hid (show x1 = none ∨ mkB ((pks ts).drop q) [58] = false by rw [← e1]; exact h3.imp id mkB_no)
    have H4 := Lib.hid (show Rd' numT .expr ((pks ts).drop 0) x r from h4)
    clear KM3 h1 hk hk2 two ltail KC h3 h4 e1 hq
    go_enter Tryz.func63, Tryz.ntmps63
    go_wp2_with fail
    rw [← HW0.out]
    refine K0.out.mono ?_
    rintro e w9 ⟨rfl, rfl⟩
    rw [HW0.out]
    go_wp2_with fail
    rw [← HW0.out]
    refine KM1.out.mono ?_
    rintro e w9 ⟨rfl, rfl⟩
    rw [HW0.out]
    go_wp2_with fail
    rw [← HW0.out]
    refine K0.out.mono ?_
    rintro e w9 ⟨rfl, rfl⟩
    rw [HW0.out]
    go_wp2_with fail
    rw [← HW0.out]
    refine K0.out.mono ?_
    rintro e w9 ⟨rfl, rfl⟩
    rw [HW0.out]
    go_wp2_with fail
    rw [← HW0.out]
    refine KM2.out.mono ?_
    rintro e w9 ⟨rfl, rfl⟩
    rw [HW0.out]
    go_wp2_with fail
    rw [← HW0.out]
    refine A1.out.mono ?_
    rintro e w1w ⟨a1w, n1w, c1w, L1w, rfl, hL1w, hn1w, hx1w, hb1w⟩
    obtain ⟨yw, hyw⟩ : ∃ y, y = w1w.heap.size := ⟨_, rfl⟩
    have hYw := Bk.new' 87 w1w hyw [.slice a1w n1w c1w, .int .i64 q, .bool x1.isSome]
    have hbxw := box_below w1w (.cells #[.slice a1w n1w c1w, .int .i64 q, .bool x1.isSome] 87)
    obtain ⟨wzw, hwzw⟩ : ∃ wz, wz = w1w.alloc (.cells #[.slice a1w n1w c1w, .int .i64 q, .bool x1.isSome] 87) := ⟨_, rfl⟩
    rw [← hwzw] at hYw hbxw
    have h1zw := hb1w.trans (hbxw.mono hb1w.size)
    have HRzw := Lib.hid (HRw.out.on h1zw)
    have HBzw := Lib.hid (HBw.out.trans (h1zw.mono HBw.out.size))
    have HLzw := Lib.hid ((hL1w.base HBw.out.size).below hbxw)
    have HYzw := Lib.hid hYw
    have HWzw := Lib.hid hwzw
    have HYyw := Lib.hid hyw
    have HX1w := Lib.hid hx1w
    have hwww : W.heap.size < wzw.heap.size := HRzw.out.lt
    have hylw : yw < wzw.heap.size := hYw.lt
    have hyWw : W.heap.size < yw := by have := HBw.out.size; have := hb1w.size; have := HRw.out.lt; omega
    have neyw : yw ≠ W.heap.size := by omega
    have M1 := KM.out wzw HBzw.out q
    have A2 := (KE.out wzw HBzw.out 0 x r (Nat.zero_le _) H4.out : Calls Tryz.prog 83 #[.slice a n c, .int .i64 0] wzw (GtEnd x (n - r.length) wzw))
    rw [← HP.out] at A2
    replace A2 := Lib.hid A2
    have z0 := HYzw.out.p0
    have z1 := HYzw.out.p1
    have z2 := HYzw.out.p2
    have HRw := HRzw
    have HBw := HBzw
    clear hL1w hx1w hb1w hbxw h1zw hYw hwzw hyw KM KE H4 A1 HX1w
    rw [HWzw.out, HYyw.out] at z0 z1 z2
    cases x1 with
    | none =>
      rw [Option.isSome_none] at *
      clear M1
      go_wp2_with fail
      rw [← HWzw.out]
      clear z0 z1 z2
      refine A2.out.mono ?_
      rintro e w1 ⟨a1, n1, c1, L1, rfl, hL1, hn1, hx1, hb1⟩
      have hR1 := HRw.out.on hb1
      have hbb := HBw.out.trans (hb1.mono HBw.out.size)
      have HL4 := Lib.hid ((hL1.base HBw.out.size).fill (a' := a1) (n' := n1) (c' := c1) (i' := (p : Int)) (b' := x.isSome) hR1)
      have HX := Lib.hid hx1
      have HBB := Lib.hid hbb
      have HR1 := Lib.hid hR1
      have u0 := hR1.p0
      have u1 := hR1.p1
      have u2 := hR1.p2
      have fu0 := hR1.f 0
      have fu1 := hR1.f 1
      have fu2 := hR1.f 2
      clear hR1 hbb hL1 hx1 hb1
      go_wp2_with fail
      have hRR := HR1.out.set3 (.slice a1 n1 c1) (.int .i64 (p : Int)) (.bool x.isSome)
      have o0 := hRR.p0
      have o1 := hRR.p1
      have o2 := hRR.p2
      exact bodyPost_ret (v := .agg #[.slice a1 n1 c1, .int .i64 (p : Int), .bool x.isSome]) (by simp [results, Tryz.results63, go_sem, o0, o1, o2]) rfl ⟨_, _, _, _, rfl, HL4.out, by omega, HX.out, below3 HBB.out (Nat.le_refl _) _ _ _⟩
    | some I =>
      rcases H3.out with h9 | h9
      · cases h9
      rw [h9] at M1
      replace M1 := Lib.hid M1
      clear h9
      rw [Option.isSome_some] at *
      go_wp2_with fail
      rw [← HWzw.out]
      refine M1.out.mono ?_
      rintro e w9 ⟨rfl, rfl⟩
      rw [HWzw.out]
      go_wp2_with fail
      rw [← HWzw.out]
      clear z0 z1 z2
      refine A2.out.mono ?_
      rintro e w1 ⟨a1, n1, c1, L1, rfl, hL1, hn1, hx1, hb1⟩
      have hR1 := HRw.out.on hb1
      have hbb := HBw.out.trans (hb1.mono HBw.out.size)
      have HL4 := Lib.hid ((hL1.base HBw.out.size).fill (a' := a1) (n' := n1) (c' := c1) (i' := (p : Int)) (b' := x.isSome) hR1)
      have HX := Lib.hid hx1
      have HBB := Lib.hid hbb
      have HR1 := Lib.hid hR1
      have u0 := hR1.p0
      have u1 := hR1.p1
      have u2 := hR1.p2
      have fu0 := hR1.f 0
      have fu1 := hR1.f 1
      have fu2 := hR1.f 2
      clear hR1 hbb hL1 hx1 hb1
      go_wp2_with fail
      have hRR := HR1.out.set3 (.slice a1 n1 c1) (.int .i64 (p : Int)) (.bool x.isSome)
      have o0 := hRR.p0
      have o1 := hRR.p1
      have o2 := hRR.p2
      exact bodyPost_ret (v := .agg #[.slice a1 n1 c1, .int .i64 (p : Int), .bool x.isSome]) (by simp [results, Tryz.results63, go_sem, o0, o1, o2]) rfl ⟨_, _, _, _, rfl, HL4.out, by omega, HX.out, below3 HBB.out (Nat.le_refl _) _ _ _⟩
  · have A2 := (KE.out W0 HBw.out 0 x r (Nat.zero_le _) h4 : Calls Tryz.prog 83 #[.slice a n c, .int .i64 0] W0 (GtEnd x (n - r.length) W0))
    rw [← HP.out] at A2
    replace A2 := Lib.hid A2
    rw [← ltail] at KM1 KM2
    by_cases hk2 : isK 2 (pks ts)
    · rw [(kd0_yes (by decide)).2 hk2] at K0
      rw [mkB_no (fun g => hk ⟨hk2, .inl g⟩)] at KM1
      rw [mkB_no (fun g => hk ⟨hk2, .inr g⟩)] at KM2
      replace K0 := Lib.hid K0
      replace KM1 := Lib.hid KM1
      replace KM2 := Lib.hid KM2
      clear KM3 hk hk9 hk2 h4 two ltail KE KC KM
      go_enter Tryz.func63, Tryz.ntmps63
      go_wp2_with fail
      rw [← HW0.out]
      refine K0.out.mono ?_
      rintro e w9 ⟨rfl, rfl⟩
      rw [HW0.out]
      go_wp2_with fail
      rw [← HW0.out]
      refine KM1.out.mono ?_
      rintro e w9 ⟨rfl, rfl⟩
      rw [HW0.out]
      go_wp2_with fail
      rw [← HW0.out]
      refine K0.out.mono ?_
      rintro e w9 ⟨rfl, rfl⟩
      rw [HW0.out]
      go_wp2_with fail
      rw [← HW0.out]
      refine K0.out.mono ?_
      rintro e w9 ⟨rfl, rfl⟩
      rw [HW0.out]
      go_wp2_with fail
      rw [← HW0.out]
      refine KM2.out.mono ?_
      rintro e w9 ⟨rfl, rfl⟩
      rw [HW0.out]
      go_wp2_with fail
      rw [← HW0.out]
      refine A2.out.mono ?_
      rintro e w1 ⟨a1, n1, c1, L1, rfl, hL1, hn1, hx1, hb1⟩
      have hR1 := HRw.out.on hb1
      have hbb := HBw.out.trans (hb1.mono HBw.out.size)
      have HL4 := Lib.hid ((hL1.base HBw.out.size).fill (a' := a1) (n' := n1) (c' := c1) (i' := (p : Int)) (b' := x.isSome) hR1)
      have HX := Lib.hid hx1
      have HBB := Lib.hid hbb
      have HR1 := Lib.hid hR1
      have u0 := hR1.p0
      have u1 := hR1.p1
      have u2 := hR1.p2
      have fu0 := hR1.f 0
      have fu1 := hR1.f 1
      have fu2 := hR1.f 2
      clear hR1 hbb hL1 hx1 hb1
      go_wp2_with fail
      have hRR := HR1.out.set3 (.slice a1 n1 c1) (.int .i64 (p : Int)) (.bool x.isSome)
      have o0 := hRR.p0
      have o1 := hRR.p1
      have o2 := hRR.p2
      exact bodyPost_ret (v := .agg #[.slice a1 n1 c1, .int .i64 (p : Int), .bool x.isSome]) (by simp [results, Tryz.results63, go_sem, o0, o1, o2]) rfl ⟨_, _, _, _, rfl, HL4.out, by omega, HX.out, below3 HBB.out (Nat.le_refl _) _ _ _⟩
    by_cases hk3 : isK 3 (pks ts)
    · rw [(kd0_yes (by decide)).2 hk3] at K0
      rw [mkB_no (fun g => hk9 ⟨hk3, g⟩)] at KM1
      replace K0 := Lib.hid K0
      replace KM1 := Lib.hid KM1
      clear KM3 KM2 hk hk9 hk2 hk3 h4 two ltail KE KC KM
      go_enter Tryz.func63, Tryz.ntmps63
      go_wp2_with fail
      rw [← HW0.out]
      refine K0.out.mono ?_
      rintro e w9 ⟨rfl, rfl⟩
      rw [HW0.out]
      go_wp2_with fail
      rw [← HW0.out]
      refine K0.out.mono ?_
      rintro e w9 ⟨rfl, rfl⟩
      rw [HW0.out]
      go_wp2_with fail
      rw [← HW0.out]
      refine KM1.out.mono ?_
      rintro e w9 ⟨rfl, rfl⟩
      rw [HW0.out]
      go_wp2_with fail
      rw [← HW0.out]
      refine K0.out.mono ?_
      rintro e w9 ⟨rfl, rfl⟩
      rw [HW0.out]
      go_wp2_with fail
      rw [← HW0.out]
      refine A2.out.mono ?_
      rintro e w1 ⟨a1, n1, c1, L1, rfl, hL1, hn1, hx1, hb1⟩
      have hR1 := HRw.out.on hb1
      have hbb := HBw.out.trans (hb1.mono HBw.out.size)
      have HL4 := Lib.hid ((hL1.base HBw.out.size).fill (a' := a1) (n' := n1) (c' := c1) (i' := (p : Int)) (b' := x.isSome) hR1)
      have HX := Lib.hid hx1
      have HBB := Lib.hid hbb
      have HR1 := Lib.hid hR1
      have u0 := hR1.p0
      have u1 := hR1.p1
      have u2 := hR1.p2
      have fu0 := hR1.f 0
      have fu1 := hR1.f 1
      have fu2 := hR1.f 2
      clear hR1 hbb hL1 hx1 hb1
      go_wp2_with fail
      have hRR := HR1.out.set3 (.slice a1 n1 c1) (.int .i64 (p : Int)) (.bool x.isSome)
      have o0 := hRR.p0
      have o1 := hRR.p1
      have o2 := hRR.p2
      exact bodyPost_ret (v := .agg #[.slice a1 n1 c1, .int .i64 (p : Int), .bool x.isSome]) (by simp [results, Tryz.results63, go_sem, o0, o1, o2]) rfl ⟨_, _, _, _, rfl, HL4.out, by omega, HX.out, below3 HBB.out (Nat.le_refl _) _ _ _⟩
    have e2 : (kd0 (pks ts) == 2) = false := beq_eq_false_iff_ne.2 fun e => hk2 ((kd0_yes (by decide)).1 e)
    have e3 : (kd0 (pks ts) == 3) = false := beq_eq_false_iff_ne.2 fun e => hk3 ((kd0_yes (by decide)).1 e)
    generalize kd0 (pks ts) = kk at *
    replace K0 := Lib.hid K0
    clear KM3 KM2 KM1 hk hk9 hk2 hk3 h4 two ltail KE KC KM
    go_enter Tryz.func63, Tryz.ntmps63
    go_wp2_with fail
    rw [← HW0.out]
    refine K0.out.mono ?_
    rintro e w9 ⟨rfl, rfl⟩
    rw [HW0.out]
    go_wp2_with fail
    rw [← HW0.out]
    refine K0.out.mono ?_
    rintro e w9 ⟨rfl, rfl⟩
    rw [HW0.out]
    go_wp2_with fail
    rw [← HW0.out]
    refine K0.out.mono ?_
    rintro e w9 ⟨rfl, rfl⟩
    rw [HW0.out]
    go_wp2_with fail
    rw [← HW0.out]
    refine A2.out.mono ?_
    rintro e w1 ⟨a1, n1, c1, L1, rfl, hL1, hn1, hx1, hb1⟩
    have hR1 := HRw.out.on hb1
    have hbb := HBw.out.trans (hb1.mono HBw.out.size)
    have HL4 := Lib.hid ((hL1.base HBw.out.size).fill (a' := a1) (n' := n1) (c' := c1) (i' := (p : Int)) (b' := x.isSome) hR1)
    have HX := Lib.hid hx1
    have HBB := Lib.hid hbb
    have HR1 := Lib.hid hR1
    have u0 := hR1.p0
    have u1 := hR1.p1
    have u2 := hR1.p2
    have fu0 := hR1.f 0
    have fu1 := hR1.f 1
    have fu2 := hR1.f 2
    clear hR1 hbb hL1 hx1 hb1
    go_wp2_with fail
    have hRR := HR1.out.set3 (.slice a1 n1 c1) (.int .i64 (p : Int)) (.bool x.isSome)
    have o0 := hRR.p0
    have o1 := hRR.p1
    have o2 := hRR.p2
    exact bodyPost_ret (v := .agg #[.slice a1 n1 c1, .int .i64 (p : Int), .bool x.isSome]) (by simp [results, Tryz.results63, go_sem, o0, o1, o2]) rfl ⟨_, _, _, _, rfl, HL4.out, by omega, HX.out, below3 HBB.out (Nat.le_refl _) _ _ _⟩
end Go.Proofs.YtljkmdmbndjngaaGreat
/-
  The reference's Toks, and Parse.
-/
namespace Go.Proofs.YtljkmdmbndjngaaGreat
set_option linter.unusedVariables false
set_option linter.unusedSimpArgs false
open Go.RowKit

/-- Where an error is: at the head of what is left, or at the end. -/
def plc (r : List Pk) (e : Int) : Int := match r with | [] => e | q :: _ => q.p
/-- What Toks tells of parts that are read so. -/
def PaEnd (x : Option (List Tn)) (r : List Pk) (z : Int) (W : World) (e : Ending) (W' : World) : Prop :=
  Below W.heap.size W W' ∧ ((told x r = none ∧ e = .returned (.tuple #[.slice none 0 0, .int .i64 (plc r z), .int .i64 2])) ∨ ∃ X d, told x r = some X ∧ Dp X 1 d ∧
    ((40 < d ∧ e = .returned (.tuple #[.slice none 0 0, .int .i64 0, .int .i64 10])) ∨ (d ≤ 40 ∧ ∃ a n c, e = .returned (.tuple #[.slice a n c, .int .i64 0, .int .i64 0]) ∧ Nl W.heap.size W' a n c X)))
theorem PaEnd.no {x : Option (List Tn)} {r : List Pk} {z : Int} {W W' : World} (hb : Below W.heap.size W W') (h : told x r = none) : PaEnd x r z W (.returned (.tuple #[.slice none 0 0, .int .i64 (plc r z), .int .i64 2])) W' := ⟨hb, .inl ⟨h, rfl⟩⟩
theorem PaEnd.deep {x : Option (List Tn)} {r : List Pk} {z : Int} {W W' : World} {X : List Tn} {d : Nat} (hb : Below W.heap.size W W') (h : told x r = some X) (hd : Dp X 1 d) (h40 : 40 < d) : PaEnd x r z W (.returned (.tuple #[.slice none 0 0, .int .i64 0, .int .i64 10])) W' := ⟨hb, .inr ⟨X, d, h, hd, .inl ⟨h40, rfl⟩⟩⟩
theorem PaEnd.ok {x : Option (List Tn)} {r : List Pk} {z : Int} {W W' : World} {X : List Tn} {d : Nat} {a : Option Addr} {n c : Nat} (hb : Below W.heap.size W W') (h : told x r = some X) (hd : Dp X 1 d) (h40 : d ≤ 40) (hl : Nl W.heap.size W' a n c X) : PaEnd x r z W (.returned (.tuple #[.slice a n c, .int .i64 0, .int .i64 0])) W' := ⟨hb, .inr ⟨X, d, h, hd, .inr ⟨h40, a, n, c, rfl, hl⟩⟩⟩
theorem told_cases (x : Option (List Tn)) (r : List Pk) : (told x r = none ∧ (x = none ∨ r ≠ [])) ∨ ∃ X, x = some X ∧ r = [] ∧ told x r = some X := by
  cases r with
  | nil =>
    cases x with
    | none => exact .inl ⟨rfl, .inl rfl⟩
    | some X => exact .inr ⟨X, rfl, rfl, rfl⟩
  | cons q r => exact .inl ⟨rfl, .inr (by simp)⟩
set_option maxRecDepth 10000 in
set_option maxHeartbeats 3200000 in
theorem rToks_is (ts : List Tk) (hf : Few ts) (hp : ∀ q ∈ pks ts, q.k = 3 ∨ q.k = 4 → q.t ≠ [123]) (a : Option Addr) (n c : Nat) (z : Int) (W : World) (x : Option (List Tn)) (r : List Pk) (h : Qs W a n (rtk ts)) (hn : n = ts.length) (hm : n ≤ 300) (hR : Ln numT (pks ts) x r) :
    Calls Tryz.prog 40 #[.slice a n c, .int .i64 z] W (PaEnd x r z W) := by
  have hl : (pks ts).length = n := by rw [pks_len, hn]
  have e1 := List.suffix_iff_eq_drop.1 hR.suffix
  have hrl := hR.suffix.length_le
  rw [hl] at e1 hrl
  obtain ⟨p, hpp⟩ : ∃ p, p = n - r.length := ⟨_, rfl⟩
  have K1 := rline_is ts hf hp a n c W x r h hn hm hR
  rw [← hpp] at K1 e1
  replace K1 := Lib.hid K1
  have hpn : p ≤ n := by omega
  have htree : ∀ X, x = some X → ∃ d, Dp X 1 d := fun X hX => by
    subst hX
    exact hR.tree hp
  have HT := Lib.hid htree
  have hcell : p < n → ∃ b off, a = some ⟨b, off, none⟩ ∧ ∀ w, Below W.heap.size W w → w.cell? ⟨b, off + p * 3 + 2, none⟩ = some (.int .i64 (plc r z)) := by
    intro hlt
    obtain ⟨b, off, rfl, hc⟩ := h (by omega)
    refine ⟨b, off, rfl, fun w hb => ?_⟩
    have ck := (hc p hlt).2.2
    rw [(hb.cell (World.block_lt_of_cell? W _ ck)).trans ck]
    obtain ⟨t, ht⟩ : ∃ t, ts[p]? = some t := ⟨_, List.getElem?_eq_getElem (by omega)⟩
    rw [rtk_at ht]
    have : r = t.pk :: (pks ts).drop (p + 1) := by rw [e1, pks_at ht]
    rw [this]; rfl
  have HCE := Lib.hid hcell
  have hno : p = n ↔ r = [] := by
    constructor
    · intro h
      exact List.length_eq_zero_iff.1 (by omega)
    · intro h
      rw [h] at hpp
      simpa using hpp
  have HNO := Lib.hid hno
  clear hcell htree hR hl hf hp h hn e1 hrl hpp hno
  go_enter Tryz.func40, Tryz.ntmps40
  go_wp2_with fail
  refine K1.out.mono ?_
  rintro e w1 ⟨a1, n1, c1, L1, rfl, hL1, hn1, hx1, hb1⟩
  have hY := Bk.new 87 w1 [.slice a1 n1 c1, .int .i64 p, .bool x.isSome]
  have hbx := box_below w1 (.cells #[.slice a1 n1 c1, .int .i64 p, .bool x.isSome] 87)
  have HB := Lib.hid (hb1.trans (hbx.mono hb1.size))
  have HLL := Lib.hid (hL1.below hbx)
  have HX := Lib.hid hx1
  have z0 := hY.p0
  have z1 := hY.p1
  have z2 := hY.p2
  clear hL1 hx1 hb1 hbx hY K1
  rcases told_cases x r with ⟨ht, hc⟩ | ⟨X, rfl, hr, ht⟩
  · have HTN := Lib.hid ht
    clear ht
    by_cases hpl : p < n
    · have e2 : (p : Int) < (n : Int) := by omega
      obtain ⟨b, off, rfl, hce⟩ := HCE.out hpl
      have ck := hce _ HB.out
      clear hce hc
      cases hs : x.isSome with
      | true =>
        rw [hs] at ck z0 z1 z2 HB
        have HS := Lib.hid hs
        clear hs
        go_wp2_with fail
        go_quiet (fail)
        go_wp2_with fail
        go_ret3
        exact .no (below_drewN HB.out _) HTN.out
      | false =>
        rw [hs] at ck z0 z1 z2 HB
        clear hs
        go_wp2_with fail
        go_quiet (fail)
        go_wp2_with fail
        go_ret3
        exact .no (below_drewN HB.out _) HTN.out
    · have e2 : ¬ (p : Int) < (n : Int) := by omega
      have hr0 : r = [] := HNO.out.1 (by omega)
      have hx0 : x = none := by
        rcases hc with h | h
        · exact h
        · exact absurd hr0 h
      subst hx0 hr0
      clear hc
      rw [Option.isSome_none] at *
      go_wp2_with fail
      go_ret3
      exact .no HB.out HTN.out
  · have hpn2 : p = n := HNO.out.2 hr
    subst hpn2
    obtain rfl : L1 = X := HX.out X rfl
    obtain ⟨d, hd⟩ := HT.out L1 rfl
    obtain ⟨f, hq, hc1, hc2, hfl, hnb⟩ := HLL.out
    have KD := Lib.hid (rDepth_some a1 n1 c1 f n1 d _ hq (by omega) (deep_tn hfl hd))
    have HTN := Lib.hid ht
    have HD := Lib.hid hd
    have hdl : d ≤ n1 := by have := (deep_tn hfl hd).deep; omega
    clear hr ht hd hq hfl hnb
    rw [Option.isSome_some] at *
    by_cases h40 : 40 < d
    · have e4 : (40 : Int) < (d : Int) := by omega
      go_wp2_with fail
      refine KD.out.mono ?_
      rintro e w2 ⟨rfl, hb2⟩
      have hb3 := HB.out.trans (hb2.mono HB.out.size)
      clear KD z0 z1 z2 hb2
      go_wp2_with fail
      go_ret3
      exact .deep hb3 HTN.out HD.out h40
    · have e4 : ¬ (40 : Int) < (d : Int) := by omega
      go_wp2_with fail
      refine KD.out.mono ?_
      rintro e w2 ⟨rfl, hb2⟩
      have hb3 := HB.out.trans (hb2.mono HB.out.size)
      have HL2 := Lib.hid (HLL.out.below hb2)
      have zz0 := (hb2.cell (p := ⟨w1.heap.size, 0, none⟩) (World.block_lt_of_cell? _ _ z0)).trans z0
      clear KD z0 z1 z2 hb2
      go_wp2_with fail
      go_ret3
      exact .ok hb3 HTN.out HD.out (by omega) HL2.out
theorem PaEnd.base {x : Option (List Tn)} {r : List Pk} {z : Int} {W w W' : World} {e : Ending} (hb : Below W.heap.size W w) (h : PaEnd x r z w e W') : PaEnd x r z W e W' := by
  obtain ⟨h1, h2⟩ := h
  refine ⟨hb.trans (h1.mono hb.size), h2.imp id ?_⟩
  rintro ⟨X, d, h3, h4, h5⟩
  refine ⟨X, d, h3, h4, h5.imp id ?_⟩
  rintro ⟨h6, a, n, c, h7, h8⟩
  exact ⟨h6, a, n, c, h7, h8.base hb.size⟩
theorem run_few {s : ByteArray} {ts : List Tk} {e : Option Nat} (hs : s.size ≤ 256) (h : Run numB s.data.toList 0 ts e) : Few ts ∧ (∀ q ∈ pks ts, q.k = 3 ∨ q.k = 4 → q.t ≠ [123]) ∧ ts.length ≤ 256 := by
  have hl : s.data.toList.length = s.size := Array.length_toList
  refine ⟨fun t ht => ?_, fun q hq => not_brace (h.ps q hq).1, ?_⟩
  · have := (h.each t ht).2
    omega
  · have := h.span.2
    omega
section
variable (s : ByteArray) (hs : s.size ≤ 256)
include hs
theorem rParse_ok (ts : List Tk) (h : Run numB s.data.toList 0 ts none) {x : Option (List Tn)} {r : List Pk} (hR : Ln numT (pks ts) x r) (W : World) : Calls Tryz.prog 16 #[.string s] W (PaEnd x r s.size W) := by
  obtain ⟨hf, hp, hn⟩ := run_few hs h
  have K1 := Lib.hid (rlex_is s hs ts none h W)
  obtain ⟨n, hnn⟩ : ∃ n, n = ts.length := ⟨_, rfl⟩
  have K2 := Lib.hid (fun a c w (hq : Qs w a n (rtk ts)) => rToks_is ts hf hp a n c (s.size : Int) w x r hq hnn (by omega) hR)
  have HN := Lib.hid hnn
  clear hf hp hnn h hR
  go_enter Tryz.func16, Tryz.ntmps16
  go_wp2_with fail
  refine K1.out.mono ?_
  rintro e w1 ⟨a, c, rfl, hc, hq, hb⟩
  rw [← HN.out] at hq ⊢
  have K3 := Lib.hid (K2.out a c w1 hq)
  clear K1 K2 hq hc
  go_wp2_with fail
  refine K3.out.mono ?_
  rintro e w2 hpa
  have hpa2 := PaEnd.base hb hpa
  obtain ⟨hb2, ⟨ht, rfl⟩ | ⟨X, d, ht, hd, ⟨h40, rfl⟩ | ⟨h40, a2, n2, c2, rfl, hl⟩⟩⟩ := hpa2
  · have HT := Lib.hid ht
    clear hpa ht K3 hb
    go_wp2_with fail
    go_ret3
    exact .no hb2 HT.out
  · have HT := Lib.hid ht
    have HD := Lib.hid hd
    clear hpa ht hd K3 hb
    go_wp2_with fail
    go_ret3
    exact .deep hb2 HT.out HD.out h40
  · have HT := Lib.hid ht
    have HD := Lib.hid hd
    have HL := Lib.hid hl
    clear hpa ht hd hl K3 hb
    go_wp2_with fail
    go_ret3
    exact .ok hb2 HT.out HD.out h40 HL.out
theorem rParse_bad (ts : List Tk) (q : Nat) (h : Run numB s.data.toList 0 ts (some q)) (W : World) : Calls Tryz.prog 16 #[.string s] W (LexBad q W) := by
  have K1 := Lib.hid (rlex_is s hs ts (some q) h W)
  clear h
  go_enter Tryz.func16, Tryz.ntmps16
  go_wp2_with fail
  refine K1.out.mono ?_
  rintro e w1 ⟨rfl, hb⟩
  go_wp2_with fail
  go_ret3
  exact ⟨rfl, hb⟩
omit hs in
theorem rParse_big (hs : 256 < s.size) (hm : s.size ≤ 9223372036854775807) (W : World) : Calls Tryz.prog 16 #[.string s] W (LexBig W) := by
  have K1 := Lib.hid (rbig_is s hs hm W)
  clear hs
  go_enter Tryz.func16, Tryz.ntmps16
  go_wp2_with fail
  refine K1.out.mono ?_
  rintro e w1 ⟨rfl, hb⟩
  go_wp2_with fail
  go_ret3
  exact ⟨rfl, hb⟩
end
end Go.Proofs.YtljkmdmbndjngaaGreat
/-
  Toks, and Parse, of the program; the reference's by the same end.
-/
namespace Go.Proofs.YtljkmdmbndjngaaGreat
set_option linter.unusedVariables false
set_option linter.unusedSimpArgs false
open Go.RowKit

/-- Nodes in memory that are these. -/
def Nx (W : World) (a : Option Addr) (n c : Nat) (X : List Tn) : Prop := ∃ f, Nq W a n f ∧ n ≤ c ∧ c ≤ maxLen ∧ tnF f n = X
theorem Nx.below {W W' : World} {a : Option Addr} {n c : Nat} {X : List Tn} (h : Nx W a n c X) (hb : Below W.heap.size W W') : Nx W' a n c X := by
  obtain ⟨f, h1, h2⟩ := h
  exact ⟨f, h1.below hb, h2⟩
/-- What is told of parts that are read so. -/
def PpEnd (x : Option (List Tn)) (r : List Pk) (z : Int) (W : World) (e : Ending) (W' : World) : Prop :=
  Below W.heap.size W W' ∧ ((told x r = none ∧ e = .returned (.tuple #[.slice none 0 0, .int .i64 (plc r z), .int .i64 2])) ∨ ∃ X d, told x r = some X ∧ Dp X 1 d ∧
    ((40 < d ∧ e = .returned (.tuple #[.slice none 0 0, .int .i64 0, .int .i64 10])) ∨ (d ≤ 40 ∧ ∃ a n c, e = .returned (.tuple #[.slice a n c, .int .i64 0, .int .i64 0]) ∧ Nx W' a n c X)))
theorem PaEnd.pp {x : Option (List Tn)} {r : List Pk} {z : Int} {W : World} {e : Ending} {W' : World} (h : PaEnd x r z W e W') : PpEnd x r z W e W' := by
  obtain ⟨hb, h | ⟨X, d, h1, h2, h | ⟨h3, a, n, c, h4, f, h5, h6, h7, h8, _⟩⟩⟩ := h
  · exact ⟨hb, .inl h⟩
  · exact ⟨hb, .inr ⟨X, d, h1, h2, .inl h⟩⟩
  · exact ⟨hb, .inr ⟨X, d, h1, h2, .inr ⟨h3, a, n, c, h4, f, h5, h6, h7, h8⟩⟩⟩
theorem PpEnd.base {x : Option (List Tn)} {r : List Pk} {z : Int} {W w W' : World} {e : Ending} (hb : Below W.heap.size W w) (h : PpEnd x r z w e W') : PpEnd x r z W e W' := ⟨hb.trans (h.1.mono hb.size), h.2⟩
set_option maxRecDepth 10000 in
set_option maxHeartbeats 6400000 in
theorem Toks_p (ts : List Tk) (hP : Pall ts) (a : Option Addr) (n c : Nat) (z : Int) (W : World) (x : Option (List Tn)) (r : List Pk) (h : Qs W a n (rtk ts)) (hn : n = ts.length) (hm : n ≤ 300) (hR : Ln numT (pks ts) x r) :
    Calls Tryz.prog 38 #[.slice a n c, .int .i64 z] W (PpEnd x r z W) := by
  have KS := Lib.hid (sound_is ts hP a n c W h hn hm)
  have hcell : ∀ i, i < n → r = (pks ts).drop i → ∃ b off, a = some ⟨b, off, none⟩ ∧ ∀ w, Below W.heap.size W w → w.cell? ⟨b, off + i * 3 + 2, none⟩ = some (.int .i64 (plc r z)) := by
    intro i hlt hr
    obtain ⟨b, off, rfl, hc⟩ := h (by omega)
    refine ⟨b, off, rfl, fun w hb => ?_⟩
    have ck := (hc i hlt).2.2
    rw [(hb.cell (World.block_lt_of_cell? W _ ck)).trans ck]
    obtain ⟨t, ht⟩ : ∃ t, ts[i]? = some t := ⟨_, List.getElem?_eq_getElem (by omega)⟩
    rw [rtk_at ht]
    have : r = t.pk :: (pks ts).drop (i + 1) := by rw [hr, pks_at ht]
    rw [this]; rfl
  have HC := Lib.hid hcell
  have HR := Lib.hid hR.run
  have HN := Lib.hid hn
  clear h hR hcell hn
  go_enter Tryz.func38, Tryz.ntmps38
  go_wp2_with fail
  refine KS.out.mono ?_
  rintro e w1 ⟨g1, rfl, hpq, hb1⟩
  have hbx := box_below w1 (.cells #[.slice (some ⟨g1, 0, none⟩) n n, .int .i64 0, .slice none 0 0, .slice none 0 0, .bool false, .bool false] 84)
  have hB := Bk.new 84 w1 [.slice (some ⟨g1, 0, none⟩) n n, .int .i64 0, .slice none 0 0, .slice none 0 0, .bool false, .bool false]
  rw [show [Value.slice (some ⟨g1, 0, none⟩) n n, .int .i64 0, .slice none 0 0, .slice none 0 0, .bool false, .bool false].toArray = #[.slice (some ⟨g1, 0, none⟩) n n, .int .i64 0, .slice none 0 0, .slice none 0 0, .bool false, .bool false] from rfl] at hB
  have hM : PM w1.heap.size ts (w1.alloc (.cells #[.slice (some ⟨g1, 0, none⟩) n n, .int .i64 0, .slice none 0 0, .slice none 0 0, .bool false, .bool false] 84)) w1.heap.size (some ⟨g1, 0, none⟩) n n 0 none 0 0 none 0 0 false false [] [] :=
    ⟨hB, hpq.ex (Ex.of [] hbx) (Off.none _), HN.out, World.ownsRow_nil _ _ _ _, rfl, trivial, Nat.le_refl _⟩
  have HBB := Lib.hid (hb1.trans (hbx.mono hb1.size))
  have HSZ := Lib.hid (show W.heap.size ≤ w1.heap.size from hb1.size)
  have KL := Lib.hid (pline_is ts hP hm hM HR.out)
  clear hb1 hpq hbx hB hM KS
  go_wp2_with fail
  refine KL.out.mono ?_
  rintro e w2 ⟨hf2, ⟨rfl, hok⟩ | ⟨rfl, hfa⟩⟩
  · obtain ⟨i, oa, on, oc, kk, wh, dp, ms, K, T, d, hM2, hN2, hx, hr, hd, hdp, hTl⟩ := hok
    have hbb := HBB.out.trans (hf2.below.mono HSZ.out)
    have c5 := Pc.c5 hM2.bk
    have c3 := Pc.c3 hM2.bk
    cases dp with
    | true =>
      have HE := Lib.hid (show PpEnd x r z W (.returned (.tuple #[.slice none 0 0, .int .i64 0, .int .i64 10])) w2 from ⟨hbb, .inr ⟨T, d, hx, hd, .inl ⟨hdp.1 rfl, rfl⟩⟩⟩)
      clear hM2 hN2 hx hr hd hdp hTl hbb hf2 KL c3
      go_wp2_with fail
      go_ret3
      exact HE.out
    | false =>
      have hN3 := hN2 rfl
      have hd40 : d ≤ 40 := by
        rcases Nat.lt_or_ge 40 d with h | h
        · exact absurd (hdp.2 h) (by decide)
        · exact h
      have HE := Lib.hid (show PpEnd x r z W (.returned (.tuple #[.slice kk.a kk.n kk.c, .int .i64 0, .int .i64 0])) w2 from ⟨hbb, .inr ⟨T, d, hx, hd, .inr ⟨hd40, _, _, _, rfl, kk.f, hN3.nq, hN3.nc, hN3.cm, hN3.tn⟩⟩⟩)
      clear hM2 hN2 hN3 hx hr hd hdp hTl hbb hf2 KL hd40
      go_wp2_with fail
      go_ret3
      exact HE.out
  · obtain ⟨i, oa, on, oc, ta, tn, tc, wh, dp, ms, K, hM2, hi, hr, hx⟩ := hfa
    have hbb := HBB.out.trans (hf2.below.mono HSZ.out)
    have c1 := Pc.c1 hM2.bk
    by_cases hin : i < n
    · have e2 : (i : Int) < (n : Int) := by omega
      obtain ⟨b, off, rfl, hce⟩ := HC.out i hin hr
      have ck := hce w2 hbb
      have HE := Lib.hid (show ∀ q, PpEnd x r z W (.returned (.tuple #[.slice none 0 0, .int .i64 (plc r z), .int .i64 2])) (w2.drewN q) from fun q => ⟨below_drewN hbb q, .inl ⟨hx, rfl⟩⟩)
      generalize plc r z = pz at *
      clear hM2 hr hx hbb hf2 KL hce
      go_wp2_with fail
      go_quiet (fail)
      have HE2 := Lib.hid (HE.out nq)
      clear HE
      go_wp2_with fail
      go_ret3
      exact HE2.out
    · have e2 : ¬ (i : Int) < (n : Int) := by omega
      have hr0 : r = [] := by rw [hr]; exact pks_out (by have := HN.out; omega)
      have HE := Lib.hid (show PpEnd x r z W (.returned (.tuple #[.slice none 0 0, .int .i64 z, .int .i64 2])) w2 from ⟨hbb, .inl ⟨hx, by rw [hr0]; rfl⟩⟩)
      clear hM2 hr hx hbb hf2 KL hr0
      go_wp2_with fail
      go_ret3
      exact HE.out
section
variable (s : ByteArray) (hs : s.size ≤ 256)
include hs
theorem Parse_ok (ts : List Tk) (h : Run numB s.data.toList 0 ts none) {x : Option (List Tn)} {r : List Pk} (hR : Ln numT (pks ts) x r) (W : World) : Calls Tryz.prog 15 #[.string s] W (PpEnd x r s.size W) := by
  obtain ⟨hf, hp, hn⟩ := run_few hs h
  have hP : Pall ts := fun q hq => by
    have := h.ps q hq
    have hl : s.data.toList.length = s.size := Array.length_toList
    exact ⟨this.1, by omega⟩
  have K1 := Lib.hid (lex_is s hs ts none h W)
  obtain ⟨n, hnn⟩ : ∃ n, n = ts.length := ⟨_, rfl⟩
  have K2 := Lib.hid (fun a c w (hq : Qs w a n (rtk ts)) => Toks_p ts hP a n c (s.size : Int) w x r hq hnn (by omega) hR)
  have HN := Lib.hid hnn
  clear hf hp hnn h hR hP
  go_enter Tryz.func15, Tryz.ntmps15
  go_wp2_with fail
  refine K1.out.mono ?_
  rintro e w1 ⟨a, c, rfl, hc, hq, hb⟩
  rw [← HN.out] at hq ⊢
  have K3 := Lib.hid (K2.out a c w1 hq)
  clear K1 K2 hq hc
  go_wp2_with fail
  refine K3.out.mono ?_
  rintro e w2 hpa
  have hpa2 := PpEnd.base hb hpa
  obtain ⟨hb2, ⟨ht, rfl⟩ | ⟨X, d, ht, hd, ⟨h40, rfl⟩ | ⟨h40, a2, n2, c2, rfl, hl⟩⟩⟩ := id hpa2
  · have HE := Lib.hid hpa2
    clear hpa hpa2 ht K3 hb hb2
    go_wp2_with fail
    go_ret3
    exact HE.out
  · have HE := Lib.hid hpa2
    clear hpa hpa2 ht K3 hb hb2 hd
    go_wp2_with fail
    go_ret3
    exact HE.out
  · have HE := Lib.hid hpa2
    clear hpa hpa2 ht K3 hb hb2 hd hl
    go_wp2_with fail
    go_ret3
    exact HE.out
theorem Parse_bad (ts : List Tk) (q : Nat) (h : Run numB s.data.toList 0 ts (some q)) (W : World) : Calls Tryz.prog 15 #[.string s] W (LexBad q W) := by
  have K1 := Lib.hid (lex_is s hs ts (some q) h W)
  clear h
  go_enter Tryz.func15, Tryz.ntmps15
  go_wp2_with fail
  refine K1.out.mono ?_
  rintro e w1 ⟨rfl, hb⟩
  go_wp2_with fail
  go_ret3
  exact ⟨rfl, hb⟩
omit hs in
theorem Parse_big (hs : 256 < s.size) (hm : s.size ≤ 9223372036854775807) (W : World) : Calls Tryz.prog 15 #[.string s] W (LexBig W) := by
  have K1 := Lib.hid (big_is s hs hm W)
  clear hs
  go_enter Tryz.func15, Tryz.ntmps15
  go_wp2_with fail
  refine K1.out.mono ?_
  rintro e w1 ⟨rfl, hb⟩
  go_wp2_with fail
  go_ret3
  exact ⟨rfl, hb⟩
end
end Go.Proofs.YtljkmdmbndjngaaGreat
/-
  Whether two lists have the same nodes, of the reference.
-/
namespace Go.Proofs.YtljkmdmbndjngaaGreat
set_option linter.unusedVariables false
set_option linter.unusedSimpArgs false
open Go.RowKit
set_option maxRecDepth 10000
end Go.Proofs.YtljkmdmbndjngaaGreat

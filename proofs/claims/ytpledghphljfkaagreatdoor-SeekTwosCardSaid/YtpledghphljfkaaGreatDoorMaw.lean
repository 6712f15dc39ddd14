import Derived.Test.YtpledghphljfkaaGreatDoorMav
/-
  The reference's merged, halves, by their contracts.
-/
namespace Go.Proofs.YtpledghphljfkaaGreatDoor
set_option linter.unusedVariables false
set_option linter.unusedSimpArgs false
open Go.RowKit

def tlA (a : Option Addr) (c : Nat) : Option Addr := if c = 1 then a else a.map (·.add 1)
theorem run_tl {T e : TypeId} (ht : Tryz.prog.underlying T = some (.slice e)) (hs : ∀ w, (Go.sizeOf e).run Tryz.prog w = .ok 1 w) (a : Option Addr) (n c : Nat) (h1 : 1 ≤ n) (h2 : n ≤ c) (w : World) :
    (Instr.slice T (.slice a n c) (some (.int .i64 1)) none none).run Tryz.prog w = .ok (.slice (tlA a c) (n - 1) (c - 1)) w := by
  have h3 : (1 : Int) ≤ (n : Int) := by omega
  have h4 : (n : Int) ≤ (c : Int) := by omega
  have h5 : 1 ≤ c := by omega
  by_cases hc : c = 1
  · subst hc
    obtain rfl : n = 1 := by omega
    simp [Instr.slice, Instr.sliceBounds, Instr.sliceBound, run_underlying ht, hs, asIntOf, tlA]
  · simp [Instr.slice, Instr.sliceBounds, Instr.sliceBound, run_underlying ht, hs, asIntOf, h1, h2, h3, h4, h5, hc, tlA]
theorem Sl.tl {W : World} {a : Option Addr} {n c : Nat} {l : List Int} (h : Sl W a n l) (h1 : 1 ≤ n) (h2 : n ≤ c) : Sl W (tlA a c) (n - 1) l.tail := by
  by_cases hn : n = 1
  · subst hn
    exact ⟨by rw [List.length_tail, h.1], fun h0 => by omega⟩
  · have h3 := h.cut1 h1
    unfold cutA at h3
    rw [if_neg hn] at h3
    unfold tlA
    rw [if_neg (by omega)]
    exact h3
theorem int_snoc (O : List Nat) (x : Nat) : valsI (intL (O ++ [x])) = valsI (intL O) ++ valsI [(x : Int)] := by simp [intL, valsI]
theorem int_app (O A : List Nat) : valsI (intL (O ++ A)) = valsI (intL O) ++ valsI (intL A) := by simp [intL, valsI]
/-- One side of the way of a merge: what is taken. -/
theorem sg_le {sg x y : Int} (h : sg = 1 ∨ sg = -1) : sg * (x - y).sign ≤ 0 ↔ sg * x ≤ sg * y := by
  rcases h with rfl | rfl
  · rw [Int.one_mul, Int.one_mul, Int.one_mul]
    constructor
    · intro h
      have := Int.sign_eq_one_iff_pos (a := x - y)
      by_cases hc : 0 < x - y
      · rw [this.2 hc] at h; omega
      · omega
    · intro h
      rcases Int.lt_trichotomy (x - y) 0 with hc | hc | hc
      · rw [Int.sign_eq_neg_one_iff_neg.2 hc]; omega
      · rw [hc]; simp
      · omega
  · rw [Int.neg_one_mul, Int.neg_one_mul, Int.neg_one_mul]
    constructor
    · intro h
      have := Int.sign_eq_neg_one_iff_neg (a := x - y)
      by_cases hc : x - y < 0
      · rw [this.2 hc] at h; omega
      · omega
    · intro h
      rcases Int.lt_trichotomy (x - y) 0 with hc | hc | hc
      · omega
      · rw [hc]; simp
      · rw [Int.sign_eq_one_iff_pos.2 hc]; omega
set_option maxRecDepth 100000 in
set_option maxHeartbeats 3200000 in
theorem rmerged_is {ea aa ba : Option Addr} {en ec na ca nb cb : Nat} {vs : List Int} {A B : List Nat} {sg : Int} (W : World) (hE : St W ea en (vs.map S)) (hv : ∀ x ∈ vs, x.natAbs < lim) (hsg : sg = 1 ∨ sg = -1)
    (hA : Sl W aa na (intL A)) (hB : Sl W ba nb (intL B)) (hca : na ≤ ca) (hcm : ca ≤ maxLen) (hcb : nb ≤ cb) (hcn : cb ≤ maxLen) (hla : ∀ i ∈ A, i < en) (hlb : ∀ i ∈ B, i < en) (hab : na + nb ≤ 100000) :
    Calls Tryz.prog 65 #[.slice ea en ec, .slice aa na ca, .slice ba nb cb, .int .i64 sg] W (ClI (na + nb) (intL (mg (fun i => sg * vs.getD i 0) A B)) W) := by
  have hel : vs.length = en := by have := hE.1; rwa [List.length_map] at this
  have hAl : A.length = na := by have := hA.1; rwa [intL_len] at this
  have hBl : B.length = nb := by have := hB.1; rwa [intL_len] at this
  obtain ⟨f, hf⟩ : ∃ f, f = fun i : Nat => sg * vs.getD i 0 := ⟨_, rfl⟩
  rw [← hf]
  have HF := Lib.hid hf
  have HE := Lib.hid (And.intro hE hel)
  have KC := Lib.hid (fun (x y : Nat) => rcmp_S (getD_bd hv x) (getD_bd hv y))
  have h0 : ∃ (xa ya : Option Addr) (pa pb qa qb : Nat) (A' B' O : List Nat), (.slice aa na ca : Value) = .slice xa pa qa ∧ (.slice ba nb cb : Value) = .slice ya pb qb ∧ Sl W xa pa (intL A') ∧ Sl W ya pb (intL B') ∧ (pa ≤ qa ∧ qa ≤ maxLen ∧ pb ≤ qb ∧ qb ≤ maxLen) ∧ Hid (A'.length = pa ∧ B'.length = pb ∧ mg f A B = O ++ mg f A' B' ∧ (∀ i ∈ A', i < en) ∧ ∀ i ∈ B', i < en) ∧ O.length + pa + pb = na + nb ∧ W.ownsRow W.heap.size 3 1 (.slice none 0 0) O.length (valsI (intL O)) ∧ Below W.heap.size W W :=
    ⟨aa, ba, na, nb, ca, cb, A, B, [], rfl, rfl, hA, hB, ⟨hca, hcm, hcb, hcn⟩, Lib.hid ⟨hAl, hBl, rfl, hla, hlb⟩, by simp, World.ownsRow_nil _ _ _ _, Below.refl _ _⟩
  clear hE hv hA hB hca hcm hcb hcn hla hlb hel hAl hBl hf
  go_enter Tryz.func65, Tryz.ntmps65
  go_wp2_with fail
  go_loopw [1, 2, 9] (fun av bv ov wr => ∃ (xa ya : Option Addr) (pa pb qa qb : Nat) (A' B' O : List Nat), av = .slice xa pa qa ∧ bv = .slice ya pb qb ∧ Sl W xa pa (intL A') ∧ Sl W ya pb (intL B') ∧ (pa ≤ qa ∧ qa ≤ maxLen ∧ pb ≤ qb ∧ qb ≤ maxLen) ∧ Hid (A'.length = pa ∧ B'.length = pb ∧ mg f A B = O ++ mg f A' B' ∧ (∀ i ∈ A', i < en) ∧ ∀ i ∈ B', i < en) ∧ O.length + pa + pb = na + nb ∧ wr.ownsRow W.heap.size 3 1 ov O.length (valsI (intL O)) ∧ Below W.heap.size W wr) (fun av bv _ _ => lenV av + lenV bv)
  case atStart => exact h0
  case round =>
    clear h0
    obtain ⟨xa, ya, pa, pb, qa, qb, A', B', O, rfl, rfl, hA, hB, hcp, HM, hlen, hown, hbq⟩ := hrel
    obtain ⟨oa, oc, rfl⟩ := own_form hown
    by_cases hpa : 0 < pa
    · by_cases hpb : 0 < pb
      · have e1 : (0 : Int) < (pa : Int) := by omega
        have e2 : (0 : Int) < (pb : Int) := by omega
        obtain ⟨x, A2, rfl⟩ : ∃ x r, A' = x :: r := by
          cases A' with
          | nil => have := HM.out.1; simp at this; omega
          | cons x r => exact ⟨x, r, rfl⟩
        obtain ⟨y, B2, rfl⟩ : ∃ y r, B' = y :: r := by
          cases B' with
          | nil => have := HM.out.2.1; simp at this; omega
          | cons y r => exact ⟨y, r, rfl⟩
        have hx : x < en := HM.out.2.2.2.1 x (List.mem_cons_self ..)
        have hy : y < en := HM.out.2.2.2.2 y (List.mem_cons_self ..)
        obtain ⟨p1, o1, rfl, hc1⟩ := hA.2 hpa
        obtain ⟨p2, o2, rfl, hc2⟩ := hB.2 hpb
        obtain ⟨pe, oe, rfl, hce⟩ := HE.out.1.2 (by omega)
        have k1 := hc1 0 hpa
        have k2 := hc2 0 hpb
        have k3 := hce x hx
        have k4 := hce y hy
        rw [show (intL (x :: A2)).getD 0 0 = (x : Int) from rfl, Nat.add_zero] at k1
        rw [show (intL (y :: B2)).getD 0 0 = (y : Int) from rfl, Nat.add_zero] at k2
        rw [getD_S (by rw [HE.out.2]; exact hx)] at k3
        rw [getD_S (by rw [HE.out.2]; exact hy)] at k4
        have HK : Hid (∀ z, Below W.heap.size W z → z.cell? ⟨p1, o1, none⟩ = some (.int .i64 (x : Int)) ∧ z.cell? ⟨p2, o2, none⟩ = some (.int .i64 (y : Int)) ∧ z.cell? ⟨pe, oe + x, none⟩ = some (.string (S (vs.getD x 0))) ∧ z.cell? ⟨pe, oe + y, none⟩ = some (.string (S (vs.getD y 0)))) := Lib.hid fun z hz => ⟨(hz.cell (World.block_lt_of_cell? W _ k1)).trans k1, (hz.cell (World.block_lt_of_cell? W _ k2)).trans k2, (hz.cell (World.block_lt_of_cell? W _ k3)).trans k3, (hz.cell (World.block_lt_of_cell? W _ k4)).trans k4⟩
        have KQ := KC.out x y
        have hle : sg * (vs.getD x 0 - vs.getD y 0).sign ≤ 0 ↔ f x ≤ f y := by rw [HF.out]; exact sg_le hsg
        obtain ⟨z, hz⟩ : ∃ z, z = (vs.getD x 0 - vs.getD y 0).sign := ⟨_, rfl⟩
        have hzr : -1 ≤ z ∧ z ≤ 1 := by
          rw [hz]
          rcases Int.lt_trichotomy (vs.getD x 0 - vs.getD y 0) 0 with h | h | h
          · rw [Int.sign_eq_neg_one_iff_neg.2 h]; omega
          · rw [h]; simp
          · rw [Int.sign_eq_one_iff_pos.2 h]; omega
        rw [← hz] at KQ hle
        clear hz hc1 hc2 hce k1 k2 k3 k4
        generalize S (vs.getD x 0) = tx at *
        generalize S (vs.getD y 0) = ty at *
        obtain ⟨v, hv⟩ : ∃ v, v = sg * z := ⟨_, rfl⟩
        have hw : IntKind.i64.wrap (sg * z) = v := by rw [hv]; exact IntWalk.i64_in _ (by rcases hsg with rfl | rfl <;> omega)
        rw [← hv] at hle
        clear hv
        have hr1 := run_tl Tryz.underlying22 sizeInt (some ⟨p1, o1, none⟩) pa qa hpa hcp.1
        have hr2 := run_tl Tryz.underlying22 sizeInt (some ⟨p2, o2, none⟩) pb qb hpb hcp.2.2.1
        have tA := Lib.hid (hA.tl hpa hcp.1)
        have tB := Lib.hid (hB.tl hpb hcp.2.2.1)
        rw [show (intL (x :: A2)).tail = intL A2 from rfl] at tA
        rw [show (intL (y :: B2)).tail = intL B2 from rfl] at tB
        obtain ⟨ta, hta⟩ : ∃ t, t = tlA (some ⟨p1, o1, none⟩) qa := ⟨_, rfl⟩
        obtain ⟨tb, htb⟩ : ∃ t, t = tlA (some ⟨p2, o2, none⟩) qb := ⟨_, rfl⟩
        rw [← hta] at hr1 tA
        rw [← htb] at hr2 tB
        have HAA := Lib.hid hA
        have HBB := Lib.hid hB
        have HO := Lib.hid hown
        have exi : (0 : Int) ≤ (x : Int) := by omega
        have exu : (x : Int) < (en : Int) := by omega
        have eyi : (0 : Int) ≤ (y : Int) := by omega
        have eyu : (y : Int) < (en : Int) := by omega
        have Q1 : Hid (∀ zz, Below wr.heap.size wr zz → Calls Tryz.prog 72 #[.string tx, .string ty] zz fun e w' => e = .returned (.int .i64 z) ∧ Below wr.heap.size wr w') := Lib.hid fun zz hzz => (KQ zz).mono fun e w' k => ⟨k.1, hzz.trans (k.2.mono hzz.size)⟩
        have hq : Below wr.heap.size wr wr := Below.refl _ _
        have hqz := hq.size
        have HBQ := Lib.hid hbq
        have HK2 : Hid (∀ z, Below wr.heap.size wr z → z.cell? ⟨p1, o1, none⟩ = some (.int .i64 (x : Int)) ∧ z.cell? ⟨p2, o2, none⟩ = some (.int .i64 (y : Int)) ∧ z.cell? ⟨pe, oe + x, none⟩ = some (.string tx) ∧ z.cell? ⟨pe, oe + y, none⟩ = some (.string ty)) := Lib.hid fun z hz => HK.out z (HBQ.out.trans (hz.mono HBQ.out.size))
        have hcx := HK2.out wr hq
        obtain ⟨c1, c2, c3, c4⟩ := hcx
        clear hA hB hown hbq hta htb KQ
        go_wp2_with fail
        go_region_held3 (fun w' => w'.cell? ⟨p1, o1, none⟩ = some (.int .i64 (x : Int)) ∧ w'.cell? ⟨p2, o2, none⟩ = some (.int .i64 (y : Int)) ∧ w'.cell? ⟨pe, oe + x, none⟩ = some (.string tx) ∧ w'.cell? ⟨pe, oe + y, none⟩ = some (.string ty))
          (first | exact HK2.out _ (by repeat' (first | exact hq | refine Below.drew ?_ | refine below_drewN ?_ _ | refine Below.alloc ?_ ?_ _ | refine Below.setCell ?_ ?_ _ | exact hqz | exact Nat.le_refl _ | omega | (simp; done) | (simp; omega))) | fail)
          (first
            | (go_at_call 72; (with_reducible refine (Q1.out _ (by repeat' (first | exact hq | refine Below.drew ?_ | refine below_drewN ?_ _ | refine Below.alloc ?_ ?_ _ | refine Below.setCell ?_ ?_ _ | exact hqz | exact Nat.le_refl _ | omega | (simp; done) | (simp; omega)))).mono ?_); rintro e wa ⟨rfl, hq⟩; have hqz := hq.size)
            | fail)
        all_goals
          have hb5 := Lib.hid (HBQ.out.trans (hq.mono HBQ.out.size))
          obtain ⟨c1, c2, _, _⟩ := HK.out _ hb5.out
          have ho5 := own_below HO.out hq
          clear HK2 Q1 hq HO
          by_cases hff : f x ≤ f y
          · have hv0 : v ≤ 0 := hle.2 hff
            have ho2 := Lib.hid (ho5.alloc (.cells #[.int .i64 (x : Int)] 3))
            have hr5 := Lib.hid (own_rd (own_new1 wa (x : Int)))
            have hsz5 := hb5.out.size
            clear ho5 c2
            go_upto_region 5 with (at_builtin; refine wpList_append_rd rfl (.tmp 34) (.tmp 38) 22 rfl W.heap.size 3 (.int .i64 0) 8 Tryz.underlying22 infoInt1 rfl (by decide) _ O.length _ rfl ho2.out _ 1 1 (valsI [(x : Int)]) rfl hr5.out (valsI_one _) (by omega) (by simp; omega) ?_; intro av' cv' w3 hown3 hg3)
            have hb6 : Below W.heap.size W w3 := (hb5.out.alloc hb5.out.size _).trans (grown_below' hg3 (fun g' hg' => (ho2.out.lt g' hg').1) (by simp; omega))
            rw [← int_snoc] at hown3
            clear hg3 ho2 hr5
            go_wp2_with fail
            go_roundw
            case rel => exact ⟨ta, _, pa - 1, pb, qa - 1, qb, A2, y :: B2, O ++ [x], rfl, rfl, tA.out, HBB.out, ⟨by omega, by omega, hcp.2.2.1, hcp.2.2.2⟩, Lib.hid ⟨by have := HM.out.1; simp at this; omega, HM.out.2.1, by rw [HM.out.2.2.1, mg_l hff, List.append_assoc]; rfl, fun i hi => HM.out.2.2.2.1 i (List.mem_cons_of_mem _ hi), HM.out.2.2.2.2⟩, by simp; omega, by rw [List.length_append]; exact hown3, hb6⟩
            case measure => simp [lenV]; omega
          · have hv0 : ¬ v ≤ 0 := fun h => hff (hle.1 h)
            have ho2 := Lib.hid (ho5.alloc (.cells #[.int .i64 (y : Int)] 3))
            have hr5 := Lib.hid (own_rd (own_new1 wa (y : Int)))
            have hsz5 := hb5.out.size
            clear ho5 c1
            go_upto_region 7 with (at_builtin; refine wpList_append_rd rfl (.tmp 42) (.tmp 46) 22 rfl W.heap.size 3 (.int .i64 0) 8 Tryz.underlying22 infoInt1 rfl (by decide) _ O.length _ rfl ho2.out _ 1 1 (valsI [(y : Int)]) rfl hr5.out (valsI_one _) (by omega) (by simp; omega) ?_; intro av' cv' w3 hown3 hg3)
            have hb6 : Below W.heap.size W w3 := (hb5.out.alloc hb5.out.size _).trans (grown_below' hg3 (fun g' hg' => (ho2.out.lt g' hg').1) (by simp; omega))
            rw [← int_snoc] at hown3
            clear hg3 ho2 hr5
            go_wp2_with fail
            go_roundw
            case rel => exact ⟨_, tb, pa, pb - 1, qa, qb - 1, x :: A2, B2, O ++ [y], rfl, rfl, HAA.out, tB.out, ⟨hcp.1, hcp.2.1, by omega, by omega⟩, Lib.hid ⟨HM.out.1, by have := HM.out.2.1; simp at this; omega, by rw [HM.out.2.2.1, mg_r hff, List.append_assoc]; rfl, HM.out.2.2.2.1, fun i hi => HM.out.2.2.2.2 i (List.mem_cons_of_mem _ hi)⟩, by simp; omega, by rw [List.length_append]; exact hown3, hb6⟩
            case measure => simp [lenV]; omega
      · have e1 : (0 : Int) < (pa : Int) := by omega
        have e2 : ¬ ((0 : Int) < (pb : Int)) := by omega
        have HG : Hid (mg f A B = O ++ A' ++ B') := Lib.hid (by
          have : B' = [] := List.eq_nil_of_length_eq_zero (by rw [HM.out.2.1]; omega)
          rw [HM.out.2.2.1, this, mg_nil', List.append_nil])
        have hr1 := Lib.hid (hA.below hbq).rd
        have hr2 := Lib.hid (fun w (hb : Below W.heap.size W w) => (hB.below hb).rd)
        have ho2 := Lib.hid hown
        have hbs := hbq.size
        have HBQ := Lib.hid hbq
        clear hA hB hown hbq
        go_upto_region 9 with (at_builtin; refine wpList_append_rd rfl (.tmp 50) (.tmp 51) 22 rfl W.heap.size 3 (.int .i64 0) 8 Tryz.underlying22 infoInt1 rfl (by decide) _ O.length _ rfl ho2.out _ pa _ (valsI (intL A')) rfl hr1.out (valsI_one _) (by omega) hbs ?_; intro av' cv' w3 hown3 hg3)
        have hb6 : Hid (Below W.heap.size W w3) := Lib.hid (HBQ.out.trans (grown_below' hg3 (fun g' hg' => (ho2.out.lt g' hg').1) hbs))
        have hr3 := Lib.hid (hr2.out w3 hb6.out)
        have ho3 := Lib.hid hown3
        have hbs3 := hb6.out.size
        clear hg3 ho2 hr1 hr2 hown3 HBQ
        go_wp2_with (at_builtin; refine wpList_append_rd rfl (.tmp 53) (.tmp 54) 22 rfl W.heap.size 3 (.int .i64 0) 8 Tryz.underlying22 infoInt1 rfl (by decide) _ (O.length + pa) _ rfl ho3.out _ pb _ (valsI (intL B')) rfl hr3.out (valsI_one _) (by omega) hbs3 ?_; intro av'' cv'' w4 hown4 hg4)
        have hb7 : Below W.heap.size W w4 := hb6.out.trans (grown_below' hg4 (fun g' hg' => (ho3.out.lt g' hg').1) hbs3)
        rw [← int_app, ← int_app, ← HG.out, hlen] at hown4
        try rw [hlen]
        go_ret
        exact ⟨av'', cv'', rfl, hown4, hb7⟩
    · have e1 : ¬ ((0 : Int) < (pa : Int)) := by omega
      have HG : Hid (mg f A B = O ++ A' ++ B') := Lib.hid (by
        have : A' = [] := List.eq_nil_of_length_eq_zero (by rw [HM.out.1]; omega)
        rw [HM.out.2.2.1, this, mg_nil, List.append_nil])
      have hr1 := Lib.hid (hA.below hbq).rd
      have hr2 := Lib.hid (fun w (hb : Below W.heap.size W w) => (hB.below hb).rd)
      have ho2 := Lib.hid hown
      have hbs := hbq.size
      have HBQ := Lib.hid hbq
      clear hA hB hown hbq
      go_upto_region 9 with (at_builtin; refine wpList_append_rd rfl (.tmp 50) (.tmp 51) 22 rfl W.heap.size 3 (.int .i64 0) 8 Tryz.underlying22 infoInt1 rfl (by decide) _ O.length _ rfl ho2.out _ pa _ (valsI (intL A')) rfl hr1.out (valsI_one _) (by omega) hbs ?_; intro av' cv' w3 hown3 hg3)
      have hb6 : Hid (Below W.heap.size W w3) := Lib.hid (HBQ.out.trans (grown_below' hg3 (fun g' hg' => (ho2.out.lt g' hg').1) hbs))
      have hr3 := Lib.hid (hr2.out w3 hb6.out)
      have ho3 := Lib.hid hown3
      have hbs3 := hb6.out.size
      clear hg3 ho2 hr1 hr2 hown3 HBQ
      go_wp2_with (at_builtin; refine wpList_append_rd rfl (.tmp 53) (.tmp 54) 22 rfl W.heap.size 3 (.int .i64 0) 8 Tryz.underlying22 infoInt1 rfl (by decide) _ (O.length + pa) _ rfl ho3.out _ pb _ (valsI (intL B')) rfl hr3.out (valsI_one _) (by omega) hbs3 ?_; intro av'' cv'' w4 hown4 hg4)
      have hb7 : Below W.heap.size W w4 := hb6.out.trans (grown_below' hg4 (fun g' hg' => (ho3.out.lt g' hg').1) hbs3)
      rw [← int_app, ← int_app, ← HG.out, hlen] at hown4
      try rw [hlen]
      go_ret
      exact ⟨av'', cv'', rfl, hown4, hb7⟩
set_option maxRecDepth 100000 in
set_option maxHeartbeats 3200000 in
theorem rhalves_is {ea : Option Addr} {en ec : Nat} {vs : List Int} {sg : Int} (hv : ∀ x ∈ vs, x.natAbs < lim) (hsg : sg = 1 ∨ sg = -1) (hen : en ≤ 4096) : ∀ (k p q : Nat), q - p ≤ k → q ≤ en → p ≤ 4096 → ∀ W, St W ea en (vs.map S) →
    Calls Tryz.prog 51 #[.slice ea en ec, .int .i64 (p : Int), .int .i64 (q : Int), .int .i64 sg] W fun e W' => ∃ L, Orr (fun i => sg * vs.getD i 0) p q L ∧ ClI (q - p) (intL L) W e W' := by
  intro k
  induction k with
  | zero =>
    intro p q hk hq hp W _
    have e1 : (q : Int) ≤ (p : Int) := by omega
    have e2 : q - p = 0 := by omega
    rw [e2]
    go_enter Tryz.func51, Tryz.ntmps51
    go_wp2_with fail
    go_ret
    exact ⟨[], Orr.none (by omega), none, 0, rfl, World.ownsRow_nil _ _ _ _, Below.refl _ _⟩
  | succ k ih =>
    intro p q hk hq hp W hE
    by_cases h1 : q ≤ p
    · have e1 : (q : Int) ≤ (p : Int) := by omega
      have e2 : q - p = 0 := by omega
      rw [e2]
      clear ih hE
      go_enter Tryz.func51, Tryz.ntmps51
      go_wp2_with fail
      go_ret
      exact ⟨[], Orr.none (by omega), none, 0, rfl, World.ownsRow_nil _ _ _ _, Below.refl _ _⟩
    · have e1 : ¬ ((q : Int) ≤ (p : Int)) := by omega
      by_cases h2 : p + 1 = q
      · subst h2
        clear ih hE
        have e2 : p + 1 - p = 1 := by omega
        rw [e2]
        have HN := Lib.hid (own_new1 W (p : Int))
        go_enter Tryz.func51, Tryz.ntmps51
        go_wp2_with fail
        go_ret
        exact ⟨[p], Orr.one, _, _, rfl, HN.out, (Below.refl _ _).alloc (Nat.le_refl _) _⟩
      · have e2 : ¬ ((p : Int) + 1 = (q : Int)) := by omega
        obtain ⟨m, hm⟩ : ∃ m, m = (p + q) / 2 := ⟨_, rfl⟩
        have hq2 : ((p : Int) + (q : Int)) / 2 = (m : Int) := by omega
        have I1 := Lib.hid (ih p m (by omega) (by omega) hp W hE)
        have I2 := Lib.hid (fun w (hb : Below W.heap.size W w) => ih m q (by omega) hq (by omega) w (hE.below hb))
        have HE := Lib.hid hE
        have HP := Lib.hid (show p ≤ m ∧ m ≤ q from by omega)
        have HM := Lib.hid hm
        clear ih hE hm
        go_enter Tryz.func51, Tryz.ntmps51
        go_wp2_with fail
        refine I1.out.mono ?_
        rintro e w1 ⟨L1, ho1, a1, c1, rfl, hs1, hb1⟩
        have K2 := Lib.hid (I2.out w1 hb1)
        go_wp2_with fail
        refine K2.out.mono ?_
        rintro e w2 ⟨L2, ho2, a2, c2, rfl, hs2, hb2⟩
        have hb := hb1.trans (hb2.mono hb1.size)
        have K3 := Lib.hid (rmerged_is (ec := ec) (ca := c1) (cb := c2) w2 (HE.out.below hb) hv hsg (own_sl (own_below hs1 hb2)) (own_sl hs2) (own_caps hs1).1 (own_caps hs1).2 (own_caps hs2).1 (own_caps hs2).2 (fun i hi => by have := (ho1.all i).1 hi; have := HP.out; omega) (fun i hi => by have := (ho2.all i).1 hi; omega) (by omega))
        rw [show m - p + (q - m) = q - p by have := HP.out; omega] at K3
        have HO := Lib.hid (Orr.merged HP.out.1 HP.out.2 ho1 ho2)
        have HB := Lib.hid hb
        clear hs1 hs2 hb hb1 hb2 ho1 ho2 I1 I2 K2
        go_wp2_with fail
        refine K3.out.mono ?_
        rintro e w3 ⟨a3, c3, rfl, hs3, hb3⟩
        go_wp2_with fail
        go_ret
        exact ⟨_, HO.out, _, _, rfl, own_base hs3 HB.out.size, HB.out.trans (hb3.mono HB.out.size)⟩
end Go.Proofs.YtpledghphljfkaaGreatDoor
/-
  The reference's order, Up, Down, Where, by their contracts.
-/
namespace Go.Proofs.YtpledghphljfkaaGreatDoor
set_option linter.unusedVariables false
set_option linter.unusedSimpArgs false
open Go.RowKit

theorem up_no {o : Option Ar} {sg : Int} (h : vcE o ≠ 0) : upK sg o = (none, vcE o) := by
  cases o with
  | none => rfl
  | some v =>
    unfold vcE at h ⊢
    unfold upK
    dsimp only at h ⊢
    by_cases hl : v.1.length ≠ 1
    · rw [if_pos hl, if_pos hl]
    · rw [if_neg hl] at h; exact absurd rfl h
theorem wh_no {o : Option Ar} (h : vcE o ≠ 0) : whK o = (none, vcE o) := by
  cases o with
  | none => rfl
  | some v =>
    unfold vcE at h ⊢
    unfold whK
    dsimp only at h ⊢
    by_cases hl : v.1.length ≠ 1
    · rw [if_pos hl, if_pos hl]
    · rw [if_neg hl] at h; exact absurd rfl h
theorem vc_yes {o : Option Ar} (h : vcE o = 0) : ∃ v, o = some v ∧ v.1.length = 1 := by
  cases o with
  | none => cases h
  | some v =>
    unfold vcE at h
    dsimp only at h
    by_cases hl : v.1.length ≠ 1
    · rw [if_pos hl] at h; cases h
    · exact ⟨v, rfl, by omega⟩
set_option maxRecDepth 100000 in
set_option maxHeartbeats 3200000 in
theorem ror_no {a1 b1 : Option Addr} {n1 c1 m1 d1 : Nat} {l : List Int} {es : List ByteArray} {W : World} {o : Option Ar} {sg : Int} (h1 : Av W a1 n1 c1 b1 m1 d1 l es o) (hv : vcE o ≠ 0) :
    Calls Tryz.prog 24 #[.agg #[.slice a1 n1 c1, .slice b1 m1 d1], .int .i64 sg] W (MEnd (none, vcE o) W) := by
  have KC := Lib.hid (fun w (hb : Below W.heap.size W w) => rvec_is (h1.below hb))
  generalize vcE o = k at *
  have hk : (k != 0) = true := by simpa using hv
  clear h1 hv
  have h := live1 W a1 n1 c1 b1 m1 d1
  go_enter Tryz.func24, Tryz.ntmps24
  have x1 := h.out.2.1.c0
  have y1 := h.out.2.1.c1
  go_wp2_with fail
  with_reducible refine (live h (KC.out _ h.out.2.2)).mono ?_
  clear h x1 y1
  rintro e w ⟨rfl, h⟩
  have y0 := h.out.1.c0
  have y3 := h.out.1.c1
  have f0 := h.out.1.f 0
  have f1 := h.out.1.f 1
  go_wp2_with fail
  have hR := h.out.1.set none 0 0 none 0 0
  have r0 := hR.c0
  have r1 := hR.c1
  exact bodyPost_ret (v := .tuple #[.agg #[.slice none 0 0, .slice none 0 0], .int .i64 k]) (by simp [results, Tryz.results24, go_sem, r0, r1]) rfl (mend_no h.out.1 h.out.2.2 (by omega))
set_option maxRecDepth 100000 in
set_option maxHeartbeats 3200000 in
theorem ror_yes {a1 b1 : Option Addr} {n1 c1 m1 d1 : Nat} {l : List Int} {es : List ByteArray} {W : World} {q : Ar} {sg : Int} (h1 : Av W a1 n1 c1 b1 m1 d1 l es (some q)) (hv : vcE (some q) = 0) (hsg : sg = 1 ∨ sg = -1) :
    Calls Tryz.prog 24 #[.agg #[.slice a1 n1 c1, .slice b1 m1 d1], .int .i64 sg] W (MEnd (some ([(q.2.length : Int)], intL (orL (fun i => sg * q.2.getD i 0) q.2.length)), 0) W) := by
  have KC := Lib.hid (fun w (hb : Below W.heap.size W w) => rvec_is (h1.below hb))
  rw [hv] at KC
  have hm4 := h1.mlen.2.2
  have hml := h1.mlen.1
  obtain ⟨f, hf⟩ : ∃ f, f = fun i : Nat => sg * q.2.getD i 0 := ⟨_, rfl⟩
  have KH := Lib.hid (fun w (hb : Below W.heap.size W w) => (show Calls Tryz.prog 51 #[.slice b1 m1 d1, .int .i64 0, .int .i64 (m1 : Int), .int .i64 sg] w fun e w' => ∃ a c, e = .returned (.slice a m1 c) ∧ Sl w' a m1 (intL (orL f m1)) ∧ Below w.heap.size w w' from by
    have hs := h1.v.t.below hb
    rw [h1.i.2.1] at hs
    refine (rhalves_is (ec := d1) h1.i.2.2.2 hsg hm4 m1 0 m1 (by omega) (Nat.le_refl _) (by omega) w hs).mono fun e w' h => ?_
    obtain ⟨L, ho, a, c, k1, k2, k3⟩ := h
    rw [← hf] at ho
    rw [orL_is ho.ord]
    exact ⟨a, c, k1, k2.sl, k3⟩))
  have KI := Lib.hid (fun w a c (hs : Sl w a m1 (intL (orL f m1))) => rints_is a m1 c (intL (orL f m1)) w hs (fun j hj => by
    have hl : j < (orL f m1).length := by rw [or_len]; exact hj
    have h5 := or_lt (f := f) (n := m1) _ (List.getElem_mem hl)
    rw [List.getD_eq_getElem?_getD, intL, List.getElem?_map, List.getElem?_eq_getElem hl]
    show I64 ((orL f m1)[j] : Int)
    unfold I64; omega) (by omega))
  have HR := Lib.hid (or_rok f hm4)
  have HF := Lib.hid hf
  have HM := Lib.hid hml
  clear h1 hv hf hml
  have h := live1 W a1 n1 c1 b1 m1 d1
  go_enter Tryz.func24, Tryz.ntmps24
  have x1 := h.out.2.1.c0
  have y1 := h.out.2.1.c1
  go_wp2_with fail
  with_reducible refine (live h (KC.out _ h.out.2.2)).mono ?_
  clear h x1 y1
  rintro e w ⟨rfl, h⟩
  have x1 := h.out.2.1.c0
  have y1 := h.out.2.1.c1
  go_wp2_with fail
  refine (KH.out _ h.out.2.2).mono ?_
  rintro e w2 ⟨la, lc, rfl, hs, hb⟩
  replace h := live_to h hb
  have HS := Lib.hid hs
  clear hs hb x1 y1
  have y0 := h.out.1.c0
  have y3 := h.out.1.c1
  have f0 := h.out.1.f 0
  have f1 := h.out.1.f 1
  go_wp2_with fail
  with_reducible refine (live_pt h (KI.out _ _ lc HS.out)).mono ?_
  clear h y0 y3 f0 f1
  rintro e w ⟨ar, nr, cr, br, mr, dr, rfl, h, hv, hc⟩
  have y0 := h.out.1.c0
  have y3 := h.out.1.c1
  have f0 := h.out.1.f 0
  have f1 := h.out.1.f 1
  go_wp2_with fail
  have hR := h.out.1.set ar nr cr br mr dr
  have r0 := hR.c0
  have r1 := hR.c1
  exact bodyPost_ret (v := .tuple #[.agg #[.slice ar nr cr, .slice br mr dr], .int .i64 0]) (by simp [results, Tryz.results24, go_sem, r0, r1]) rfl (by
    rw [← HM.out, ← HF.out]
    exact mend_box (r := (some ([(m1 : Int)], intL (orL f m1)), 0)) h.out.1 h.out.2.2 (by omega) hv hc HR.out)
theorem rorder_is {a1 b1 : Option Addr} {n1 c1 m1 d1 : Nat} {l : List Int} {es : List ByteArray} {W : World} {o : Option Ar} {sg : Int} (h1 : Av W a1 n1 c1 b1 m1 d1 l es o) (hsg : sg = 1 ∨ sg = -1) : Calls Tryz.prog 24 #[.agg #[.slice a1 n1 c1, .slice b1 m1 d1], .int .i64 sg] W (MEnd (upK sg o) W) := by
  by_cases hv : vcE o = 0
  · obtain ⟨q, rfl, hl⟩ := vc_yes hv
    rw [up_yes sg hl]
    exact ror_yes h1 hv hsg
  · rw [up_no hv]; exact ror_no h1 hv
set_option maxRecDepth 100000 in
set_option maxHeartbeats 3200000 in
theorem rUp_is {a1 b1 : Option Addr} {n1 c1 m1 d1 : Nat} {l : List Int} {es : List ByteArray} {W : World} {o : Option Ar} (h1 : Av W a1 n1 c1 b1 m1 d1 l es o) : Calls Tryz.prog 8 #[.agg #[.slice a1 n1 c1, .slice b1 m1 d1]] W (MEnd (upK 1 o) W) := by
  have KO := Lib.hid (fun w (hb : Below W.heap.size W w) => rorder_is (sg := 1) (h1.below hb) (by simp))
  clear h1
  generalize upK 1 o = R at *
  obtain ⟨ro, rk⟩ := R
  have h := live1 W a1 n1 c1 b1 m1 d1
  go_enter Tryz.func8, Tryz.ntmps8
  have x1 := h.out.2.1.c0
  have y1 := h.out.2.1.c1
  have y0 := h.out.1.c0
  have y3 := h.out.1.c1
  have f0 := h.out.1.f 0
  have f1 := h.out.1.f 1
  go_wp2_with fail
  refine (KO.out _ h.out.2.2).mono ?_
  clear y0 y3 f0 f1 x1 y1
  rintro e w ⟨ar, nr, cr, br, mr, dr, rfl, hA, hb⟩
  replace h := live_to h hb
  have y0 := h.out.1.c0
  have y3 := h.out.1.c1
  have f0 := h.out.1.f 0
  have f1 := h.out.1.f 1
  go_wp2_with fail
  have hR := h.out.1.set ar nr cr br mr dr
  have r0 := hR.c0
  have r1 := hR.c1
  exact bodyPost_ret (v := .tuple #[.agg #[.slice ar nr cr, .slice br mr dr], .int .i64 rk]) (by simp [results, Tryz.results8, go_sem, r0, r1]) rfl ⟨_, _, _, _, _, _, rfl, ⟨⟨h.out.1.sl hA.v.s _ _, h.out.1.st hA.v.t _ _, hA.v.mm⟩, hA.c, hA.z, hA.i⟩, below_made h.out.2.2 (by omega) _ _⟩
set_option maxRecDepth 100000 in
set_option maxHeartbeats 3200000 in
theorem rDown_is {a1 b1 : Option Addr} {n1 c1 m1 d1 : Nat} {l : List Int} {es : List ByteArray} {W : World} {o : Option Ar} (h1 : Av W a1 n1 c1 b1 m1 d1 l es o) : Calls Tryz.prog 10 #[.agg #[.slice a1 n1 c1, .slice b1 m1 d1]] W (MEnd (upK (-1) o) W) := by
  have KO := Lib.hid (fun w (hb : Below W.heap.size W w) => rorder_is (sg := -1) (h1.below hb) (by simp))
  clear h1
  generalize upK (-1) o = R at *
  obtain ⟨ro, rk⟩ := R
  have h := live1 W a1 n1 c1 b1 m1 d1
  go_enter Tryz.func10, Tryz.ntmps10
  have x1 := h.out.2.1.c0
  have y1 := h.out.2.1.c1
  have y0 := h.out.1.c0
  have y3 := h.out.1.c1
  have f0 := h.out.1.f 0
  have f1 := h.out.1.f 1
  go_wp2_with fail
  refine (KO.out _ h.out.2.2).mono ?_
  clear y0 y3 f0 f1 x1 y1
  rintro e w ⟨ar, nr, cr, br, mr, dr, rfl, hA, hb⟩
  replace h := live_to h hb
  have y0 := h.out.1.c0
  have y3 := h.out.1.c1
  have f0 := h.out.1.f 0
  have f1 := h.out.1.f 1
  go_wp2_with fail
  have hR := h.out.1.set ar nr cr br mr dr
  have r0 := hR.c0
  have r1 := hR.c1
  exact bodyPost_ret (v := .tuple #[.agg #[.slice ar nr cr, .slice br mr dr], .int .i64 rk]) (by simp [results, Tryz.results10, go_sem, r0, r1]) rfl ⟨_, _, _, _, _, _, rfl, ⟨⟨h.out.1.sl hA.v.s _ _, h.out.1.st hA.v.t _ _, hA.v.mm⟩, hA.c, hA.z, hA.i⟩, below_made h.out.2.2 (by omega) _ _⟩
end Go.Proofs.YtpledghphljfkaaGreatDoor

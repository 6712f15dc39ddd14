import Derived.Test.YtomkjmhebnecbaaGreatDoorMbh
/-
  The reference's words: the numbers that the words of a text are.
-/
namespace Go.Proofs.YtomkjmhebnecbaaGreatDoor
set_option linter.unusedVariables false
set_option linter.unusedSimpArgs false
open Go.RowKit

theorem spW_len : ∀ (r w : List UInt8), (spW w r).length ≤ r.length + 1 ∧ ∀ x ∈ spW w r, x.length ≤ w.length + r.length
  | [], w => by
    show (if w = [] then [] else [w]).length ≤ _ ∧ ∀ x ∈ (if w = [] then [] else [w]), _
    split
    · exact ⟨by simp, fun x hx => by cases hx⟩
    · exact ⟨by simp, fun x hx => by rw [List.mem_singleton.1 hx]; simp⟩
  | c :: r, w => by
    have h1 := spW_len r []
    have h2 := spW_len r (w ++ [c])
    show (if c = 32 ∨ c = 44 then (if w = [] then spW [] r else w :: spW [] r) else spW (w ++ [c]) r).length ≤ _ ∧ ∀ x ∈ (if c = 32 ∨ c = 44 then (if w = [] then spW [] r else w :: spW [] r) else spW (w ++ [c]) r), _
    split
    · split
      · exact ⟨by have := h1.1; simp; omega, fun x hx => by have := h1.2 x hx; simp at this ⊢; omega⟩
      · refine ⟨by have := h1.1; simp; omega, fun x hx => ?_⟩
        rcases List.mem_cons.1 hx with rfl | hx
        · simp
        · have := h1.2 x hx; simp at this ⊢; omega
    · exact ⟨by have := h2.1; simp; omega, fun x hx => by have := h2.2 x hx; simp at this ⊢; omega⟩
/-- What the words' loop has: the words that are out, the one begun, the place. -/
def WdI (s : List UInt8) (k : Nat) (os : List (List UInt8)) (w : List UInt8) : Prop := os ++ spW w (s.drop k) = spW [] s ∧ w.length ≤ k ∧ os.length ≤ k
theorem WdI.sep {s : List UInt8} {k : Nat} {os : List (List UInt8)} {w : List UInt8} (h : WdI s k os w) {c : UInt8} (hd : s.drop k = c :: s.drop (k + 1)) (hc : c = 32 ∨ c = 44) :
    (w = [] → WdI s (k + 1) os []) ∧ (w ≠ [] → WdI s (k + 1) (os ++ [w]) []) := by
  obtain ⟨h1, h2, h3⟩ := h
  rw [hd] at h1
  constructor
  · intro hw
    subst hw
    refine ⟨?_, Nat.zero_le _, by omega⟩
    rw [← h1]
    congr 1
    show _ = (if c = 32 ∨ c = 44 then (if ([] : List UInt8) = [] then _ else _) else _)
    rw [if_pos hc, if_pos rfl]
  · intro hw
    refine ⟨?_, Nat.zero_le _, by simp; omega⟩
    rw [← h1, List.append_assoc]
    congr 1
    show _ = (if c = 32 ∨ c = 44 then (if w = [] then _ else _) else _)
    rw [if_pos hc, if_neg hw]
    rfl
theorem WdI.go {s : List UInt8} {k : Nat} {os : List (List UInt8)} {w : List UInt8} (h : WdI s k os w) {c : UInt8} (hd : s.drop k = c :: s.drop (k + 1)) (hc : ¬ (c = 32 ∨ c = 44)) : WdI s (k + 1) os (w ++ [c]) := by
  obtain ⟨h1, h2, h3⟩ := h
  rw [hd] at h1
  refine ⟨?_, by simp; omega, by omega⟩
  rw [← h1]
  congr 1
  show _ = (if c = 32 ∨ c = 44 then _ else spW (w ++ [c]) _)
  rw [if_neg hc]
theorem WdI.ends {s : List UInt8} {k : Nat} {os : List (List UInt8)} {w : List UInt8} (h : WdI s k os w) (hk : s.length ≤ k) : (w = [] → os = spW [] s) ∧ (w ≠ [] → os ++ [w] = spW [] s) := by
  obtain ⟨h1, _, _⟩ := h
  rw [List.drop_eq_nil_of_le hk] at h1
  have e : spW w [] = if w = [] then [] else [w] := rfl
  rw [e] at h1
  constructor
  · intro hw
    rw [if_pos hw, List.append_nil] at h1
    exact h1
  · intro hw
    rw [if_neg hw] at h1
    exact h1
theorem valsT_snoc (os : List (List UInt8)) (w : List UInt8) : valsT os ++ [.string (tx w)] = valsT (os ++ [w]) := by unfold valsT; rw [List.map_append]; rfl
theorem byte_at (s : List UInt8) (k : Nat) (h : k < (tx s).size) : s.drop k = (tx s)[k] :: s.drop (k + 1) := by
  rw [List.drop_eq_getElem_cons (by rw [← tx_size]; exact h)]; rfl
theorem tx_one (s : List UInt8) (k : Nat) (h : k < (tx s).size) : (tx s).extract k (k + 1) = tx [(tx s)[k]] := bytes_ext (by
  rw [extract_list, tx_list, tx_list, byte_at s k h, show k + 1 - k = 1 by omega]
  rfl)
theorem tx_none (w : List UInt8) : (tx w).toList.isEmpty = decide (w = []) := by
  rw [tx_empty]
  cases w <;> rfl
def WdEnd (ws : List (List UInt8)) (W : World) (e : Ending) (W' : World) : Prop :=
  ∃ a c, e = .returned (.slice a ws.length c) ∧ St W' a ws.length (ws.map tx) ∧ Below W.heap.size W W'
theorem b32_yes {c : UInt8} (h : c = 32) : ((c.toNat : Int) == 32) = true := by rw [h]; rfl
theorem b32_no {c : UInt8} (h : c ≠ 32) : ((c.toNat : Int) == 32) = false := beq_false_of_ne fun e => h (UInt8.toNat_inj.1 (show c.toNat = 32 by omega))
theorem b44_yes {c : UInt8} (h : c = 44) : ((c.toNat : Int) == 44) = true := by rw [h]; rfl
theorem b44_no {c : UInt8} (h : c ≠ 44) : ((c.toNat : Int) == 44) = false := beq_false_of_ne fun e => h (UInt8.toNat_inj.1 (show c.toNat = 44 by omega))
set_option maxRecDepth 10000 in
set_option maxHeartbeats 3200000 in
theorem words_is (s : List UInt8) (hz : s.length ≤ 1000000) (W : World) : Calls Tryz.prog 40 #[.string (tx s)] W (WdEnd ((spW [] s).map numT) W) := by
  obtain ⟨i0, hi0, hz0, hz1, hz2⟩ := info_parts infoStr
  obtain ⟨n, hN⟩ : ∃ n, n = s.length := ⟨_, rfl⟩
  have hsz : (tx s).size = n := by rw [tx_size, hN]
  rw [← hN] at hz
  have HN := Lib.hid hN
  clear hN
  go_enter Tryz.func40, Tryz.ntmps40
  go_wp2_with fail
  go_loopw [3, 4, 5] (fun ov wv iv wr => ∃ (k : Nat) (os : List (List UInt8)) (w : List UInt8), iv = .int .i64 k ∧ k ≤ n ∧ wv = .string (tx w) ∧ wr.ownsRow W.heap.size 9 1 ov os.length (valsT os) ∧ Hid (WdI s k os w) ∧ Below W.heap.size W wr) (fun _ _ iv _ => n - (intOf iv).toNat)
  case atStart => exact ⟨0, [], [], rfl, by omega, rfl, World.ownsRow_nil _ _ _ _, Lib.hid ⟨rfl, Nat.le_refl _, Nat.le_refl _⟩, Below.refl _ _⟩
  case round =>
    obtain ⟨k, os, w, rfl, hk, rfl, ho, HI, hb⟩ := hrel
    have hos := HI.out.2.2
    have hwl := HI.out.2.1
    have hsw : (tx w).size ≤ 1000000 := by rw [tx_size]; omega
    by_cases hlt : k < n
    · have e2 : (k : Int) < (n : Int) := by omega
      have w3 : IntKind.i64.wrap ((k : Int) + 1) = (k : Int) + 1 := wrk (by omega)
      have hks : k < (tx s).size := by omega
      have hd := byte_at s k hks
      have hx := tx_one s k hks
      have hne := tx_none w
      obtain ⟨m, hm⟩ : ∃ m, m = os.length := ⟨_, rfl⟩
      rw [← hm] at ho hos
      have HD := Lib.hid hd
      have HM := Lib.hid hm
      clear hd hm
      by_cases c32 : (tx s)[k] = 32
      · have _u := True.intro
        have h32 := b32_yes c32
        by_cases hw : w = []
        · have HI2 := Lib.hid ((HI.out.sep HD.out (.inl c32)).1 hw)
          rw [decide_eq_true hw] at hne
          generalize tx w = wt at *
          have HO := Lib.hid ho
          have HB := Lib.hid hb
          clear hx c32 hw hwl ho hb
          go_wp2_with fail
          exact ⟨⟨k + 1, os, [], rfl, by omega, rfl, by rw [← HM.out]; exact HO.out, HI2, HB.out⟩, by simp [intOf]; omega⟩
        · have HI2 := Lib.hid ((HI.out.sep HD.out (.inl c32)).2 hw)
          rw [decide_eq_false hw] at hne
          have HS := Lib.hid (valsT_snoc os w)
          have HO := Lib.hid ho
          have HB := Lib.hid hb
          have hsz2 := hb.size
          generalize tx w = wt at *
          clear hx c32 hw hwl ho hb
          go_wp2_with (at_builtin; refine wpList_append_own _ rfl (.tmp 28) (.tmp 30) 23 rfl (W.heap.size) 9 i0 (.string ⟨#[]⟩) 1 16 Tryz.underlying23 hi0 hz0 hz1 hz2 rfl (by decide) _ _ _ rfl (HO.out.alloc _) ⟨wr.heap.size, 0, none⟩ 1 1 [.string wt] rfl rfl (cell_one_new _ _ _) ?c232 ?c332 ?c432 ?c532 ?_)
          case c232 => first | rfl | (intro u hu; rw [List.mem_singleton] at hu; rw [hu]; rfl)
          case c332 => first | (unfold maxLen; omega) | omega
          case c432 => omega
          case c532 => first | omega | (show _ ≤ (wr.heap.push _).size; simp; omega)
          intro v1 w6 hown1 hg1 _
          have hb6 : Below W.heap.size W w6 := (HB.out.alloc HB.out.size _).grown hg1 (by show _ ≤ (wr.heap.push _).size; simp; omega) (fun q hq => by have := (HO.out.lt q hq).1; omega)
          rw [HS.out] at hown1
          have HO6 := Lib.hid hown1
          have HB6 := Lib.hid hb6
          clear hown1 hb6 hg1 HO HB
          go_wp2_with fail
          exact ⟨⟨k + 1, os ++ [w], [], rfl, by omega, rfl, by rw [List.length_append, ← HM.out]; exact HO6.out, HI2, HB6.out⟩, by simp [intOf]; omega⟩
      by_cases c44 : (tx s)[k] = 44
      · have h32 := b32_no c32
        have h44 := b44_yes c44
        by_cases hw : w = []
        · have HI2 := Lib.hid ((HI.out.sep HD.out (.inr c44)).1 hw)
          rw [decide_eq_true hw] at hne
          generalize tx w = wt at *
          have HO := Lib.hid ho
          have HB := Lib.hid hb
          clear hx c44 hw hwl ho hb
          go_wp2_with fail
          exact ⟨⟨k + 1, os, [], rfl, by omega, rfl, by rw [← HM.out]; exact HO.out, HI2, HB.out⟩, by simp [intOf]; omega⟩
        · have HI2 := Lib.hid ((HI.out.sep HD.out (.inr c44)).2 hw)
          rw [decide_eq_false hw] at hne
          have HS := Lib.hid (valsT_snoc os w)
          have HO := Lib.hid ho
          have HB := Lib.hid hb
          have hsz2 := hb.size
          generalize tx w = wt at *
          clear hx c44 hw hwl ho hb
          go_wp2_with (at_builtin; refine wpList_append_own _ rfl (.tmp 28) (.tmp 30) 23 rfl (W.heap.size) 9 i0 (.string ⟨#[]⟩) 1 16 Tryz.underlying23 hi0 hz0 hz1 hz2 rfl (by decide) _ _ _ rfl (HO.out.alloc _) ⟨wr.heap.size, 0, none⟩ 1 1 [.string wt] rfl rfl (cell_one_new _ _ _) ?c244 ?c344 ?c444 ?c544 ?_)
          case c244 => first | rfl | (intro u hu; rw [List.mem_singleton] at hu; rw [hu]; rfl)
          case c344 => first | (unfold maxLen; omega) | omega
          case c444 => omega
          case c544 => first | omega | (show _ ≤ (wr.heap.push _).size; simp; omega)
          intro v1 w6 hown1 hg1 _
          have hb6 : Below W.heap.size W w6 := (HB.out.alloc HB.out.size _).grown hg1 (by show _ ≤ (wr.heap.push _).size; simp; omega) (fun q hq => by have := (HO.out.lt q hq).1; omega)
          rw [HS.out] at hown1
          have HO6 := Lib.hid hown1
          have HB6 := Lib.hid hb6
          clear hown1 hb6 hg1 HO HB
          go_wp2_with fail
          exact ⟨⟨k + 1, os ++ [w], [], rfl, by omega, rfl, by rw [List.length_append, ← HM.out]; exact HO6.out, HI2, HB6.out⟩, by simp [intOf]; omega⟩
      have h32 := b32_no c32
      have h44 := b44_no c44
      have HI2 := Lib.hid (HI.out.go HD.out (by rintro (e | e); exact c32 e; exact c44 e))
      have HC := Lib.hid (tx_cat w [(tx s)[k]])
      have hone : (tx [(tx s)[k]]).size = 1 := rfl
      rw [← hx] at HC hone
      replace hx := Lib.hid hx
      generalize hct : (tx s).extract k (k + 1) = ct at *
      have HO := Lib.hid ho
      have HB := Lib.hid hb
      have q1 : ¬ (9223372036854775807 < (tx w).size + ct.size) := by omega
      have q2 : ¬ (9223372036854775807 < (tx w).size + 1) := by omega
      have q3 : ¬ (9223372036854775807 ≤ (tx w).size) := by omega
      have q4 : ¬ (9223372036854775806 < (tx w).size) := by omega
      generalize tx w = wt at *
      clear c32 c44 hwl ho hb hne
      go_wp2_with fail
      exact ⟨⟨k + 1, os, w ++ [(tx s)[k]], rfl, by omega, by rw [HC.out], by rw [← HM.out]; exact HO.out, HI2, HB.out⟩, by simp [intOf]; omega⟩
    · have e2 : ¬ (k : Int) < (n : Int) := by omega
      obtain rfl : k = n := by omega
      have hend := HI.out.ends (by rw [← HN.out]; exact Nat.le_refl _)
      have hne := tx_none w
      by_cases hw : w = []
      · have HE := Lib.hid (hend.1 hw)
        rw [decide_eq_true hw] at hne
        generalize tx w = wt at *
        have HO := Lib.hid ho
        have HB := Lib.hid hb
        clear ho hb hend hw hwl
        obtain ⟨ws, hws⟩ : ∃ ws, ws = spW [] s := ⟨_, rfl⟩
        obtain ⟨oa, oc, rfl, hst, _⟩ := owns_st HO.out
        rw [HE.out, ← hws] at hst ⊢
        obtain ⟨q, hq⟩ : ∃ q, q = ws.length := ⟨_, rfl⟩
        rw [← hq] at hst ⊢
        have hsp := spW_len s []
        rw [← hws, ← hq, ← HN.out] at hsp
        have hq2 : q ≤ 1000001 := by omega
        have HW := Lib.hid (And.intro hsp hws)
        have HQ := Lib.hid hq
        have HST := Lib.hid hst
        have HBW := Lib.hid HB.out
        clear hsp hws hq hst
        generalize wr = w2 at *
        go_wp2_with fail
        go_loopw [6, 7] (fun lv iv wr => ∃ j : Nat, iv = .int .i64 j ∧ j ≤ q ∧ wr.ownsRow w2.heap.size 9 1 lv j (firstT (ws.map numT) j) ∧ Below w2.heap.size w2 wr) (fun _ iv _ => q - (intOf iv).toNat)
        case atStart => exact ⟨0, rfl, by omega, World.ownsRow_nil _ _ _ _, Below.refl _ _⟩
        case round =>
          obtain ⟨j, rfl, hj, ho2, hb2⟩ := hrel
          by_cases hlt2 : j < q
          · have e3 : (j : Int) < (q : Int) := by omega
            have w4 : IntKind.i64.wrap ((j : Int) + 1) = (j : Int) + 1 := wrk (by omega)
            obtain ⟨bb, off, rfl, hc⟩ := HST.out.2 (by omega)
            have ck := (hb2.cell (p := ⟨bb, off + j, none⟩) (World.block_lt_of_cell? w2 _ (hc j hlt2))).trans (hc j hlt2)
            have hjl : j < ws.length := by rw [← HQ.out]; exact hlt2
            rw [getD_tx ws hjl] at ck
            have hmem : ws.getD j [] ∈ ws := by rw [List.getD_eq_getElem?_getD, List.getElem?_eq_getElem hjl]; exact List.getElem_mem hjl
            have hxl := HW.out.1.2 _ hmem
            rw [List.length_nil] at hxl
            have K := Lib.hid (rNumber_is (ws.getD j []) (by omega) wr)
            have HS2 := firstT_succ (es := ws.map numT) (k := j) (by rw [List.length_map]; exact hjl)
            rw [show (ws.map numT).getD j [] = numT (ws.getD j []) by simp [List.getD_eq_getElem?_getD, List.getElem?_eq_getElem hjl]] at HS2
            generalize tx (ws.getD j []) = xt at *
            generalize numT (ws.getD j []) = nt at *
            generalize numB (ws.getD j []) = nb at *
            replace HS2 := Lib.hid HS2
            have HO2 := Lib.hid ho2
            have HB2 := Lib.hid hb2
            have hsz2 := hb2.size
            clear ho2 hb2 hc hmem hxl hjl
            go_wp2_with fail
            refine K.out.mono ?_
            rintro e w5 ⟨rfl, rfl⟩
            generalize tx nt = ntt at *
            clear K ck
            go_wp2_with (at_builtin; refine wpList_append_own _ rfl (.tmp 59) (.tmp 61) 23 rfl (w2.heap.size) 9 i0 (.string ⟨#[]⟩) 1 16 Tryz.underlying23 hi0 hz0 hz1 hz2 rfl (by decide) _ _ _ rfl (HO2.out.alloc _) ⟨wr.heap.size, 0, none⟩ 1 1 [.string ntt] rfl rfl (cell_one_new _ _ _) ?c2za ?c3za ?c4za ?c5za ?_)
            case c2za => first | rfl | (intro u hu; rw [List.mem_singleton] at hu; rw [hu]; rfl)
            case c3za => first | (unfold maxLen; omega) | omega
            case c4za => omega
            case c5za => first | omega | (show _ ≤ (wr.heap.push _).size; simp; omega)
            intro v1 w6 hown1 hg1 _
            have hb6 : Below w2.heap.size w2 w6 := (HB2.out.alloc HB2.out.size _).grown hg1 (by show _ ≤ (wr.heap.push _).size; simp; omega) (fun q hq => by have := (HO2.out.lt q hq).1; omega)
            rw [HS2.out] at hown1
            have HO6 := Lib.hid hown1
            have HB6 := Lib.hid hb6
            clear hown1 hb6 hg1 HO2 HB2
            go_wp2_with fail
            exact ⟨⟨j + 1, rfl, by omega, HO6.out, HB6.out⟩, by simp [intOf]; omega⟩
          · have e3 : ¬ (j : Int) < (q : Int) := by omega
            obtain rfl : j = q := by omega
            have hml : (ws.map numT).length = j := by rw [List.length_map]; exact HQ.out.symm
            rw [firstT_all (by rw [hml]; exact Nat.le_refl _)] at ho2
            obtain ⟨la, lc, rfl, hst2, _⟩ := owns_st ho2
            have HR := Lib.hid (And.intro hst2 (HBW.out.trans (hb2.mono HBW.out.size)))
            have HML := Lib.hid hml
            have HWS := Lib.hid HW.out.2
            clear hst2 hb2 ho2 hml
            go_wp2_with fail
            go_ret
            rw [← HWS.out]
            exact ⟨la, lc, by rw [HML.out]; rfl, by rw [HML.out]; exact HR.out.1, HR.out.2⟩
      · have HE := Lib.hid (hend.2 hw)
        rw [decide_eq_false hw] at hne
        have HS := Lib.hid (valsT_snoc os w)
        obtain ⟨m, hm⟩ : ∃ m, m = os.length := ⟨_, rfl⟩
        have HM := Lib.hid hm
        rw [← hm] at ho hos
        have HO := Lib.hid ho
        have HB := Lib.hid hb
        have hsz2 := hb.size
        generalize tx w = wt at *
        clear ho hb hend hw hwl hm
        go_wp2_with (at_builtin; refine wpList_append_own _ rfl (.tmp 41) (.tmp 43) 23 rfl (W.heap.size) 9 i0 (.string ⟨#[]⟩) 1 16 Tryz.underlying23 hi0 hz0 hz1 hz2 rfl (by decide) _ _ _ rfl (HO.out.alloc _) ⟨wr.heap.size, 0, none⟩ 1 1 [.string wt] rfl rfl (cell_one_new _ _ _) ?c2b ?c3b ?c4b ?c5b ?_)
        case c2b => first | rfl | (intro u hu; rw [List.mem_singleton] at hu; rw [hu]; rfl)
        case c3b => first | (unfold maxLen; omega) | omega
        case c4b => omega
        case c5b => first | omega | (show _ ≤ (wr.heap.push _).size; simp; omega)
        intro v1 w6 hown1 hg1 _
        have hb6 : Below W.heap.size W w6 := (HB.out.alloc HB.out.size _).grown hg1 (by show _ ≤ (wr.heap.push _).size; simp; omega) (fun q hq => by have := (HO.out.lt q hq).1; omega)
        rw [HS.out, show m + 1 = (os ++ [w]).length by rw [List.length_append, ← HM.out]; rfl] at hown1
        have HO6 := Lib.hid hown1
        have HB6 := Lib.hid hb6
        clear hown1 hb6 hg1 HO HB
        obtain ⟨ws, hws⟩ : ∃ ws, ws = spW [] s := ⟨_, rfl⟩
        obtain ⟨oa, oc, rfl, hst, _⟩ := owns_st HO6.out
        rw [HE.out, ← hws] at hst ⊢
        obtain ⟨q, hq⟩ : ∃ q, q = ws.length := ⟨_, rfl⟩
        rw [← hq] at hst ⊢
        have hsp := spW_len s []
        rw [← hws, ← hq, ← HN.out] at hsp
        have hq2 : q ≤ 1000001 := by omega
        have HW := Lib.hid (And.intro hsp hws)
        have HQ := Lib.hid hq
        have HST := Lib.hid hst
        have HBW := Lib.hid HB6.out
        clear hsp hws hq hst
        generalize w6 = w2 at *
        go_wp2_with fail
        go_loopw [6, 7] (fun lv iv wr => ∃ j : Nat, iv = .int .i64 j ∧ j ≤ q ∧ wr.ownsRow w2.heap.size 9 1 lv j (firstT (ws.map numT) j) ∧ Below w2.heap.size w2 wr) (fun _ iv _ => q - (intOf iv).toNat)
        case atStart => exact ⟨0, rfl, by omega, World.ownsRow_nil _ _ _ _, Below.refl _ _⟩
        case round =>
          obtain ⟨j, rfl, hj, ho2, hb2⟩ := hrel
          by_cases hlt2 : j < q
          · have e3 : (j : Int) < (q : Int) := by omega
            have w4 : IntKind.i64.wrap ((j : Int) + 1) = (j : Int) + 1 := wrk (by omega)
            obtain ⟨bb, off, rfl, hc⟩ := HST.out.2 (by omega)
            have ck := (hb2.cell (p := ⟨bb, off + j, none⟩) (World.block_lt_of_cell? w2 _ (hc j hlt2))).trans (hc j hlt2)
            have hjl : j < ws.length := by rw [← HQ.out]; exact hlt2
            rw [getD_tx ws hjl] at ck
            have hmem : ws.getD j [] ∈ ws := by rw [List.getD_eq_getElem?_getD, List.getElem?_eq_getElem hjl]; exact List.getElem_mem hjl
            have hxl := HW.out.1.2 _ hmem
            rw [List.length_nil] at hxl
            have K := Lib.hid (rNumber_is (ws.getD j []) (by omega) wr)
            have HS2 := firstT_succ (es := ws.map numT) (k := j) (by rw [List.length_map]; exact hjl)
            rw [show (ws.map numT).getD j [] = numT (ws.getD j []) by simp [List.getD_eq_getElem?_getD, List.getElem?_eq_getElem hjl]] at HS2
            generalize tx (ws.getD j []) = xt at *
            generalize numT (ws.getD j []) = nt at *
            generalize numB (ws.getD j []) = nb at *
            replace HS2 := Lib.hid HS2
            have HO2 := Lib.hid ho2
            have HB2 := Lib.hid hb2
            have hsz2 := hb2.size
            clear ho2 hb2 hc hmem hxl hjl
            go_wp2_with fail
            refine K.out.mono ?_
            rintro e w5 ⟨rfl, rfl⟩
            generalize tx nt = ntt at *
            clear K ck
            go_wp2_with (at_builtin; refine wpList_append_own _ rfl (.tmp 59) (.tmp 61) 23 rfl (w2.heap.size) 9 i0 (.string ⟨#[]⟩) 1 16 Tryz.underlying23 hi0 hz0 hz1 hz2 rfl (by decide) _ _ _ rfl (HO2.out.alloc _) ⟨wr.heap.size, 0, none⟩ 1 1 [.string ntt] rfl rfl (cell_one_new _ _ _) ?c2zb ?c3zb ?c4zb ?c5zb ?_)
            case c2zb => first | rfl | (intro u hu; rw [List.mem_singleton] at hu; rw [hu]; rfl)
            case c3zb => first | (unfold maxLen; omega) | omega
            case c4zb => omega
            case c5zb => first | omega | (show _ ≤ (wr.heap.push _).size; simp; omega)
            intro v1 w6 hown1 hg1 _
            have hb6 : Below w2.heap.size w2 w6 := (HB2.out.alloc HB2.out.size _).grown hg1 (by show _ ≤ (wr.heap.push _).size; simp; omega) (fun q hq => by have := (HO2.out.lt q hq).1; omega)
            rw [HS2.out] at hown1
            have HO6 := Lib.hid hown1
            have HB6 := Lib.hid hb6
            clear hown1 hb6 hg1 HO2 HB2
            go_wp2_with fail
            exact ⟨⟨j + 1, rfl, by omega, HO6.out, HB6.out⟩, by simp [intOf]; omega⟩
          · have e3 : ¬ (j : Int) < (q : Int) := by omega
            obtain rfl : j = q := by omega
            have hml : (ws.map numT).length = j := by rw [List.length_map]; exact HQ.out.symm
            rw [firstT_all (by rw [hml]; exact Nat.le_refl _)] at ho2
            obtain ⟨la, lc, rfl, hst2, _⟩ := owns_st ho2
            have HR := Lib.hid (And.intro hst2 (HBW.out.trans (hb2.mono HBW.out.size)))
            have HML := Lib.hid hml
            have HWS := Lib.hid HW.out.2
            clear hst2 hb2 ho2 hml
            go_wp2_with fail
            go_ret
            rw [← HWS.out]
            exact ⟨la, lc, by rw [HML.out]; rfl, by rw [HML.out]; exact HR.out.1, HR.out.2⟩
end Go.Proofs.YtomkjmhebnecbaaGreatDoor

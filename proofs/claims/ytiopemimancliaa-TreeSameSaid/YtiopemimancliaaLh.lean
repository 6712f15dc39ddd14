/-
  Lex, of the reference: at every line.
-/
import Derived.Test.YtiopemimancliaaLg
namespace Go.Proofs.Ytiopemimancliaa
open Go.RowKit

theorem extract_eq (s : ByteArray) (i j : Nat) (l : List UInt8) (h : (s.data.toList.drop i).take (j - i) = l) : s.extract i j = tx l := bytes_ext (by rw [extract_list, h]; rfl)
set_option maxHeartbeats 3200000 in
set_option maxRecDepth 10000 in
theorem rlex_is (s : ByteArray) (hs : s.size ≤ 256) (ts : List Tk) (e : Option Nat) (h : Run numB s.data.toList 0 ts e) (W : World) : Calls Try.prog 43 #[.string s] W (LexEnd ts e W) := by
  have h1 : ¬ (256 : Int) < (s.size : Int) := by omega
  have hn256 : ts.length ≤ 256 := by have := h.span.2; simp at this; omega
  have HR := Lib.hid h
  clear h
  go_enter Try.func43, Try.ntmps43
  go_wp2_with fail
  go_loopw [5, 6] (fun pv iv wr => ∃ p k : Nat, iv = .int .i64 p ∧ p ≤ s.size ∧ k ≤ ts.length ∧ Run numB (s.data.toList.drop p) p (ts.drop k) e ∧ wr.ownsRow W.heap.size 57 3 pv k (rvs (rtk ts) k) ∧ Below W.heap.size W wr) (fun _ iv _ => s.size - (intOf iv).toNat)
  case atStart => exact ⟨0, 0, rfl, by omega, by omega, HR.out, ⟨rfl, .inl ⟨rfl, rfl⟩⟩, Below.refl _ _⟩
  case round =>
    obtain ⟨p, k, rfl, hp, hk, hR, ho, hb⟩ := hrel
    by_cases hlt : p < s.size
    · have hd := drop_at s p hlt
      rw [hd] at hR
      have h32 : ∀ c : UInt8, cls c ≠ 7 → ((c.toNat : Int) == 32) = false := fun c hc => beq_false_of_ne (fun h => hc (by
        rw [show c = 32 from UInt8.toNat_inj.1 (by simp; omega)]; rfl))
      rcases hR.inv with ⟨hc, hr⟩ | ⟨t, r, us, hc1, hc6, hl, ht, hst, hnn, hts, hr⟩ | ⟨hc, hts, he⟩ | ⟨hc, t, r, hl, ht, hst, hnn, hts, he⟩
      · have e0 : s[p] = 32 := blank_is _ hc
        have e1 : (((s[p]).toNat : Int) == 32) = true := by rw [e0]; rfl
        have HD := Lib.hid hr
        clear hd hR hc hr e0 h32
        go_wp2_with fail
        refine ⟨⟨p + 1, k, by go_num, by omega, hk, HD.out, ho, hb⟩, by simp [intOf]; omega⟩
      · obtain ⟨hk1, rfl, hk3⟩ := drop_cons hts
        have hf := rtk_at hk1
        have e1 := h32 s[p] (by omega)
        have hlen : s.size - p = t.length + 1 + r.length := by
          have := congrArg List.length hd
          rw [List.length_drop, List.length_cons, hl, List.length_append] at this
          simp at this
          omega
        have hT : s.extract p (p + (t.length + 1)) = tx (s[p] :: t) := extract_eq _ _ _ _ (by
          rw [hd, hl, Nat.add_sub_cancel_left]
          exact List.take_left (l₁ := s[p] :: t))
        have KK := Lib.hid (fun (j : Nat) (hj : j < t.length + 1) (w : World) => (show Calls Try.prog 51 #[.string (s.extract p (p + j + 1))] w (IntEnd (cls s[p] : Nat) w) by
          have e2 : s.extract p (p + j + 1) = tx (s[p] :: t.take j) := extract_eq _ _ _ _ (by
            rw [hd, hl, show p + j + 1 - p = j + 1 by omega, List.take_succ_cons, List.take_append_of_le_length (by omega)])
          rw [e2]
          have := kind_is (s[p] :: t.take j) (by simp; omega) w
          rwa [kindL_yes rfl hc1 hc6 (fun x hx => ht x (List.mem_of_mem_take hx))] at this))
        have K0 := Lib.hid (fun (hj : p + (t.length + 1) < s.size) (w : World) => (show Calls Try.prog 51 #[.string (s.extract p (p + (t.length + 1) + 1))] w (IntEnd 0 w) by
          obtain ⟨d, r', rfl⟩ : ∃ d r', r = d :: r' := by
            cases r with
            | nil => simp at hlen; omega
            | cons d r' => exact ⟨d, r', rfl⟩
          have e2 : s.extract p (p + (t.length + 1) + 1) = tx (s[p] :: t ++ [d]) := extract_eq _ _ _ _ (by
            rw [hd, hl, show p + (t.length + 1) + 1 - p = (s[p] :: (t ++ [d])).length by simp; omega, show s[p] :: (t ++ d :: r') = s[p] :: (t ++ [d]) ++ r' by simp, List.take_left]; rfl)
          rw [e2]
          have := kind_is (s[p] :: t ++ [d]) (by simp; simp at hlen; omega) w
          rwa [kindL_no (t := t) rfl (hst d rfl)] at this))
        have KT := Lib.hid (fun (w : World) => (show Calls Try.prog 51 #[.string (tx (s[p] :: t))] w (IntEnd (cls s[p] : Nat) w) by
          have := kind_is (s[p] :: t) (by simp; omega) w
          rwa [kindL_yes rfl hc1 hc6 ht] at this))
        have hrest : s.data.toList.drop (p + (t.length + 1)) = r := by
          rw [← List.drop_drop, hd, hl]
          exact List.drop_left (l₁ := s[p] :: t)
        have KN := Lib.hid (fun w => rNumber_is (s[p] :: t) (by simp; omega) w)
        have HX := Lib.hid (show rvs (rtk ts) k ++ [.int .i64 (cls s[p]), .string (tx (s[p] :: t)), .int .i64 p] = rvs (rtk ts) (k + 1) by
          show _ = rvs (rtk ts) k ++ (rtk ts k).cells
          rw [hf]; rfl)
        have HD : Hid (Run numB (s.data.toList.drop (p + (t.length + 1))) (p + (t.length + 1)) (ts.drop (k + 1)) e) := Lib.hid (by rw [hrest]; exact hr)
        have hz1 : 1 ≤ t.length + 1 := by omega
        have hz2 : p + (t.length + 1) ≤ s.size := by omega
        have HN : Hid ((cls s[p] : Int) = 1 → numB (s[p] :: t) = true) := Lib.hid (fun h => hnn (by omega))
        have hv1 : (1 : Int) ≤ (cls s[p] : Int) := by omega
        rw [← hT] at KT KN HX
        clear hd hR hl ht hst hnn hts hr hk1 hf hlen hrest hc1 hc6 hT h32
        generalize rvs (rtk ts) k = xs at *
        generalize numB (s[p] :: t) = nb at *
        generalize numT (s[p] :: t) = nt at *
        generalize (cls s[p] : Int) = z at *
        generalize t.length + 1 = m at *
        go_wp2_with fail
        go_loop [7] (fun nv => ∃ j : Nat, nv = .int .i64 j ∧ j ≤ m) (fun nv => m - (intOf nv).toNat)
        case atStart => exact ⟨0, rfl, by omega⟩
        case round =>
          obtain ⟨j, rfl, hj⟩ := hrel
          by_cases hj2 : j < m
          · have e3 : (p : Int) + (j : Int) < (s.size : Int) := by omega
            have K1 := Lib.hid (KK.out j hj2)
            go_wp2_with fail
            refine (K1.out _).mono ?_
            rintro e w1 ⟨rfl, rfl⟩
            go_wp2_with fail
            go_round
            case rel => exact ⟨j + 1, by go_num, by omega⟩
            case measure => simp [intOf]; omega
          · obtain rfl : j = m := by omega
            have e5 : ((j : Int) == 0) = false := beq_false_of_ne (by omega)
            clear hj2
            by_cases e3 : p + j < s.size
            · have e4 : (p : Int) + (j : Int) < (s.size : Int) := by omega
              have K1 := Lib.hid (K0.out e3 wr)
              by_cases hz : z = 1
              · subst hz
                obtain rfl : nb = true := HN.out rfl
                clear HN
                go_wp2_with fail
                refine K1.out.mono ?_
                rintro e w1 ⟨rfl, rfl⟩
                go_wp2_with fail
                refine (KN.out _).mono ?_
                rintro e w1 ⟨rfl, rfl⟩
                go_wp2_with fail
                refine (KT.out _).mono ?_
                rintro e w1 ⟨rfl, rfl⟩
                go_wp2_with fail
                refine (KT.out _).mono ?_
                rintro e w1 ⟨rfl, rfl⟩
                clear KN KT K0 KK
                obtain ⟨i0, hi, hz0, hz1', hz2''⟩ := info_parts infoT
                go_wp2_with (at_builtin; refine wpList_append_own _ rfl (.tmp 66) (.tmp 72) 52 rfl W.heap.size 57 i0 (.agg #[.int .i64 0, .string ⟨#[]⟩, .int .i64 0]) 3 32 Try.underlying52 hi hz0 hz1' hz2'' rfl (by decide) _ _ _ rfl (ho.alloc _) ⟨wr.heap.size, 0, none⟩ 1 1 [.int .i64 1, .string (s.extract p (p + j)), .int .i64 p] rfl rfl ?c1pa ?c2pa ?c3pa ?c4pa ?c5pa ?_)
                case c1pa =>
                  intro i u hj
                  rw [Go.WideShapes.add_plain, Nat.zero_add, cell_of_row _ _ _ _ _ _ (heap_alloc_new wr _), ← hj, ← Array.getElem?_toList]
                case c2pa => intro u hu; simp at hu; rcases hu with rfl | rfl | rfl <;> rfl
                case c3pa => unfold maxLen; omega
                case c4pa => omega
                case c5pa => have := hb.size; simp; omega
                intro v' w3 hown' hgrow hnn'
                have hb' : Below W.heap.size W w3 := (hb.alloc hb.size _).grown hgrow (by have := hb.size; simp; omega) (fun k hk => (ho.lt k hk).1)
                have hown2 := Lib.hid hown'
                clear hgrow ho hb hnn' hown'
                go_wp2_with fail
                refine ⟨⟨p + j, k + 1, by go_num, by omega, by omega, HD.out, by rw [← HX.out]; exact hown2.out, hb'⟩, by simp [intOf]; omega⟩
              · have hz3 : (z == 1) = false := beq_false_of_ne hz
                clear HN hz
                go_wp2_with fail
                refine K1.out.mono ?_
                rintro e w1 ⟨rfl, rfl⟩
                go_wp2_with fail
                refine (KN.out _).mono ?_
                rintro e w1 ⟨rfl, rfl⟩
                go_wp2_with fail
                refine (KT.out _).mono ?_
                rintro e w1 ⟨rfl, rfl⟩
                go_wp2_with fail
                refine (KT.out _).mono ?_
                rintro e w1 ⟨rfl, rfl⟩
                clear KN KT K0 KK
                obtain ⟨i0, hi, hz0, hz1', hz2''⟩ := info_parts infoT
                go_wp2_with (at_builtin; refine wpList_append_own _ rfl (.tmp 66) (.tmp 72) 52 rfl W.heap.size 57 i0 (.agg #[.int .i64 0, .string ⟨#[]⟩, .int .i64 0]) 3 32 Try.underlying52 hi hz0 hz1' hz2'' rfl (by decide) _ _ _ rfl (ho.alloc _) ⟨wr.heap.size, 0, none⟩ 1 1 [.int .i64 z, .string (s.extract p (p + j)), .int .i64 p] rfl rfl ?c1pb ?c2pb ?c3pb ?c4pb ?c5pb ?_)
                case c1pb =>
                  intro i u hj
                  rw [Go.WideShapes.add_plain, Nat.zero_add, cell_of_row _ _ _ _ _ _ (heap_alloc_new wr _), ← hj, ← Array.getElem?_toList]
                case c2pb => intro u hu; simp at hu; rcases hu with rfl | rfl | rfl <;> rfl
                case c3pb => unfold maxLen; omega
                case c4pb => omega
                case c5pb => have := hb.size; simp; omega
                intro v' w3 hown' hgrow hnn'
                have hb' : Below W.heap.size W w3 := (hb.alloc hb.size _).grown hgrow (by have := hb.size; simp; omega) (fun k hk => (ho.lt k hk).1)
                have hown2 := Lib.hid hown'
                clear hgrow ho hb hnn' hown'
                go_wp2_with fail
                refine ⟨⟨p + j, k + 1, by go_num, by omega, by omega, HD.out, by rw [← HX.out]; exact hown2.out, hb'⟩, by simp [intOf]; omega⟩
            · have e4 : ¬ (p : Int) + (j : Int) < (s.size : Int) := by omega
              by_cases hz : z = 1
              · subst hz
                obtain rfl : nb = true := HN.out rfl
                clear HN
                go_wp2_with fail
                refine (KN.out _).mono ?_
                rintro e w1 ⟨rfl, rfl⟩
                go_wp2_with fail
                refine (KT.out _).mono ?_
                rintro e w1 ⟨rfl, rfl⟩
                go_wp2_with fail
                refine (KT.out _).mono ?_
                rintro e w1 ⟨rfl, rfl⟩
                clear KN KT K0 KK
                obtain ⟨i0, hi, hz0, hz1', hz2''⟩ := info_parts infoT
                go_wp2_with (at_builtin; refine wpList_append_own _ rfl (.tmp 66) (.tmp 72) 52 rfl W.heap.size 57 i0 (.agg #[.int .i64 0, .string ⟨#[]⟩, .int .i64 0]) 3 32 Try.underlying52 hi hz0 hz1' hz2'' rfl (by decide) _ _ _ rfl (ho.alloc _) ⟨wr.heap.size, 0, none⟩ 1 1 [.int .i64 1, .string (s.extract p (p + j)), .int .i64 p] rfl rfl ?c1qa ?c2qa ?c3qa ?c4qa ?c5qa ?_)
                case c1qa =>
                  intro i u hj
                  rw [Go.WideShapes.add_plain, Nat.zero_add, cell_of_row _ _ _ _ _ _ (heap_alloc_new wr _), ← hj, ← Array.getElem?_toList]
                case c2qa => intro u hu; simp at hu; rcases hu with rfl | rfl | rfl <;> rfl
                case c3qa => unfold maxLen; omega
                case c4qa => omega
                case c5qa => have := hb.size; simp; omega
                intro v' w3 hown' hgrow hnn'
                have hb' : Below W.heap.size W w3 := (hb.alloc hb.size _).grown hgrow (by have := hb.size; simp; omega) (fun k hk => (ho.lt k hk).1)
                have hown2 := Lib.hid hown'
                clear hgrow ho hb hnn' hown'
                go_wp2_with fail
                refine ⟨⟨p + j, k + 1, by go_num, by omega, by omega, HD.out, by rw [← HX.out]; exact hown2.out, hb'⟩, by simp [intOf]; omega⟩
              · have hz3 : (z == 1) = false := beq_false_of_ne hz
                clear HN hz
                go_wp2_with fail
                refine (KN.out _).mono ?_
                rintro e w1 ⟨rfl, rfl⟩
                go_wp2_with fail
                refine (KT.out _).mono ?_
                rintro e w1 ⟨rfl, rfl⟩
                go_wp2_with fail
                refine (KT.out _).mono ?_
                rintro e w1 ⟨rfl, rfl⟩
                clear KN KT K0 KK
                obtain ⟨i0, hi, hz0, hz1', hz2''⟩ := info_parts infoT
                go_wp2_with (at_builtin; refine wpList_append_own _ rfl (.tmp 66) (.tmp 72) 52 rfl W.heap.size 57 i0 (.agg #[.int .i64 0, .string ⟨#[]⟩, .int .i64 0]) 3 32 Try.underlying52 hi hz0 hz1' hz2'' rfl (by decide) _ _ _ rfl (ho.alloc _) ⟨wr.heap.size, 0, none⟩ 1 1 [.int .i64 z, .string (s.extract p (p + j)), .int .i64 p] rfl rfl ?c1qb ?c2qb ?c3qb ?c4qb ?c5qb ?_)
                case c1qb =>
                  intro i u hj
                  rw [Go.WideShapes.add_plain, Nat.zero_add, cell_of_row _ _ _ _ _ _ (heap_alloc_new wr _), ← hj, ← Array.getElem?_toList]
                case c2qb => intro u hu; simp at hu; rcases hu with rfl | rfl | rfl <;> rfl
                case c3qb => unfold maxLen; omega
                case c4qb => omega
                case c5qb => have := hb.size; simp; omega
                intro v' w3 hown' hgrow hnn'
                have hb' : Below W.heap.size W w3 := (hb.alloc hb.size _).grown hgrow (by have := hb.size; simp; omega) (fun k hk => (ho.lt k hk).1)
                have hown2 := Lib.hid hown'
                clear hgrow ho hb hnn' hown'
                go_wp2_with fail
                refine ⟨⟨p + j, k + 1, by go_num, by omega, by omega, HD.out, by rw [← HX.out]; exact hown2.out, hb'⟩, by simp [intOf]; omega⟩
      · subst he
        have e1 := h32 s[p] (by omega)
        have K1 := Lib.hid (fun (w : World) => (show Calls Try.prog 51 #[.string (s.extract p (p + 1))] w (IntEnd 0 w) by
          have e2 : s.extract p (p + 1) = tx [s[p]] := extract_eq _ _ _ _ (by
            rw [hd, Nat.add_sub_cancel_left]; rfl)
          rw [e2]
          have := kind_is [s[p]] (by simp) w
          rwa [kindL_bad (.inl hc)] at this))
        have KN := Lib.hid (fun (w : World) => (show Calls Try.prog 52 #[.string ByteArray.empty] w (PairEnd [] false w) by
          rw [show ByteArray.empty = tx [] from rfl]
          have := rNumber_is [] (by simp) w
          rwa [show numB [] = false by decide, show numT [] = [] by decide] at this))
        have e3 : (p : Int) < (s.size : Int) := by omega
        clear hd hR hc hts h32
        go_wp2_with fail
        go_loop [7] (fun nv => nv = .int .i64 0) (fun nv => 0)
        case atStart => rfl
        case round =>
          subst hrel
          go_wp2_with fail
          refine (K1.out _).mono ?_
          rintro e w1 ⟨rfl, rfl⟩
          go_wp2_with fail
          refine (KN.out _).mono ?_
          rintro e w1 ⟨rfl, rfl⟩
          go_wp2_with fail
          go_ret3
          exact LexEnd.bad hb
      · subst he
        have e1 := h32 s[p] (by omega)
        have hlen : s.size - p = t.length + 1 + r.length := by
          have := congrArg List.length hd
          rw [List.length_drop, List.length_cons, hl, List.length_append] at this
          simp at this
          omega
        have hT : s.extract p (p + (t.length + 1)) = tx (s[p] :: t) := extract_eq _ _ _ _ (by
          rw [hd, hl, Nat.add_sub_cancel_left]
          exact List.take_left (l₁ := s[p] :: t))
        have KK := Lib.hid (fun (j : Nat) (hj : j < t.length + 1) (w : World) => (show Calls Try.prog 51 #[.string (s.extract p (p + j + 1))] w (IntEnd 1 w) by
          have e2 : s.extract p (p + j + 1) = tx (s[p] :: t.take j) := extract_eq _ _ _ _ (by
            rw [hd, hl, show p + j + 1 - p = j + 1 by omega, List.take_succ_cons, List.take_append_of_le_length (by omega)])
          rw [e2]
          have := kind_is (s[p] :: t.take j) (by simp; omega) w
          rwa [kindL_yes hc (by omega) (by omega) (fun x hx => ht x (List.mem_of_mem_take hx))] at this))
        have K0 := Lib.hid (fun (hj : p + (t.length + 1) < s.size) (w : World) => (show Calls Try.prog 51 #[.string (s.extract p (p + (t.length + 1) + 1))] w (IntEnd 0 w) by
          obtain ⟨d, r', rfl⟩ : ∃ d r', r = d :: r' := by
            cases r with
            | nil => simp at hlen; omega
            | cons d r' => exact ⟨d, r', rfl⟩
          have e2 : s.extract p (p + (t.length + 1) + 1) = tx (s[p] :: t ++ [d]) := extract_eq _ _ _ _ (by
            rw [hd, hl, show p + (t.length + 1) + 1 - p = (s[p] :: (t ++ [d])).length by simp; omega, show s[p] :: (t ++ d :: r') = s[p] :: (t ++ [d]) ++ r' by simp, List.take_left]; rfl)
          rw [e2]
          have := kind_is (s[p] :: t ++ [d]) (by simp; simp at hlen; omega) w
          rwa [kindL_no (t := t) hc (hst d rfl)] at this))
        have KT := Lib.hid (fun (w : World) => (show Calls Try.prog 51 #[.string (tx (s[p] :: t))] w (IntEnd 1 w) by
          have := kind_is (s[p] :: t) (by simp; omega) w
          rwa [kindL_yes hc (by omega) (by omega) ht] at this))
        have KN := fun w => rNumber_is (s[p] :: t) (by simp; omega) w
        rw [hnn] at KN
        replace KN := Lib.hid KN
        have hz1 : 1 ≤ t.length + 1 := by omega
        have hz2 : p + (t.length + 1) ≤ s.size := by omega
        rw [← hT] at KT KN
        clear hd hR hl ht hst hnn hts hlen hc hT h32
        generalize numT (s[p] :: t) = nt at *
        generalize t.length + 1 = m at *
        go_wp2_with fail
        go_loop [7] (fun nv => ∃ j : Nat, nv = .int .i64 j ∧ j ≤ m) (fun nv => m - (intOf nv).toNat)
        case atStart => exact ⟨0, rfl, by omega⟩
        case round =>
          obtain ⟨j, rfl, hj⟩ := hrel
          by_cases hj2 : j < m
          · have e3 : (p : Int) + (j : Int) < (s.size : Int) := by omega
            have K1 := Lib.hid (KK.out j hj2)
            go_wp2_with fail
            refine (K1.out _).mono ?_
            rintro e w1 ⟨rfl, rfl⟩
            go_wp2_with fail
            go_round
            case rel => exact ⟨j + 1, by go_num, by omega⟩
            case measure => simp [intOf]; omega
          · obtain rfl : j = m := by omega
            have e5 : ((j : Int) == 0) = false := beq_false_of_ne (by omega)
            clear hj2
            by_cases e3 : p + j < s.size
            · have e4 : (p : Int) + (j : Int) < (s.size : Int) := by omega
              have K1 := Lib.hid (K0.out e3 wr)
              go_wp2_with fail
              refine K1.out.mono ?_
              rintro e w1 ⟨rfl, rfl⟩
              go_wp2_with fail
              refine (KN.out _).mono ?_
              rintro e w1 ⟨rfl, rfl⟩
              go_wp2_with fail
              refine (KT.out _).mono ?_
              rintro e w1 ⟨rfl, rfl⟩
              go_wp2_with fail
              go_ret3
              exact LexEnd.bad hb
            · have e4 : ¬ (p : Int) + (j : Int) < (s.size : Int) := by omega
              go_wp2_with fail
              refine (KN.out _).mono ?_
              rintro e w1 ⟨rfl, rfl⟩
              go_wp2_with fail
              refine (KT.out _).mono ?_
              rintro e w1 ⟨rfl, rfl⟩
              go_wp2_with fail
              go_ret3
              exact LexEnd.bad hb
    · have hd := drop_end s p (by omega)
      rw [hd] at hR
      obtain ⟨hts, he⟩ := hR.inv_nil
      subst he
      have hke : k = ts.length := by
        have := congrArg List.length hts
        rw [List.length_drop] at this
        simp at this
        omega
      have e2 : ¬ (p : Int) < (s.size : Int) := by omega
      obtain ⟨a, c, rfl, hcap, hq⟩ := owns_qs ho
      subst hke
      clear hd hR hts ho
      go_wp2_with fail
      go_ret3
      exact LexEnd.ok hcap hq hb
end Go.Proofs.Ytiopemimancliaa

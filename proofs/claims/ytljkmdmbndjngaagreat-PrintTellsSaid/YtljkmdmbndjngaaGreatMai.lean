import Derived.Test.YtljkmdmbndjngaaGreatMah
import Derived.RegionTactic
import Derived.Deep.DeepCutAuto
import Derived.Test.YtljkmdmbndjngaaGreatMaf
/-
  Lex, of the program: at every line.
-/
namespace Go.Proofs.YtljkmdmbndjngaaGreat
set_option linter.unusedVariables false
set_option linter.unusedSimpArgs false
open Go.RowKit

theorem Run.inv {N : List UInt8 → Bool} {c : UInt8} {l : List UInt8} {p : Nat} {ts : List Tk} {e : Option Nat} (h : Run N (c :: l) p ts e) :
    (cls c = 7 ∧ Run N l (p + 1) ts e)
    ∨ (∃ t r us, 1 ≤ cls c ∧ cls c ≤ 6 ∧ l = t ++ r ∧ (∀ x ∈ t, (moreL (cls c)).contains x = true) ∧ Stop (cls c) r ∧ (cls c = 1 → N (c :: t) = true) ∧ ts = ⟨cls c, c :: t, p⟩ :: us ∧ Run N r (p + (t.length + 1)) us e)
    ∨ (cls c = 0 ∧ ts = [] ∧ e = some p)
    ∨ (cls c = 1 ∧ ∃ t r, l = t ++ r ∧ (∀ x ∈ t, (moreL 1).contains x = true) ∧ Stop 1 r ∧ N (c :: t) = false ∧ ts = [] ∧ e = some p) := by
  generalize hm : c :: l = m at h
  cases h with
  | nil => cases hm
  | blank h hr =>
    cases hm
    exact .inl ⟨h, hr⟩
  | part h h1 h6 ht hs hn hr =>
    cases hm
    subst h
    exact .inr (.inl ⟨_, _, _, h1, h6, rfl, ht, hs, hn, rfl, hr⟩)
  | bad h =>
    cases hm
    exact .inr (.inr (.inl ⟨h, rfl, rfl⟩))
  | figs h ht hs hn =>
    cases hm
    exact .inr (.inr (.inr ⟨h, _, _, rfl, ht, hs, hn, rfl, rfl⟩))
theorem Run.inv_nil {N : List UInt8 → Bool} {p : Nat} {ts : List Tk} {e : Option Nat} (h : Run N [] p ts e) : ts = [] ∧ e = none := by
  generalize hm : ([] : List UInt8) = m at h
  cases h with
  | nil => exact ⟨rfl, rfl⟩
  | blank h hr => cases hm
  | part h h1 h6 ht hs hn hr => cases hm
  | bad h => cases hm
  | figs h ht hs hn => cases hm
/-- What Lex asks of a byte. -/
structure Isks (x : UInt8) (vb vf vu v2 v3 v4 v5 v6 : Bool) (w : World) : Prop where
  hb : Calls Tryz.prog 55 #[.string ⟨#[32]⟩, .int .u8 (x.toNat : Int)] w (BoolEnd vb w)
  hf : Calls Tryz.prog 55 #[.string ⟨#[48, 49, 50, 51, 52, 53, 54, 55, 56, 57]⟩, .int .u8 (x.toNat : Int)] w (BoolEnd vf w)
  hu : Calls Tryz.prog 55 #[.string ⟨#[95]⟩, .int .u8 (x.toNat : Int)] w (BoolEnd vu w)
  h2 : Calls Tryz.prog 55 #[.string ⟨#[97, 98, 99, 100, 101, 102, 103, 104, 105, 106, 107, 108, 109, 110, 111, 112, 113, 114, 115, 116, 117, 118, 119, 120, 121, 122]⟩, .int .u8 (x.toNat : Int)] w (BoolEnd v2 w)
  h3 : Calls Tryz.prog 55 #[.string ⟨#[65, 66, 67, 68, 69, 70, 71, 72, 73, 74, 75, 76, 77, 78, 79, 80, 81, 82, 83, 84, 85, 86, 87, 88, 89, 90]⟩, .int .u8 (x.toNat : Int)] w (BoolEnd v3 w)
  h4 : Calls Tryz.prog 55 #[.string ⟨#[43, 45, 42, 37, 33, 38, 124, 60, 62, 61, 126, 44, 35, 94, 36, 63, 64]⟩, .int .u8 (x.toNat : Int)] w (BoolEnd v4 w)
  h5 : Calls Tryz.prog 55 #[.string ⟨#[39, 47, 92, 46, 96]⟩, .int .u8 (x.toNat : Int)] w (BoolEnd v5 w)
  h6 : Calls Tryz.prog 55 #[.string ⟨#[40, 41, 91, 93, 123, 125, 58]⟩, .int .u8 (x.toNat : Int)] w (BoolEnd v6 w)
theorem isks_is (x : UInt8) {vb vf vu v2 v3 v4 v5 v6 : Bool} (eb : (x == 32) = vb) (ef : figL.contains x = vf) (eu : (x == 95) = vu) (e2 : smL.contains x = v2) (e3 : grL.contains x = v3) (e4 : sgL.contains x = v4) (e5 : adL.contains x = v5) (e6 : mkL.contains x = v6) (w : World) : Isks x vb vf vu v2 v3 v4 v5 v6 w where
  hb := isOf_is ⟨#[32]⟩ x vb (by rw [← eb]; show ([32] : List UInt8).contains x = _; rw [List.contains_cons, List.contains_nil, Bool.or_false]) w
  hf := isOf_is ⟨#[48, 49, 50, 51, 52, 53, 54, 55, 56, 57]⟩ x vf ef w
  hu := isOf_is ⟨#[95]⟩ x vu (by rw [← eu]; show ([95] : List UInt8).contains x = _; rw [List.contains_cons, List.contains_nil, Bool.or_false]) w
  h2 := isOf_is ⟨#[97, 98, 99, 100, 101, 102, 103, 104, 105, 106, 107, 108, 109, 110, 111, 112, 113, 114, 115, 116, 117, 118, 119, 120, 121, 122]⟩ x v2 e2 w
  h3 := isOf_is ⟨#[65, 66, 67, 68, 69, 70, 71, 72, 73, 74, 75, 76, 77, 78, 79, 80, 81, 82, 83, 84, 85, 86, 87, 88, 89, 90]⟩ x v3 e3 w
  h4 := isOf_is ⟨#[43, 45, 42, 37, 33, 38, 124, 60, 62, 61, 126, 44, 35, 94, 36, 63, 64]⟩ x v4 e4 w
  h5 := isOf_is ⟨#[39, 47, 92, 46, 96]⟩ x v5 e5 w
  h6 := isOf_is ⟨#[40, 41, 91, 93, 123, 125, 58]⟩ x v6 e6 w
theorem boxed {w W : World} {v : Value} {k : Nat} {xs : List Value} (ho : w.ownsRow W.heap.size 80 3 v k xs) (hb : Below W.heap.size W w) (m : ByteArray) :
    ∃ w2, w2 = w.alloc (.cells #[.string m] 9) ∧ W.heap.size ≤ w2.heap.size ∧ w2.ownsRow W.heap.size 80 3 v k xs ∧ Below W.heap.size W w2 :=
  ⟨_, rfl, by have := hb.size; simp; omega, ho.alloc _, hb.alloc hb.size _⟩
set_option maxHeartbeats 3200000 in
set_option maxRecDepth 10000 in
theorem lex_is (s : ByteArray) (hs : s.size ≤ 256) (ts : List Tk) (e : Option Nat) (h : Run numB s.data.toList 0 ts e) (W : World) : Calls Tryz.prog 37 #[.string s] W (LexEnd ts e W) := by
  have h1 : ¬ (256 : Int) < (s.size : Int) := by omega
  have hn256 : ts.length ≤ 256 := by have := h.span.2; simp at this; omega
  have HR := Lib.hid h
  clear h
  go_enter Tryz.func37, Tryz.ntmps37
  go_wp2_with fail
  go_step3
  go_wp2_with fail
  go_step3
  go_wp2_with fail
  go_loopw [5, 6] (fun pv iv wr => ∃ p k : Nat, iv = .int .i64 p ∧ p ≤ s.size ∧ k ≤ ts.length ∧ Run numB (s.data.toList.drop p) p (ts.drop k) e ∧ wr.ownsRow W.heap.size 80 3 pv k (rvs (rtk ts) k) ∧ Below W.heap.size W wr) (fun _ iv _ => s.size - (intOf iv).toNat)
  case atStart => exact ⟨0, 0, rfl, by omega, by omega, HR.out, ⟨rfl, .inl ⟨rfl, rfl⟩⟩, Below.refl _ _⟩
  case round =>
    obtain ⟨p, k, rfl, hp, hk, hR, ho, hb⟩ := hrel
    by_cases hlt : p < s.size
    · have hd := drop_at s p hlt
      rw [hd] at hR
      have hn := cls_nine s[p]
      unfold nineOf nine at hn
      simp only [List.mem_cons, List.not_mem_nil, or_false, Prod.mk.injEq] at hn
      rcases hR.inv with ⟨hc, hr⟩ | ⟨t, r, us, hc1, hc6, hl, ht, hst, hnn, hts, hr⟩ | ⟨hc, hts, he⟩ | ⟨hc, t, r, hl, ht, hst, hnn, hts, he⟩
      · have e0 : s[p] = 32 := blank_is _ hc
        have KI := Lib.hid (fun w => isks_is s[p] rfl rfl rfl rfl rfl rfl rfl rfl w)
        have KB := Lib.hid (fun w => (show Calls Tryz.prog 55 #[.string ⟨#[32]⟩, .int .u8 (s[p].toNat : Int)] w (BoolEnd true w) from isOf_is ⟨#[32]⟩ s[p] true (by rw [e0]; rfl) w))
        have HD := Lib.hid hr
        clear hn hd hR hc hr e0 KI
        go_wp2_with fail
        refine (KB.out _).mono ?_
        rintro e w1 ⟨rfl, rfl⟩
        go_wp2_with fail
        refine ⟨⟨p + 1, k, by go_num, by omega, hk, HD.out, ho.alloc _, hb.alloc hb.size _⟩, by simp [intOf]; omega⟩
      · obtain ⟨hk1, rfl, hk3⟩ := drop_cons hts
        have hf := rtk_at hk1
        have hlen : s.size - p = t.length + 1 + r.length := by
          have := congrArg List.length hd
          rw [List.length_drop, List.length_cons, hl, List.length_append] at this
          simp at this
          omega
        have hsub : (s.extract p s.size).data.toList = s[p] :: t ++ r := by
          rw [extract_list, hd, hl, List.take_of_length_le (by simp; omega)]; rfl
        have hsz : (s.extract p s.size).size ≤ 9223372036854775807 := by
          have : (s.extract p s.size).data.toList.length = (s.extract p s.size).size := by simp
          rw [← this, hsub]; simp; omega
        have hrest : s.data.toList.drop (p + (t.length + 1)) = r := by
          rw [← List.drop_drop, hd, hl]
          exact List.drop_left (l₁ := s[p] :: t)
        have eb : (s[p] == 32) = false := beq_false_of_ne (fun h => by rw [h] at hc6; exact absurd hc6 (by decide))
        have KN := Lib.hid (fun w => Number_is (s[p] :: t) (by simp; omega) w)
        have KP := Lib.hid (fun (B : Nat) (m : ByteArray) (hm : m.data.toList = moreL (cls s[p])) (w : World) (hc : w.cell? ⟨B, 0, none⟩ = some (.string m)) => part_is B (cls s[p]) m (s.extract p s.size) s[p] t r hm hsub ht hst hsz w hc)
        have HX := Lib.hid (show rvs (rtk ts) k ++ [.int .i64 (cls s[p]), .string (tx (s[p] :: t)), .int .i64 p] = rvs (rtk ts) (k + 1) by
          show _ = rvs (rtk ts) k ++ (rtk ts k).cells
          rw [hf]; rfl)
        have HD : Hid (Run numB (s.data.toList.drop (p + (tx (s[p] :: t)).size)) (p + (tx (s[p] :: t)).size) (ts.drop (k + 1)) e) := Lib.hid (by
          rw [show (tx (s[p] :: t)).size = t.length + 1 from rfl, hrest]; exact hr)
        have hz1 : 1 ≤ (tx (s[p] :: t)).size := by rw [show (tx (s[p] :: t)).size = t.length + 1 from rfl]; omega
        have hz2 : p + (tx (s[p] :: t)).size ≤ s.size := by rw [show (tx (s[p] :: t)).size = t.length + 1 from rfl]; omega
        have HN := Lib.hid hnn
        rw [show (⟨(s[p] :: t).toArray⟩ : ByteArray) = tx (s[p] :: t) from rfl] at KP
        clear hd hR hl ht hst hnn hts hr hk1 hf hlen hsub hsz hrest
        generalize tx (s[p] :: t) = tt at *
        generalize rvs (rtk ts) k = xs at *
        generalize numB (s[p] :: t) = nb at *
        generalize numT (s[p] :: t) = nt at *
        rcases hn with ⟨ec, e2, e3, e4, e5, e6, eu, ef⟩ | ⟨ec, e2, e3, e4, e5, e6, eu, ef⟩ | ⟨ec, e2, e3, e4, e5, e6, eu, ef⟩ | ⟨ec, e2, e3, e4, e5, e6, eu, ef⟩ | ⟨ec, e2, e3, e4, e5, e6, eu, ef⟩ | ⟨ec, e2, e3, e4, e5, e6, eu, ef⟩ | ⟨ec, e2, e3, e4, e5, e6, eu, ef⟩ | ⟨ec, e2, e3, e4, e5, e6, eu, ef⟩ | ⟨ec, e2, e3, e4, e5, e6, eu, ef⟩
        · omega
        · omega
        all_goals
          have KI := Lib.hid (fun w => isks_is s[p] eb ef eu e2 e3 e4 e5 e6 w)
          rw [ec] at KP HX HN
          clear hc1 hc6 ec e2 e3 e4 e5 e6 eu ef eb
        · obtain rfl : nb = true := HN.out rfl
          clear HN
          have KQ := Lib.hid (fun m hm => KP.out wr.heap.size m hm (wr.alloc (.cells #[.string m] 9)) (by
            rw [cell_of_row _ _ _ _ _ _ (heap_alloc_new wr (.cells #[.string m] 9))]; rfl))
          clear KP
          go_wp2_with (go_at_call 55; (first | (with_reducible refine (KI.out _).hb.mono ?_) | (with_reducible refine (KI.out _).hf.mono ?_) | (with_reducible refine (KI.out _).hu.mono ?_) | (with_reducible refine (KI.out _).h2.mono ?_) | (with_reducible refine (KI.out _).h3.mono ?_) | (with_reducible refine (KI.out _).h4.mono ?_) | (with_reducible refine (KI.out _).h5.mono ?_) | (with_reducible refine (KI.out _).h6.mono ?_)); rintro e w1 ⟨rfl, rfl⟩)
          refine (KQ.out _ (by rfl)).mono ?_
          rintro e w1 ⟨rfl, rfl⟩
          go_wp2_with fail
          refine (KN.out _).mono ?_
          rintro e w1 ⟨rfl, rfl⟩
          have hq := hb.size
          obtain ⟨w2, hw2, hz2', ho2, hb2⟩ := boxed ho hb (⟨#[48, 49, 50, 51, 52, 53, 54, 55, 56, 57]⟩ : ByteArray)
          rw [← hw2]
          clear hw2 ho hb hq KI KQ KN
          obtain ⟨i0, hi, hz0, hz1', hz2''⟩ := info_parts infoT
          go_wp2_with (at_builtin; refine wpList_append_own _ rfl (.tmp 64) (.tmp 69) 61 rfl W.heap.size 80 i0 (.agg #[.int .i64 0, .string ⟨#[]⟩, .int .i64 0]) 3 32 Tryz.underlying61 hi hz0 hz1' hz2'' rfl (by decide) _ _ _ rfl (ho2.alloc _) ⟨w2.heap.size, 0, none⟩ 1 1 [.int .i64 1, .string tt, .int .i64 p] rfl rfl ?c1r0 ?c2r0 ?c3r0 ?c4r0 ?c5r0 ?_)
          case c1r0 =>
            intro j u hj
            rw [Go.WideShapes.add_plain, Nat.zero_add, cell_of_row _ _ _ _ _ _ (heap_alloc_new w2 _), ← hj, ← Array.getElem?_toList]
          case c2r0 => intro u hu; simp at hu; rcases hu with rfl | rfl | rfl <;> rfl
          case c3r0 => unfold maxLen; omega
          case c4r0 => omega
          case c5r0 => simp; omega
          intro v' w3 hown' hgrow hnn'
          have hb' : Below W.heap.size W w3 := (hb2.alloc hz2' _).grown hgrow (by simp; omega) (fun k hk => (ho2.lt k hk).1)
          have hown2 := Lib.hid hown'
          clear hgrow ho2 hb2 hnn' hown'
          go_wp2_with fail
          refine ⟨⟨p + tt.size, k + 1, by go_num, by omega, by omega, HD.out, by rw [← HX.out]; exact hown2.out, hb'⟩, by simp [intOf]; omega⟩
        · obtain rfl : nb = true := HN.out rfl
          clear HN
          have KQ := Lib.hid (fun m hm => KP.out wr.heap.size m hm (wr.alloc (.cells #[.string m] 9)) (by
            rw [cell_of_row _ _ _ _ _ _ (heap_alloc_new wr (.cells #[.string m] 9))]; rfl))
          clear KP
          go_wp2_with (go_at_call 55; (first | (with_reducible refine (KI.out _).hb.mono ?_) | (with_reducible refine (KI.out _).hf.mono ?_) | (with_reducible refine (KI.out _).hu.mono ?_) | (with_reducible refine (KI.out _).h2.mono ?_) | (with_reducible refine (KI.out _).h3.mono ?_) | (with_reducible refine (KI.out _).h4.mono ?_) | (with_reducible refine (KI.out _).h5.mono ?_) | (with_reducible refine (KI.out _).h6.mono ?_)); rintro e w1 ⟨rfl, rfl⟩)
          refine (KQ.out _ (by rfl)).mono ?_
          rintro e w1 ⟨rfl, rfl⟩
          go_wp2_with fail
          refine (KN.out _).mono ?_
          rintro e w1 ⟨rfl, rfl⟩
          have hq := hb.size
          obtain ⟨w2, hw2, hz2', ho2, hb2⟩ := boxed ho hb (⟨#[48, 49, 50, 51, 52, 53, 54, 55, 56, 57]⟩ : ByteArray)
          rw [← hw2]
          clear hw2 ho hb hq KI KQ KN
          obtain ⟨i0, hi, hz0, hz1', hz2''⟩ := info_parts infoT
          go_wp2_with (at_builtin; refine wpList_append_own _ rfl (.tmp 64) (.tmp 69) 61 rfl W.heap.size 80 i0 (.agg #[.int .i64 0, .string ⟨#[]⟩, .int .i64 0]) 3 32 Tryz.underlying61 hi hz0 hz1' hz2'' rfl (by decide) _ _ _ rfl (ho2.alloc _) ⟨w2.heap.size, 0, none⟩ 1 1 [.int .i64 1, .string tt, .int .i64 p] rfl rfl ?c1r1 ?c2r1 ?c3r1 ?c4r1 ?c5r1 ?_)
          case c1r1 =>
            intro j u hj
            rw [Go.WideShapes.add_plain, Nat.zero_add, cell_of_row _ _ _ _ _ _ (heap_alloc_new w2 _), ← hj, ← Array.getElem?_toList]
          case c2r1 => intro u hu; simp at hu; rcases hu with rfl | rfl | rfl <;> rfl
          case c3r1 => unfold maxLen; omega
          case c4r1 => omega
          case c5r1 => simp; omega
          intro v' w3 hown' hgrow hnn'
          have hb' : Below W.heap.size W w3 := (hb2.alloc hz2' _).grown hgrow (by simp; omega) (fun k hk => (ho2.lt k hk).1)
          have hown2 := Lib.hid hown'
          clear hgrow ho2 hb2 hnn' hown'
          go_wp2_with fail
          refine ⟨⟨p + tt.size, k + 1, by go_num, by omega, by omega, HD.out, by rw [← HX.out]; exact hown2.out, hb'⟩, by simp [intOf]; omega⟩
        · clear HN
          have KQ := Lib.hid (fun m hm => KP.out wr.heap.size m hm (wr.alloc (.cells #[.string m] 9)) (by
            rw [cell_of_row _ _ _ _ _ _ (heap_alloc_new wr (.cells #[.string m] 9))]; rfl))
          clear KP
          go_wp2_with (go_at_call 55; (first | (with_reducible refine (KI.out _).hb.mono ?_) | (with_reducible refine (KI.out _).hf.mono ?_) | (with_reducible refine (KI.out _).hu.mono ?_) | (with_reducible refine (KI.out _).h2.mono ?_) | (with_reducible refine (KI.out _).h3.mono ?_) | (with_reducible refine (KI.out _).h4.mono ?_) | (with_reducible refine (KI.out _).h5.mono ?_) | (with_reducible refine (KI.out _).h6.mono ?_)); rintro e w1 ⟨rfl, rfl⟩)
          refine (KQ.out _ (by rfl)).mono ?_
          rintro e w1 ⟨rfl, rfl⟩
          go_wp2_with fail
          refine (KN.out _).mono ?_
          rintro e w1 ⟨rfl, rfl⟩
          have hq := hb.size
          obtain ⟨w2, hw2, hz2', ho2, hb2⟩ := boxed ho hb (⟨#[97, 98, 99, 100, 101, 102, 103, 104, 105, 106, 107, 108, 109, 110, 111, 112, 113, 114, 115, 116, 117, 118, 119, 120, 121, 122, 48, 49, 50, 51, 52, 53, 54, 55, 56, 57]⟩ : ByteArray)
          rw [← hw2]
          clear hw2 ho hb hq KI KQ KN
          obtain ⟨i0, hi, hz0, hz1', hz2''⟩ := info_parts infoT
          go_wp2_with (at_builtin; refine wpList_append_own _ rfl (.tmp 64) (.tmp 69) 61 rfl W.heap.size 80 i0 (.agg #[.int .i64 0, .string ⟨#[]⟩, .int .i64 0]) 3 32 Tryz.underlying61 hi hz0 hz1' hz2'' rfl (by decide) _ _ _ rfl (ho2.alloc _) ⟨w2.heap.size, 0, none⟩ 1 1 [.int .i64 2, .string tt, .int .i64 p] rfl rfl ?c1r2 ?c2r2 ?c3r2 ?c4r2 ?c5r2 ?_)
          case c1r2 =>
            intro j u hj
            rw [Go.WideShapes.add_plain, Nat.zero_add, cell_of_row _ _ _ _ _ _ (heap_alloc_new w2 _), ← hj, ← Array.getElem?_toList]
          case c2r2 => intro u hu; simp at hu; rcases hu with rfl | rfl | rfl <;> rfl
          case c3r2 => unfold maxLen; omega
          case c4r2 => omega
          case c5r2 => simp; omega
          intro v' w3 hown' hgrow hnn'
          have hb' : Below W.heap.size W w3 := (hb2.alloc hz2' _).grown hgrow (by simp; omega) (fun k hk => (ho2.lt k hk).1)
          have hown2 := Lib.hid hown'
          clear hgrow ho2 hb2 hnn' hown'
          go_wp2_with fail
          refine ⟨⟨p + tt.size, k + 1, by go_num, by omega, by omega, HD.out, by rw [← HX.out]; exact hown2.out, hb'⟩, by simp [intOf]; omega⟩
        · clear HN
          have KQ := Lib.hid (fun m hm => KP.out wr.heap.size m hm (wr.alloc (.cells #[.string m] 9)) (by
            rw [cell_of_row _ _ _ _ _ _ (heap_alloc_new wr (.cells #[.string m] 9))]; rfl))
          clear KP
          go_wp2_with (go_at_call 55; (first | (with_reducible refine (KI.out _).hb.mono ?_) | (with_reducible refine (KI.out _).hf.mono ?_) | (with_reducible refine (KI.out _).hu.mono ?_) | (with_reducible refine (KI.out _).h2.mono ?_) | (with_reducible refine (KI.out _).h3.mono ?_) | (with_reducible refine (KI.out _).h4.mono ?_) | (with_reducible refine (KI.out _).h5.mono ?_) | (with_reducible refine (KI.out _).h6.mono ?_)); rintro e w1 ⟨rfl, rfl⟩)
          refine (KQ.out _ (by rfl)).mono ?_
          rintro e w1 ⟨rfl, rfl⟩
          go_wp2_with fail
          refine (KN.out _).mono ?_
          rintro e w1 ⟨rfl, rfl⟩
          have hq := hb.size
          obtain ⟨w2, hw2, hz2', ho2, hb2⟩ := boxed ho hb (⟨#[97, 98, 99, 100, 101, 102, 103, 104, 105, 106, 107, 108, 109, 110, 111, 112, 113, 114, 115, 116, 117, 118, 119, 120, 121, 122, 65, 66, 67, 68, 69, 70, 71, 72, 73, 74, 75, 76, 77, 78, 79, 80, 81, 82, 83, 84, 85, 86, 87, 88, 89, 90, 48, 49, 50, 51, 52, 53, 54, 55, 56, 57]⟩ : ByteArray)
          rw [← hw2]
          clear hw2 ho hb hq KI KQ KN
          obtain ⟨i0, hi, hz0, hz1', hz2''⟩ := info_parts infoT
          go_wp2_with (at_builtin; refine wpList_append_own _ rfl (.tmp 64) (.tmp 69) 61 rfl W.heap.size 80 i0 (.agg #[.int .i64 0, .string ⟨#[]⟩, .int .i64 0]) 3 32 Tryz.underlying61 hi hz0 hz1' hz2'' rfl (by decide) _ _ _ rfl (ho2.alloc _) ⟨w2.heap.size, 0, none⟩ 1 1 [.int .i64 3, .string tt, .int .i64 p] rfl rfl ?c1r3 ?c2r3 ?c3r3 ?c4r3 ?c5r3 ?_)
          case c1r3 =>
            intro j u hj
            rw [Go.WideShapes.add_plain, Nat.zero_add, cell_of_row _ _ _ _ _ _ (heap_alloc_new w2 _), ← hj, ← Array.getElem?_toList]
          case c2r3 => intro u hu; simp at hu; rcases hu with rfl | rfl | rfl <;> rfl
          case c3r3 => unfold maxLen; omega
          case c4r3 => omega
          case c5r3 => simp; omega
          intro v' w3 hown' hgrow hnn'
          have hb' : Below W.heap.size W w3 := (hb2.alloc hz2' _).grown hgrow (by simp; omega) (fun k hk => (ho2.lt k hk).1)
          have hown2 := Lib.hid hown'
          clear hgrow ho2 hb2 hnn' hown'
          go_wp2_with fail
          refine ⟨⟨p + tt.size, k + 1, by go_num, by omega, by omega, HD.out, by rw [← HX.out]; exact hown2.out, hb'⟩, by simp [intOf]; omega⟩
        · clear HN
          have KQ := Lib.hid (fun m hm => KP.out wr.heap.size m hm (wr.alloc (.cells #[.string m] 9)) (by
            rw [cell_of_row _ _ _ _ _ _ (heap_alloc_new wr (.cells #[.string m] 9))]; rfl))
          clear KP
          go_wp2_with (go_at_call 55; (first | (with_reducible refine (KI.out _).hb.mono ?_) | (with_reducible refine (KI.out _).hf.mono ?_) | (with_reducible refine (KI.out _).hu.mono ?_) | (with_reducible refine (KI.out _).h2.mono ?_) | (with_reducible refine (KI.out _).h3.mono ?_) | (with_reducible refine (KI.out _).h4.mono ?_) | (with_reducible refine (KI.out _).h5.mono ?_) | (with_reducible refine (KI.out _).h6.mono ?_)); rintro e w1 ⟨rfl, rfl⟩)
          refine (KQ.out _ (by rfl)).mono ?_
          rintro e w1 ⟨rfl, rfl⟩
          go_wp2_with fail
          refine (KN.out _).mono ?_
          rintro e w1 ⟨rfl, rfl⟩
          have hq := hb.size
          obtain ⟨w2, hw2, hz2', ho2, hb2⟩ := boxed ho hb (⟨#[]⟩ : ByteArray)
          rw [← hw2]
          clear hw2 ho hb hq KI KQ KN
          obtain ⟨i0, hi, hz0, hz1', hz2''⟩ := info_parts infoT
          go_wp2_with (at_builtin; refine wpList_append_own _ rfl (.tmp 64) (.tmp 69) 61 rfl W.heap.size 80 i0 (.agg #[.int .i64 0, .string ⟨#[]⟩, .int .i64 0]) 3 32 Tryz.underlying61 hi hz0 hz1' hz2'' rfl (by decide) _ _ _ rfl (ho2.alloc _) ⟨w2.heap.size, 0, none⟩ 1 1 [.int .i64 4, .string tt, .int .i64 p] rfl rfl ?c1r4 ?c2r4 ?c3r4 ?c4r4 ?c5r4 ?_)
          case c1r4 =>
            intro j u hj
            rw [Go.WideShapes.add_plain, Nat.zero_add, cell_of_row _ _ _ _ _ _ (heap_alloc_new w2 _), ← hj, ← Array.getElem?_toList]
          case c2r4 => intro u hu; simp at hu; rcases hu with rfl | rfl | rfl <;> rfl
          case c3r4 => unfold maxLen; omega
          case c4r4 => omega
          case c5r4 => simp; omega
          intro v' w3 hown' hgrow hnn'
          have hb' : Below W.heap.size W w3 := (hb2.alloc hz2' _).grown hgrow (by simp; omega) (fun k hk => (ho2.lt k hk).1)
          have hown2 := Lib.hid hown'
          clear hgrow ho2 hb2 hnn' hown'
          go_wp2_with fail
          refine ⟨⟨p + tt.size, k + 1, by go_num, by omega, by omega, HD.out, by rw [← HX.out]; exact hown2.out, hb'⟩, by simp [intOf]; omega⟩
        · clear HN
          have KQ := Lib.hid (fun m hm => KP.out wr.heap.size m hm (wr.alloc (.cells #[.string m] 9)) (by
            rw [cell_of_row _ _ _ _ _ _ (heap_alloc_new wr (.cells #[.string m] 9))]; rfl))
          clear KP
          go_wp2_with (go_at_call 55; (first | (with_reducible refine (KI.out _).hb.mono ?_) | (with_reducible refine (KI.out _).hf.mono ?_) | (with_reducible refine (KI.out _).hu.mono ?_) | (with_reducible refine (KI.out _).h2.mono ?_) | (with_reducible refine (KI.out _).h3.mono ?_) | (with_reducible refine (KI.out _).h4.mono ?_) | (with_reducible refine (KI.out _).h5.mono ?_) | (with_reducible refine (KI.out _).h6.mono ?_)); rintro e w1 ⟨rfl, rfl⟩)
          refine (KQ.out _ (by rfl)).mono ?_
          rintro e w1 ⟨rfl, rfl⟩
          go_wp2_with fail
          refine (KN.out _).mono ?_
          rintro e w1 ⟨rfl, rfl⟩
          have hq := hb.size
          obtain ⟨w2, hw2, hz2', ho2, hb2⟩ := boxed ho hb (⟨#[]⟩ : ByteArray)
          rw [← hw2]
          clear hw2 ho hb hq KI KQ KN
          obtain ⟨i0, hi, hz0, hz1', hz2''⟩ := info_parts infoT
          go_wp2_with (at_builtin; refine wpList_append_own _ rfl (.tmp 64) (.tmp 69) 61 rfl W.heap.size 80 i0 (.agg #[.int .i64 0, .string ⟨#[]⟩, .int .i64 0]) 3 32 Tryz.underlying61 hi hz0 hz1' hz2'' rfl (by decide) _ _ _ rfl (ho2.alloc _) ⟨w2.heap.size, 0, none⟩ 1 1 [.int .i64 5, .string tt, .int .i64 p] rfl rfl ?c1r5 ?c2r5 ?c3r5 ?c4r5 ?c5r5 ?_)
          case c1r5 =>
            intro j u hj
            rw [Go.WideShapes.add_plain, Nat.zero_add, cell_of_row _ _ _ _ _ _ (heap_alloc_new w2 _), ← hj, ← Array.getElem?_toList]
          case c2r5 => intro u hu; simp at hu; rcases hu with rfl | rfl | rfl <;> rfl
          case c3r5 => unfold maxLen; omega
          case c4r5 => omega
          case c5r5 => simp; omega
          intro v' w3 hown' hgrow hnn'
          have hb' : Below W.heap.size W w3 := (hb2.alloc hz2' _).grown hgrow (by simp; omega) (fun k hk => (ho2.lt k hk).1)
          have hown2 := Lib.hid hown'
          clear hgrow ho2 hb2 hnn' hown'
          go_wp2_with fail
          refine ⟨⟨p + tt.size, k + 1, by go_num, by omega, by omega, HD.out, by rw [← HX.out]; exact hown2.out, hb'⟩, by simp [intOf]; omega⟩
        · clear HN
          have KQ := Lib.hid (fun m hm => KP.out wr.heap.size m hm (wr.alloc (.cells #[.string m] 9)) (by
            rw [cell_of_row _ _ _ _ _ _ (heap_alloc_new wr (.cells #[.string m] 9))]; rfl))
          clear KP
          go_wp2_with (go_at_call 55; (first | (with_reducible refine (KI.out _).hb.mono ?_) | (with_reducible refine (KI.out _).hf.mono ?_) | (with_reducible refine (KI.out _).hu.mono ?_) | (with_reducible refine (KI.out _).h2.mono ?_) | (with_reducible refine (KI.out _).h3.mono ?_) | (with_reducible refine (KI.out _).h4.mono ?_) | (with_reducible refine (KI.out _).h5.mono ?_) | (with_reducible refine (KI.out _).h6.mono ?_)); rintro e w1 ⟨rfl, rfl⟩)
          refine (KQ.out _ (by rfl)).mono ?_
          rintro e w1 ⟨rfl, rfl⟩
          go_wp2_with fail
          refine (KN.out _).mono ?_
          rintro e w1 ⟨rfl, rfl⟩
          have hq := hb.size
          obtain ⟨w2, hw2, hz2', ho2, hb2⟩ := boxed ho hb (⟨#[]⟩ : ByteArray)
          rw [← hw2]
          clear hw2 ho hb hq KI KQ KN
          obtain ⟨i0, hi, hz0, hz1', hz2''⟩ := info_parts infoT
          go_wp2_with (at_builtin; refine wpList_append_own _ rfl (.tmp 64) (.tmp 69) 61 rfl W.heap.size 80 i0 (.agg #[.int .i64 0, .string ⟨#[]⟩, .int .i64 0]) 3 32 Tryz.underlying61 hi hz0 hz1' hz2'' rfl (by decide) _ _ _ rfl (ho2.alloc _) ⟨w2.heap.size, 0, none⟩ 1 1 [.int .i64 6, .string tt, .int .i64 p] rfl rfl ?c1r6 ?c2r6 ?c3r6 ?c4r6 ?c5r6 ?_)
          case c1r6 =>
            intro j u hj
            rw [Go.WideShapes.add_plain, Nat.zero_add, cell_of_row _ _ _ _ _ _ (heap_alloc_new w2 _), ← hj, ← Array.getElem?_toList]
          case c2r6 => intro u hu; simp at hu; rcases hu with rfl | rfl | rfl <;> rfl
          case c3r6 => unfold maxLen; omega
          case c4r6 => omega
          case c5r6 => simp; omega
          intro v' w3 hown' hgrow hnn'
          have hb' : Below W.heap.size W w3 := (hb2.alloc hz2' _).grown hgrow (by simp; omega) (fun k hk => (ho2.lt k hk).1)
          have hown2 := Lib.hid hown'
          clear hgrow ho2 hb2 hnn' hown'
          go_wp2_with fail
          refine ⟨⟨p + tt.size, k + 1, by go_num, by omega, by omega, HD.out, by rw [← HX.out]; exact hown2.out, hb'⟩, by simp [intOf]; omega⟩
      · obtain ⟨vs, he'⟩ : ∃ vs, vs = e := ⟨_, rfl⟩
        clear he' vs
        subst he
        have KI : Hid (∀ w, Isks s[p] false false false false false false false false w) := Lib.hid (by
          intro w
          rcases hn with ⟨e, e2, e3, e4, e5, e6, eu, ef⟩ | ⟨e, e2, e3, e4, e5, e6, eu, ef⟩ | ⟨e, e2, e3, e4, e5, e6, eu, ef⟩ | ⟨e, e2, e3, e4, e5, e6, eu, ef⟩ | ⟨e, e2, e3, e4, e5, e6, eu, ef⟩ | ⟨e, e2, e3, e4, e5, e6, eu, ef⟩ | ⟨e, e2, e3, e4, e5, e6, eu, ef⟩ | ⟨e, e2, e3, e4, e5, e6, eu, ef⟩ | ⟨e, e2, e3, e4, e5, e6, eu, ef⟩
          · refine isks_is s[p] ?_ ef eu e2 e3 e4 e5 e6 w
            exact beq_false_of_ne (fun h => by rw [h] at hc; exact absurd hc (by decide))
          all_goals omega)
        clear hn hd hR hc hts
        go_wp2_with (go_at_call 55; (first | (with_reducible refine (KI.out _).hb.mono ?_) | (with_reducible refine (KI.out _).hf.mono ?_) | (with_reducible refine (KI.out _).hu.mono ?_) | (with_reducible refine (KI.out _).h2.mono ?_) | (with_reducible refine (KI.out _).h3.mono ?_) | (with_reducible refine (KI.out _).h4.mono ?_) | (with_reducible refine (KI.out _).h5.mono ?_) | (with_reducible refine (KI.out _).h6.mono ?_)); rintro e w1 ⟨rfl, rfl⟩)
        go_ret3
        exact LexEnd.bad (hb.alloc hb.size _)
      · subst he
        have hlen : s.size - p = t.length + 1 + r.length := by
          have := congrArg List.length hd
          rw [List.length_drop, List.length_cons, hl, List.length_append] at this
          simp at this
          omega
        have hsub : (s.extract p s.size).data.toList = s[p] :: t ++ r := by
          rw [extract_list, hd, hl, List.take_of_length_le (by simp; omega)]; rfl
        have hsz : (s.extract p s.size).size ≤ 9223372036854775807 := by
          have : (s.extract p s.size).data.toList.length = (s.extract p s.size).size := by simp
          rw [← this, hsub]; simp; omega
        have eb : (s[p] == 32) = false := beq_false_of_ne (fun h => by rw [h] at hc; exact absurd hc (by decide))
        have KN := fun w => Number_is (s[p] :: t) (by simp; omega) w
        rw [hnn] at KN
        replace KN := Lib.hid KN
        have KP := Lib.hid (fun (B : Nat) (m : ByteArray) (hm : m.data.toList = moreL 1) (w : World) (hc : w.cell? ⟨B, 0, none⟩ = some (.string m)) => part_is B 1 m (s.extract p s.size) s[p] t r hm hsub ht hst hsz w hc)
        rw [show (⟨(s[p] :: t).toArray⟩ : ByteArray) = tx (s[p] :: t) from rfl] at KP
        clear hd hR hl ht hst hnn hts hlen hsub hsz
        generalize tx (s[p] :: t) = tt at *
        generalize numT (s[p] :: t) = nt at *
        rcases hn with ⟨ec, e2, e3, e4, e5, e6, eu, ef⟩ | ⟨ec, e2, e3, e4, e5, e6, eu, ef⟩ | ⟨ec, e2, e3, e4, e5, e6, eu, ef⟩ | ⟨ec, e2, e3, e4, e5, e6, eu, ef⟩ | ⟨ec, e2, e3, e4, e5, e6, eu, ef⟩ | ⟨ec, e2, e3, e4, e5, e6, eu, ef⟩ | ⟨ec, e2, e3, e4, e5, e6, eu, ef⟩ | ⟨ec, e2, e3, e4, e5, e6, eu, ef⟩ | ⟨ec, e2, e3, e4, e5, e6, eu, ef⟩
        all_goals try omega
        all_goals
          have KI := Lib.hid (fun w => isks_is s[p] eb ef eu e2 e3 e4 e5 e6 w)
          clear hc ec e2 e3 e4 e5 e6 eu ef eb
          have KQ := Lib.hid (fun m hm => KP.out wr.heap.size m hm (wr.alloc (.cells #[.string m] 9)) (by
            rw [cell_of_row _ _ _ _ _ _ (heap_alloc_new wr (.cells #[.string m] 9))]; rfl))
          clear KP
          go_wp2_with (go_at_call 55; (first | (with_reducible refine (KI.out _).hb.mono ?_) | (with_reducible refine (KI.out _).hf.mono ?_) | (with_reducible refine (KI.out _).hu.mono ?_) | (with_reducible refine (KI.out _).h2.mono ?_) | (with_reducible refine (KI.out _).h3.mono ?_) | (with_reducible refine (KI.out _).h4.mono ?_) | (with_reducible refine (KI.out _).h5.mono ?_) | (with_reducible refine (KI.out _).h6.mono ?_)); rintro e w1 ⟨rfl, rfl⟩)
          refine (KQ.out _ (by rfl)).mono ?_
          rintro e w1 ⟨rfl, rfl⟩
          go_wp2_with fail
          refine (KN.out _).mono ?_
          rintro e w1 ⟨rfl, rfl⟩
          go_wp2_with fail
          go_ret3
          exact LexEnd.bad (hb.alloc hb.size _)
    · have hd := drop_end s p (by omega)
      rw [hd] at hR
      obtain ⟨hts, he⟩ := hR.inv_nil
      subst he
      have hke : k = ts.length := by
        have := congrArg List.length hts
        rw [List.length_drop] at this
        simp at this
        omega
      have e2 : ¬ (p : Int) < (s.size : Int) := by omega
      obtain ⟨a, c, rfl, hcap, hq⟩ := owns_qs ho
      subst hke
      clear hd hR hts ho
      go_wp2_with fail
      go_ret3
      exact LexEnd.ok hcap hq hb
end Go.Proofs.YtljkmdmbndjngaaGreat
/-
  Lex, of the reference: at every line.
-/
namespace Go.Proofs.YtljkmdmbndjngaaGreat
set_option linter.unusedVariables false
set_option linter.unusedSimpArgs false
open Go.RowKit

theorem extract_eq (s : ByteArray) (i j : Nat) (l : List UInt8) (h : (s.data.toList.drop i).take (j - i) = l) : s.extract i j = tx l := bytes_ext (by rw [extract_list, h]; rfl)
set_option maxHeartbeats 3200000 in
set_option maxRecDepth 10000 in
theorem rlex_is (s : ByteArray) (hs : s.size ≤ 256) (ts : List Tk) (e : Option Nat) (h : Run numB s.data.toList 0 ts e) (W : World) : Calls Tryz.prog 39 #[.string s] W (LexEnd ts e W) := by
  have h1 : ¬ (256 : Int) < (s.size : Int) := by omega
  have hn256 : ts.length ≤ 256 := by have := h.span.2; simp at this; omega
  have HR := Lib.hid h
  clear h
  go_enter Tryz.func39, Tryz.ntmps39
  go_wp2_with fail
  go_loopw [5, 6] (fun pv iv wr => ∃ p k : Nat, iv = .int .i64 p ∧ p ≤ s.size ∧ k ≤ ts.length ∧ Run numB (s.data.toList.drop p) p (ts.drop k) e ∧ wr.ownsRow W.heap.size 80 3 pv k (rvs (rtk ts) k) ∧ Below W.heap.size W wr) (fun _ iv _ => s.size - (intOf iv).toNat)
  case atStart => exact ⟨0, 0, rfl, by omega, by omega, HR.out, ⟨rfl, .inl ⟨rfl, rfl⟩⟩, Below.refl _ _⟩
  case round =>
    obtain ⟨p, k, rfl, hp, hk, hR, ho, hb⟩ := hrel
    by_cases hlt : p < s.size
    · have hd := drop_at s p hlt
      rw [hd] at hR
      have h32 : ∀ c : UInt8, cls c ≠ 7 → ((c.toNat : Int) == 32) = false := fun c hc => beq_false_of_ne (fun h => hc (by
        rw [show c = 32 from UInt8.toNat_inj.1 (by simp; omega)]; rfl))
      rcases hR.inv with ⟨hc, hr⟩ | ⟨t, r, us, hc1, hc6, hl, ht, hst, hnn, hts, hr⟩ | ⟨hc, hts, he⟩ | ⟨hc, t, r, hl, ht, hst, hnn, hts, he⟩
      · have e0 : s[p] = 32 := blank_is _ hc
        have e1 : (((s[p]).toNat : Int) == 32) = true := by rw [e0]; rfl
        have HD := Lib.hid hr
        clear hd hR hc hr e0 h32
        go_wp2_with fail
        refine ⟨⟨p + 1, k, by go_num, by omega, hk, HD.out, ho, hb⟩, by simp [intOf]; omega⟩
      · obtain ⟨hk1, rfl, hk3⟩ := drop_cons hts
        have hf := rtk_at hk1
        have e1 := h32 s[p] (by omega)
        have hlen : s.size - p = t.length + 1 + r.length := by
          have := congrArg List.length hd
          rw [List.length_drop, List.length_cons, hl, List.length_append] at this
          simp at this
          omega
        have hT : s.extract p (p + (t.length + 1)) = tx (s[p] :: t) := extract_eq _ _ _ _ (by
          rw [hd, hl, Nat.add_sub_cancel_left]
          exact List.take_left (l₁ := s[p] :: t))
        have KK := Lib.hid (fun (j : Nat) (hj : j < t.length + 1) (w : World) => (show Calls Tryz.prog 61 #[.string (s.extract p (p + j + 1))] w (IntEnd (cls s[p] : Nat) w) by
          have e2 : s.extract p (p + j + 1) = tx (s[p] :: t.take j) := extract_eq _ _ _ _ (by
            rw [hd, hl, show p + j + 1 - p = j + 1 by omega, List.take_succ_cons, List.take_append_of_le_length (by omega)])
          rw [e2]
          have := kind_is (s[p] :: t.take j) (by simp; omega) w
          rwa [kindL_yes rfl hc1 hc6 (fun x hx => ht x (List.mem_of_mem_take hx))] at this))
        have K0 := Lib.hid (fun (hj : p + (t.length + 1) < s.size) (w : World) => (show Calls Tryz.prog 61 #[.string (s.extract p (p + (t.length + 1) + 1))] w (IntEnd 0 w) by
          obtain ⟨d, r', rfl⟩ : ∃ d r', r = d :: r' := by
            cases r with
            | nil => simp at hlen; omega
            | cons d r' => exact ⟨d, r', rfl⟩
          have e2 : s.extract p (p + (t.length + 1) + 1) = tx (s[p] :: t ++ [d]) := extract_eq _ _ _ _ (by
            rw [hd, hl, show p + (t.length + 1) + 1 - p = (s[p] :: (t ++ [d])).length by simp; omega, show s[p] :: (t ++ d :: r') = s[p] :: (t ++ [d]) ++ r' by simp, List.take_left]; rfl)
          rw [e2]
          have := kind_is (s[p] :: t ++ [d]) (by simp; simp at hlen; omega) w
          rwa [kindL_no (t := t) rfl (hst d rfl)] at this))
        have KT := Lib.hid (fun (w : World) => (show Calls Tryz.prog 61 #[.string (tx (s[p] :: t))] w (IntEnd (cls s[p] : Nat) w) by
          have := kind_is (s[p] :: t) (by simp; omega) w
          rwa [kindL_yes rfl hc1 hc6 ht] at this))
        have hrest : s.data.toList.drop (p + (t.length + 1)) = r := by
          rw [← List.drop_drop, hd, hl]
          exact List.drop_left (l₁ := s[p] :: t)
        have KN := Lib.hid (fun w => rNumber_is (s[p] :: t) (by simp; omega) w)
        have HX := Lib.hid (show rvs (rtk ts) k ++ [.int .i64 (cls s[p]), .string (tx (s[p] :: t)), .int .i64 p] = rvs (rtk ts) (k + 1) by
          show _ = rvs (rtk ts) k ++ (rtk ts k).cells
          rw [hf]; rfl)
        have HD : Hid (Run numB (s.data.toList.drop (p + (t.length + 1))) (p + (t.length + 1)) (ts.drop (k + 1)) e) := Lib.hid (by rw [hrest]; exact hr)
        have hz1 : 1 ≤ t.length + 1 := by omega
        have hz2 : p + (t.length + 1) ≤ s.size := by omega
        have HN : Hid ((cls s[p] : Int) = 1 → numB (s[p] :: t) = true) := Lib.hid (fun h => hnn (by omega))
        have hv1 : (1 : Int) ≤ (cls s[p] : Int) := by omega
        rw [← hT] at KT KN HX
        clear hd hR hl ht hst hnn hts hr hk1 hf hlen hrest hc1 hc6 hT h32
        generalize rvs (rtk ts) k = xs at *
        generalize numB (s[p] :: t) = nb at *
        generalize numT (s[p] :: t) = nt at *
        generalize (cls s[p] : Int) = z at *
        generalize t.length + 1 = m at *
        go_wp2_with fail
        go_loop [7] (fun nv => ∃ j : Nat, nv = .int .i64 j ∧ j ≤ m) (fun nv => m - (intOf nv).toNat)
        case atStart => exact ⟨0, rfl, by omega⟩
        case round =>
          obtain ⟨j, rfl, hj⟩ := hrel
          by_cases hj2 : j < m
          · have e3 : (p : Int) + (j : Int) < (s.size : Int) := by omega
            have K1 := Lib.hid (KK.out j hj2)
            go_wp2_with fail
            refine (K1.out _).mono ?_
            rintro e w1 ⟨rfl, rfl⟩
            go_wp2_with fail
            go_round
            case rel => exact ⟨j + 1, by go_num, by omega⟩
            case measure => simp [intOf]; omega
          · obtain rfl : j = m := by omega
            have e5 : ((j : Int) == 0) = false := beq_false_of_ne (by omega)
            clear hj2
            by_cases e3 : p + j < s.size
            · have e4 : (p : Int) + (j : Int) < (s.size : Int) := by omega
              have K1 := Lib.hid (K0.out e3 wr)
              by_cases hz : z = 1
              · subst hz
                obtain rfl : nb = true := HN.out rfl
                clear HN
                go_wp2_with fail
                refine K1.out.mono ?_
                rintro e w1 ⟨rfl, rfl⟩
                go_wp2_with fail
                refine (KN.out _).mono ?_
                rintro e w1 ⟨rfl, rfl⟩
                go_wp2_with fail
                refine (KT.out _).mono ?_
                rintro e w1 ⟨rfl, rfl⟩
                go_wp2_with fail
                refine (KT.out _).mono ?_
                rintro e w1 ⟨rfl, rfl⟩
                clear KN KT K0 KK
                obtain ⟨i0, hi, hz0, hz1', hz2''⟩ := info_parts infoT
                go_wp2_with (at_builtin; refine wpList_append_own _ rfl (.tmp 66) (.tmp 72) 61 rfl W.heap.size 80 i0 (.agg #[.int .i64 0, .string ⟨#[]⟩, .int .i64 0]) 3 32 Tryz.underlying61 hi hz0 hz1' hz2'' rfl (by decide) _ _ _ rfl (ho.alloc _) ⟨wr.heap.size, 0, none⟩ 1 1 [.int .i64 1, .string (s.extract p (p + j)), .int .i64 p] rfl rfl ?c1pa ?c2pa ?c3pa ?c4pa ?c5pa ?_)
                case c1pa =>
                  intro i u hj
                  rw [Go.WideShapes.add_plain, Nat.zero_add, cell_of_row _ _ _ _ _ _ (heap_alloc_new wr _), ← hj, ← Array.getElem?_toList]
                case c2pa => intro u hu; simp at hu; rcases hu with rfl | rfl | rfl <;> rfl
                case c3pa => unfold maxLen; omega
                case c4pa => omega
                case c5pa => have := hb.size; simp; omega
                intro v' w3 hown' hgrow hnn'
                have hb' : Below W.heap.size W w3 := (hb.alloc hb.size _).grown hgrow (by have := hb.size; simp; omega) (fun k hk => (ho.lt k hk).1)
                have hown2 := Lib.hid hown'
                clear hgrow ho hb hnn' hown'
                go_wp2_with fail
                refine ⟨⟨p + j, k + 1, by go_num, by omega, by omega, HD.out, by rw [← HX.out]; exact hown2.out, hb'⟩, by simp [intOf]; omega⟩
              · have hz3 : (z == 1) = false := beq_false_of_ne hz
                clear HN hz
                go_wp2_with fail
                refine K1.out.mono ?_
                rintro e w1 ⟨rfl, rfl⟩
                go_wp2_with fail
                refine (KN.out _).mono ?_
                rintro e w1 ⟨rfl, rfl⟩
                go_wp2_with fail
                refine (KT.out _).mono ?_
                rintro e w1 ⟨rfl, rfl⟩
                go_wp2_with fail
                refine (KT.out _).mono ?_
                rintro e w1 ⟨rfl, rfl⟩
                clear KN KT K0 KK
                obtain ⟨i0, hi, hz0, hz1', hz2''⟩ := info_parts infoT
                go_wp2_with (at_builtin; refine wpList_append_own _ rfl (.tmp 66) (.tmp 72) 61 rfl W.heap.size 80 i0 (.agg #[.int .i64 0, .string ⟨#[]⟩, .int .i64 0]) 3 32 Tryz.underlying61 hi hz0 hz1' hz2'' rfl (by decide) _ _ _ rfl (ho.alloc _) ⟨wr.heap.size, 0, none⟩ 1 1 [.int .i64 z, .string (s.extract p (p + j)), .int .i64 p] rfl rfl ?c1pb ?c2pb ?c3pb ?c4pb ?c5pb ?_)
                case c1pb =>
                  intro i u hj
                  rw [Go.WideShapes.add_plain, Nat.zero_add, cell_of_row _ _ _ _ _ _ (heap_alloc_new wr _), ← hj, ← Array.getElem?_toList]
                case c2pb => intro u hu; simp at hu; rcases hu with rfl | rfl | rfl <;> rfl
                case c3pb => unfold maxLen; omega
                case c4pb => omega
                case c5pb => have := hb.size; simp; omega
                intro v' w3 hown' hgrow hnn'
                have hb' : Below W.heap.size W w3 := (hb.alloc hb.size _).grown hgrow (by have := hb.size; simp; omega) (fun k hk => (ho.lt k hk).1)
                have hown2 := Lib.hid hown'
                clear hgrow ho hb hnn' hown'
                go_wp2_with fail
                refine ⟨⟨p + j, k + 1, by go_num, by omega, by omega, HD.out, by rw [← HX.out]; exact hown2.out, hb'⟩, by simp [intOf]; omega⟩
            · have e4 : ¬ (p : Int) + (j : Int) < (s.size : Int) := by omega
              by_cases hz : z = 1
              · subst hz
                obtain rfl : nb = true := HN.out rfl
                clear HN
                go_wp2_with fail
                refine (KN.out _).mono ?_
                rintro e w1 ⟨rfl, rfl⟩
                go_wp2_with fail
                refine (KT.out _).mono ?_
                rintro e w1 ⟨rfl, rfl⟩
                go_wp2_with fail
                refine (KT.out _).mono ?_
                rintro e w1 ⟨rfl, rfl⟩
                clear KN KT K0 KK
                obtain ⟨i0, hi, hz0, hz1', hz2''⟩ := info_parts infoT
                go_wp2_with (at_builtin; refine wpList_append_own _ rfl (.tmp 66) (.tmp 72) 61 rfl W.heap.size 80 i0 (.agg #[.int .i64 0, .string ⟨#[]⟩, .int .i64 0]) 3 32 Tryz.underlying61 hi hz0 hz1' hz2'' rfl (by decide) _ _ _ rfl (ho.alloc _) ⟨wr.heap.size, 0, none⟩ 1 1 [.int .i64 1, .string (s.extract p (p + j)), .int .i64 p] rfl rfl ?c1qa ?c2qa ?c3qa ?c4qa ?c5qa ?_)
                case c1qa =>
                  intro i u hj
                  rw [Go.WideShapes.add_plain, Nat.zero_add, cell_of_row _ _ _ _ _ _ (heap_alloc_new wr _), ← hj, ← Array.getElem?_toList]
                case c2qa => intro u hu; simp at hu; rcases hu with rfl | rfl | rfl <;> rfl
                case c3qa => unfold maxLen; omega
                case c4qa => omega
                case c5qa => have := hb.size; simp; omega
                intro v' w3 hown' hgrow hnn'
                have hb' : Below W.heap.size W w3 := (hb.alloc hb.size _).grown hgrow (by have := hb.size; simp; omega) (fun k hk => (ho.lt k hk).1)
                have hown2 := Lib.hid hown'
                clear hgrow ho hb hnn' hown'
                go_wp2_with fail
                refine ⟨⟨p + j, k + 1, by go_num, by omega, by omega, HD.out, by rw [← HX.out]; exact hown2.out, hb'⟩, by simp [intOf]; omega⟩
              · have hz3 : (z == 1) = false := beq_false_of_ne hz
                clear HN hz
                go_wp2_with fail
                refine (KN.out _).mono ?_
                rintro e w1 ⟨rfl, rfl⟩
                go_wp2_with fail
                refine (KT.out _).mono ?_
                rintro e w1 ⟨rfl, rfl⟩
                go_wp2_with fail
                refine (KT.out _).mono ?_
                rintro e w1 ⟨rfl, rfl⟩
                clear KN KT K0 KK
                obtain ⟨i0, hi, hz0, hz1', hz2''⟩ := info_parts infoT
                go_wp2_with (at_builtin; refine wpList_append_own _ rfl (.tmp 66) (.tmp 72) 61 rfl W.heap.size 80 i0 (.agg #[.int .i64 0, .string ⟨#[]⟩, .int .i64 0]) 3 32 Tryz.underlying61 hi hz0 hz1' hz2'' rfl (by decide) _ _ _ rfl (ho.alloc _) ⟨wr.heap.size, 0, none⟩ 1 1 [.int .i64 z, .string (s.extract p (p + j)), .int .i64 p] rfl rfl ?c1qb ?c2qb ?c3qb ?c4qb ?c5qb ?_)
                case c1qb =>
                  intro i u hj
                  rw [Go.WideShapes.add_plain, Nat.zero_add, cell_of_row _ _ _ _ _ _ (heap_alloc_new wr _), ← hj, ← Array.getElem?_toList]
                case c2qb => intro u hu; simp at hu; rcases hu with rfl | rfl | rfl <;> rfl
                case c3qb => unfold maxLen; omega
                case c4qb => omega
                case c5qb => have := hb.size; simp; omega
                intro v' w3 hown' hgrow hnn'
                have hb' : Below W.heap.size W w3 := (hb.alloc hb.size _).grown hgrow (by have := hb.size; simp; omega) (fun k hk => (ho.lt k hk).1)
                have hown2 := Lib.hid hown'
                clear hgrow ho hb hnn' hown'
                go_wp2_with fail
                refine ⟨⟨p + j, k + 1, by go_num, by omega, by omega, HD.out, by rw [← HX.out]; exact hown2.out, hb'⟩, by simp [intOf]; omega⟩
      · subst he
        have e1 := h32 s[p] (by omega)
        have K1 := Lib.hid (fun (w : World) => (show Calls Tryz.prog 61 #[.string (s.extract p (p + 1))] w (IntEnd 0 w) by
          have e2 : s.extract p (p + 1) = tx [s[p]] := extract_eq _ _ _ _ (by
            rw [hd, Nat.add_sub_cancel_left]; rfl)
          rw [e2]
          have := kind_is [s[p]] (by simp) w
          rwa [kindL_bad (.inl hc)] at this))
        have KN := Lib.hid (fun (w : World) => (show Calls Tryz.prog 62 #[.string ByteArray.empty] w (PairEnd [] false w) by
          rw [show ByteArray.empty = tx [] from rfl]
          have := rNumber_is [] (by simp) w
          rwa [show numB [] = false by decide, show numT [] = [] by decide] at this))
        have e3 : (p : Int) < (s.size : Int) := by omega
        clear hd hR hc hts h32
        go_wp2_with fail
        go_loop [7] (fun nv => nv = .int .i64 0) (fun nv => 0)
        case atStart => rfl
        case round =>
          subst hrel
          go_wp2_with fail
          refine (K1.out _).mono ?_
          rintro e w1 ⟨rfl, rfl⟩
          go_wp2_with fail
          refine (KN.out _).mono ?_
          rintro e w1 ⟨rfl, rfl⟩
          go_wp2_with fail
          go_ret3
          exact LexEnd.bad hb
      · subst he
        have e1 := h32 s[p] (by omega)
        have hlen : s.size - p = t.length + 1 + r.length := by
          have := congrArg List.length hd
          rw [List.length_drop, List.length_cons, hl, List.length_append] at this
          simp at this
          omega
        have hT : s.extract p (p + (t.length + 1)) = tx (s[p] :: t) := extract_eq _ _ _ _ (by
          rw [hd, hl, Nat.add_sub_cancel_left]
          exact List.take_left (l₁ := s[p] :: t))
        have KK := Lib.hid (fun (j : Nat) (hj : j < t.length + 1) (w : World) => (show Calls Tryz.prog 61 #[.string (s.extract p (p + j + 1))] w (IntEnd 1 w) by
          have e2 : s.extract p (p + j + 1) = tx (s[p] :: t.take j) := extract_eq _ _ _ _ (by
            rw [hd, hl, show p + j + 1 - p = j + 1 by omega, List.take_succ_cons, List.take_append_of_le_length (by omega)])
          rw [e2]
          have := kind_is (s[p] :: t.take j) (by simp; omega) w
          rwa [kindL_yes hc (by omega) (by omega) (fun x hx => ht x (List.mem_of_mem_take hx))] at this))
        have K0 := Lib.hid (fun (hj : p + (t.length + 1) < s.size) (w : World) => (show Calls Tryz.prog 61 #[.string (s.extract p (p + (t.length + 1) + 1))] w (IntEnd 0 w) by
          obtain ⟨d, r', rfl⟩ : ∃ d r', r = d :: r' := by
            cases r with
            | nil => simp at hlen; omega
            | cons d r' => exact ⟨d, r', rfl⟩
          have e2 : s.extract p (p + (t.length + 1) + 1) = tx (s[p] :: t ++ [d]) := extract_eq _ _ _ _ (by
            rw [hd, hl, show p + (t.length + 1) + 1 - p = (s[p] :: (t ++ [d])).length by simp; omega, show s[p] :: (t ++ d :: r') = s[p] :: (t ++ [d]) ++ r' by simp, List.take_left]; rfl)
          rw [e2]
          have := kind_is (s[p] :: t ++ [d]) (by simp; simp at hlen; omega) w
          rwa [kindL_no (t := t) hc (hst d rfl)] at this))
        have KT := Lib.hid (fun (w : World) => (show Calls Tryz.prog 61 #[.string (tx (s[p] :: t))] w (IntEnd 1 w) by
          have := kind_is (s[p] :: t) (by simp; omega) w
          rwa [kindL_yes hc (by omega) (by omega) ht] at this))
        have KN := fun w => rNumber_is (s[p] :: t) (by simp; omega) w
        rw [hnn] at KN
        replace KN := Lib.hid KN
        have hz1 : 1 ≤ t.length + 1 := by omega
        have hz2 : p + (t.length + 1) ≤ s.size := by omega
        rw [← hT] at KT KN
        clear hd hR hl ht hst hnn hts hlen hc hT h32
        generalize numT (s[p] :: t) = nt at *
        generalize t.length + 1 = m at *
        go_wp2_with fail
        go_loop [7] (fun nv => ∃ j : Nat, nv = .int .i64 j ∧ j ≤ m) (fun nv => m - (intOf nv).toNat)
        case atStart => exact ⟨0, rfl, by omega⟩
        case round =>
          obtain ⟨j, rfl, hj⟩ := hrel
          by_cases hj2 : j < m
          · have e3 : (p : Int) + (j : Int) < (s.size : Int) := by omega
            have K1 := Lib.hid (KK.out j hj2)
            go_wp2_with fail
            refine (K1.out _).mono ?_
            rintro e w1 ⟨rfl, rfl⟩
            go_wp2_with fail
            go_round
            case rel => exact ⟨j + 1, by go_num, by omega⟩
            case measure => simp [intOf]; omega
          · obtain rfl : j = m := by omega
            have e5 : ((j : Int) == 0) = false := beq_false_of_ne (by omega)
            clear hj2
            by_cases e3 : p + j < s.size
            · have e4 : (p : Int) + (j : Int) < (s.size : Int) := by omega
              have K1 := Lib.hid (K0.out e3 wr)
              go_wp2_with fail
              refine K1.out.mono ?_
              rintro e w1 ⟨rfl, rfl⟩
              go_wp2_with fail
              refine (KN.out _).mono ?_
              rintro e w1 ⟨rfl, rfl⟩
              go_wp2_with fail
              refine (KT.out _).mono ?_
              rintro e w1 ⟨rfl, rfl⟩
              go_wp2_with fail
              go_ret3
              exact LexEnd.bad hb
            · have e4 : ¬ (p : Int) + (j : Int) < (s.size : Int) := by omega
              go_wp2_with fail
              refine (KN.out _).mono ?_
              rintro e w1 ⟨rfl, rfl⟩
              go_wp2_with fail
              refine (KT.out _).mono ?_
              rintro e w1 ⟨rfl, rfl⟩
              go_wp2_with fail
              go_ret3
              exact LexEnd.bad hb
    · have hd := drop_end s p (by omega)
      rw [hd] at hR
      obtain ⟨hts, he⟩ := hR.inv_nil
      subst he
      have hke : k = ts.length := by
        have := congrArg List.length hts
        rw [List.length_drop] at this
        simp at this
        omega
      have e2 : ¬ (p : Int) < (s.size : Int) := by omega
      obtain ⟨a, c, rfl, hcap, hq⟩ := owns_qs ho
      subst hke
      clear hd hR hts ho
      go_wp2_with fail
      go_ret3
      exact LexEnd.ok hcap hq hb
end Go.Proofs.YtljkmdmbndjngaaGreat
/-
  A text as one part of a kind, as a verb, as an adverb; texts as numbers: of the program, and of the reference.
-/
namespace Go.Proofs.YtljkmdmbndjngaaGreat
set_option linter.unusedVariables false
set_option linter.unusedSimpArgs false
open Go.RowKit

noncomputable def lxT (s : ByteArray) : List Tk := Classical.choose (Run.any numB s.data.toList 0)
theorem lxT_ex (s : ByteArray) : ∃ e, Run numB s.data.toList 0 (lxT s) e := Classical.choose_spec (Run.any numB s.data.toList 0)
noncomputable def lxE (s : ByteArray) : Option Nat := Classical.choose (lxT_ex s)
theorem lx_run (s : ByteArray) : Run numB s.data.toList 0 (lxT s) (lxE s) := Classical.choose_spec (lxT_ex s)
/-- Is a text one part, of some kind? -/
noncomputable def prt (s : ByteArray) (k : Int) : Bool :=
  if s.size ≤ 256 then
    match lxE s with
    | some _ => false
    | none => match lxT s with
      | [t] => decide ((t.kind : Int) = k) && ((tx t.text).toList == s.toList)
      | _ => false
  else false
/-- The two sides of part, by what Lex tells. -/
theorem part_by {f : FuncId} {s : ByteArray} {k : Int} {W : World}
    (h0 : 256 < s.size → Calls Tryz.prog f #[.string s, .int .i64 k] W (ValEnd (.bool false) W))
    (h1 : ∀ q, s.size ≤ 256 → lxE s = some q → Calls Tryz.prog f #[.string s, .int .i64 k] W (ValEnd (.bool false) W))
    (h2 : s.size ≤ 256 → lxE s = none → (lxT s).length ≠ 1 → Calls Tryz.prog f #[.string s, .int .i64 k] W (ValEnd (.bool false) W))
    (h3 : ∀ t, s.size ≤ 256 → lxE s = none → lxT s = [t] → Calls Tryz.prog f #[.string s, .int .i64 k] W (ValEnd (.bool (decide ((t.kind : Int) = k) && ((tx t.text).toList == s.toList))) W)) :
    Calls Tryz.prog f #[.string s, .int .i64 k] W (ValEnd (.bool (prt s k)) W) := by
  unfold prt
  by_cases hs : s.size ≤ 256
  · rw [if_pos hs]
    cases he : lxE s with
    | some q => exact h1 q hs he
    | none =>
      show Calls _ _ _ _ (ValEnd (.bool (match lxT s with | [t] => _ | _ => false)) W)
      split
      · rename_i t ht
        exact h3 t hs he ht
      · rename_i ht
        refine h2 hs he fun hl => ?_
        obtain ⟨t, ht2⟩ := List.length_eq_one_iff.1 hl
        exact ht t ht2
  · rw [if_neg hs]
    exact h0 (by omega)
set_option maxHeartbeats 1600000 in
theorem isPart_is (s : ByteArray) (k : Int) (hs : s.size ≤ 9223372036854775807) (W : World) : Calls Tryz.prog 43 #[.string s, .int .i64 k] W (ValEnd (.bool (prt s k)) W) := by
  refine part_by (fun h => ?_) (fun q h he => ?_) (fun h he hl => ?_) (fun t h he ht => ?_)
  · have K := Lib.hid (big_is s h hs W)
    go_enter Tryz.func43, Tryz.ntmps43
    go_wp2_with fail
    refine K.out.mono ?_
    rintro e w1 ⟨rfl, hb⟩
    go_wp2_with fail
    go_ret
    exact ⟨rfl, hb⟩
  · have K := lex_is s h _ _ (lx_run s) W
    rw [he] at K
    replace K := Lib.hid K
    clear he
    go_enter Tryz.func43, Tryz.ntmps43
    go_wp2_with fail
    refine K.out.mono ?_
    rintro e w1 ⟨rfl, hb⟩
    go_wp2_with fail
    go_ret
    exact ⟨rfl, hb⟩
  · have K := lex_is s h _ _ (lx_run s) W
    rw [he] at K
    have hl2 : ((lxT s).length : Int) ≠ 1 := by omega
    have hl3 := (lx_run s).span.2
    simp at hl3
    generalize lxT s = ts at *
    replace K := Lib.hid K
    clear he hl
    go_enter Tryz.func43, Tryz.ntmps43
    go_wp2_with fail
    refine K.out.mono ?_
    rintro e w1 ⟨a, c, rfl, _, _, hb⟩
    go_wp2_with fail
    go_ret
    exact ⟨rfl, hb⟩
  · have K := lex_is s h _ _ (lx_run s) W
    rw [he, ht] at K
    replace K := Lib.hid K
    obtain ⟨u, hu⟩ : ∃ u, u = tx t.text := ⟨_, rfl⟩
    rw [← hu]
    have HU := Lib.hid hu
    clear he ht hu
    go_enter Tryz.func43, Tryz.ntmps43
    go_wp2_with fail
    refine K.out.mono ?_
    rintro e w1 ⟨a, c, rfl, _, hq, hb⟩
    obtain ⟨b, off, rfl, hc⟩ := hq (by simp)
    obtain ⟨c0, c1, c2⟩ := hc 0 (by simp)
    rw [show rtk [t] 0 = ⟨t.kind, tx t.text, t.at_⟩ from rfl, ← HU.out] at c0 c1
    simp only [Nat.zero_mul, Nat.add_zero] at c0 c1
    have el : [t].length = 1 := rfl
    rw [el]
    clear hq hc c2 el K
    go_wp2_with fail
    all_goals
      go_ret
      exact ⟨by simp_all, hb⟩
set_option maxHeartbeats 1600000 in
theorem rpart_is (s : ByteArray) (k : Int) (hs : s.size ≤ 9223372036854775807) (W : World) : Calls Tryz.prog 53 #[.string s, .int .i64 k] W (ValEnd (.bool (prt s k)) W) := by
  refine part_by (fun h => ?_) (fun q h he => ?_) (fun h he hl => ?_) (fun t h he ht => ?_)
  · have K := Lib.hid (rbig_is s h hs W)
    go_enter Tryz.func53, Tryz.ntmps53
    go_wp2_with fail
    refine K.out.mono ?_
    rintro e w1 ⟨rfl, hb⟩
    go_wp2_with fail
    go_ret
    exact ⟨rfl, hb⟩
  · have K := rlex_is s h _ _ (lx_run s) W
    rw [he] at K
    replace K := Lib.hid K
    clear he
    go_enter Tryz.func53, Tryz.ntmps53
    go_wp2_with fail
    refine K.out.mono ?_
    rintro e w1 ⟨rfl, hb⟩
    go_wp2_with fail
    go_ret
    exact ⟨rfl, hb⟩
  · have K := rlex_is s h _ _ (lx_run s) W
    rw [he] at K
    have hl2 : ((lxT s).length : Int) ≠ 1 := by omega
    have hl3 := (lx_run s).span.2
    simp at hl3
    generalize lxT s = ts at *
    replace K := Lib.hid K
    clear he hl
    go_enter Tryz.func53, Tryz.ntmps53
    go_wp2_with fail
    refine K.out.mono ?_
    rintro e w1 ⟨a, c, rfl, _, _, hb⟩
    go_wp2_with fail
    go_ret
    exact ⟨rfl, hb⟩
  · have K := rlex_is s h _ _ (lx_run s) W
    rw [he, ht] at K
    replace K := Lib.hid K
    obtain ⟨u, hu⟩ : ∃ u, u = tx t.text := ⟨_, rfl⟩
    rw [← hu]
    have HU := Lib.hid hu
    clear he ht hu
    go_enter Tryz.func53, Tryz.ntmps53
    go_wp2_with fail
    refine K.out.mono ?_
    rintro e w1 ⟨a, c, rfl, _, hq, hb⟩
    obtain ⟨b, off, rfl, hc⟩ := hq (by simp)
    obtain ⟨c0, c1, c2⟩ := hc 0 (by simp)
    rw [show rtk [t] 0 = ⟨t.kind, tx t.text, t.at_⟩ from rfl, ← HU.out] at c0 c1
    simp only [Nat.zero_mul, Nat.add_zero] at c0 c1
    have el : [t].length = 1 := rfl
    rw [el]
    clear hq hc c2 el K
    go_wp2_with fail
    all_goals
      go_ret
      exact ⟨by simp_all, hb⟩
end Go.Proofs.YtljkmdmbndjngaaGreat

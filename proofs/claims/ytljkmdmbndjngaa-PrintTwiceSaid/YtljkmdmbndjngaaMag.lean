import Derived.Test.YtljkmdmbndjngaaMaf
import Derived.RegionTactic
import Derived.Deep.DeepCutAuto
import Derived.Test.YtljkmdmbndjngaaMae
import Derived.Deep.RegionHeld3
import Derived.BigRegion
/-
  Lex, of the program: at every line.
-/
namespace Go.Proofs.Ytljkmdmbndjngaa
set_option linter.unusedVariables false
set_option linter.unusedSimpArgs false
open Go.RowKit

theorem Run.inv {N : List UInt8 → Bool} {c : UInt8} {l : List UInt8} {p : Nat} {ts : List Tk} {e : Option Nat} (h : Run N (c :: l) p ts e) :
    (cls c = 7 ∧ Run N l (p + 1) ts e)
    ∨ (∃ t r us, 1 ≤ cls c ∧ cls c ≤ 6 ∧ l = t ++ r ∧ (∀ x ∈ t, (moreL (cls c)).contains x = true) ∧ Stop (cls c) r ∧ (cls c = 1 → N (c :: t) = true) ∧ ts = ⟨cls c, c :: t, p⟩ :: us ∧ Run N r (p + (t.length + 1)) us e)
    ∨ (cls c = 0 ∧ ts = [] ∧ e = some p)
    ∨ (cls c = 1 ∧ ∃ t r, l = t ++ r ∧ (∀ x ∈ t, (moreL 1).contains x = true) ∧ Stop 1 r ∧ N (c :: t) = false ∧ ts = [] ∧ e = some p) := by
  generalize hm : c :: l = m at h
  cases h with
  | nil => cases hm
  | blank h hr =>
    cases hm
    exact .inl ⟨h, hr⟩
  | part h h1 h6 ht hs hn hr =>
    cases hm
    subst h
    exact .inr (.inl ⟨_, _, _, h1, h6, rfl, ht, hs, hn, rfl, hr⟩)
  | bad h =>
    cases hm
    exact .inr (.inr (.inl ⟨h, rfl, rfl⟩))
  | figs h ht hs hn =>
    cases hm
    exact .inr (.inr (.inr ⟨h, _, _, rfl, ht, hs, hn, rfl, rfl⟩))
theorem Run.inv_nil {N : List UInt8 → Bool} {p : Nat} {ts : List Tk} {e : Option Nat} (h : Run N [] p ts e) : ts = [] ∧ e = none := by
  generalize hm : ([] : List UInt8) = m at h
  cases h with
  | nil => exact ⟨rfl, rfl⟩
  | blank h hr => cases hm
  | part h h1 h6 ht hs hn hr => cases hm
  | bad h => cases hm
  | figs h ht hs hn => cases hm
/-- What Lex asks of a byte. -/
structure Isks (x : UInt8) (vb vf vu v2 v3 v4 v5 v6 : Bool) (w : World) : Prop where
  hb : Calls Try.prog 38 #[.string ⟨#[32]⟩, .int .u8 (x.toNat : Int)] w (BoolEnd vb w)
  hf : Calls Try.prog 38 #[.string ⟨#[48, 49, 50, 51, 52, 53, 54, 55, 56, 57]⟩, .int .u8 (x.toNat : Int)] w (BoolEnd vf w)
  hu : Calls Try.prog 38 #[.string ⟨#[95]⟩, .int .u8 (x.toNat : Int)] w (BoolEnd vu w)
  h2 : Calls Try.prog 38 #[.string ⟨#[97, 98, 99, 100, 101, 102, 103, 104, 105, 106, 107, 108, 109, 110, 111, 112, 113, 114, 115, 116, 117, 118, 119, 120, 121, 122]⟩, .int .u8 (x.toNat : Int)] w (BoolEnd v2 w)
  h3 : Calls Try.prog 38 #[.string ⟨#[65, 66, 67, 68, 69, 70, 71, 72, 73, 74, 75, 76, 77, 78, 79, 80, 81, 82, 83, 84, 85, 86, 87, 88, 89, 90]⟩, .int .u8 (x.toNat : Int)] w (BoolEnd v3 w)
  h4 : Calls Try.prog 38 #[.string ⟨#[43, 45, 42, 37, 33, 38, 124, 60, 62, 61, 126, 44, 35, 94, 36, 63, 64]⟩, .int .u8 (x.toNat : Int)] w (BoolEnd v4 w)
  h5 : Calls Try.prog 38 #[.string ⟨#[39, 47, 92, 46, 96]⟩, .int .u8 (x.toNat : Int)] w (BoolEnd v5 w)
  h6 : Calls Try.prog 38 #[.string ⟨#[40, 41, 91, 93, 123, 125, 58]⟩, .int .u8 (x.toNat : Int)] w (BoolEnd v6 w)
theorem isks_is (x : UInt8) {vb vf vu v2 v3 v4 v5 v6 : Bool} (eb : (x == 32) = vb) (ef : figL.contains x = vf) (eu : (x == 95) = vu) (e2 : smL.contains x = v2) (e3 : grL.contains x = v3) (e4 : sgL.contains x = v4) (e5 : adL.contains x = v5) (e6 : mkL.contains x = v6) (w : World) : Isks x vb vf vu v2 v3 v4 v5 v6 w where
  hb := isOf_is ⟨#[32]⟩ x vb (by rw [← eb]; show ([32] : List UInt8).contains x = _; rw [List.contains_cons, List.contains_nil, Bool.or_false]) w
  hf := isOf_is ⟨#[48, 49, 50, 51, 52, 53, 54, 55, 56, 57]⟩ x vf ef w
  hu := isOf_is ⟨#[95]⟩ x vu (by rw [← eu]; show ([95] : List UInt8).contains x = _; rw [List.contains_cons, List.contains_nil, Bool.or_false]) w
  h2 := isOf_is ⟨#[97, 98, 99, 100, 101, 102, 103, 104, 105, 106, 107, 108, 109, 110, 111, 112, 113, 114, 115, 116, 117, 118, 119, 120, 121, 122]⟩ x v2 e2 w
  h3 := isOf_is ⟨#[65, 66, 67, 68, 69, 70, 71, 72, 73, 74, 75, 76, 77, 78, 79, 80, 81, 82, 83, 84, 85, 86, 87, 88, 89, 90]⟩ x v3 e3 w
  h4 := isOf_is ⟨#[43, 45, 42, 37, 33, 38, 124, 60, 62, 61, 126, 44, 35, 94, 36, 63, 64]⟩ x v4 e4 w
  h5 := isOf_is ⟨#[39, 47, 92, 46, 96]⟩ x v5 e5 w
  h6 := isOf_is ⟨#[40, 41, 91, 93, 123, 125, 58]⟩ x v6 e6 w
theorem boxed {w W : World} {v : Value} {k : Nat} {xs : List Value} (ho : w.ownsRow W.heap.size 66 3 v k xs) (hb : Below W.heap.size W w) (m : ByteArray) :
    ∃ w2, w2 = w.alloc (.cells #[.string m] 9) ∧ W.heap.size ≤ w2.heap.size ∧ w2.ownsRow W.heap.size 66 3 v k xs ∧ Below W.heap.size W w2 :=
  ⟨_, rfl, by have := hb.size; simp; omega, ho.alloc _, hb.alloc hb.size _⟩
set_option maxHeartbeats 3200000 in
set_option maxRecDepth 10000 in
theorem lex_is (s : ByteArray) (hs : s.size ≤ 256) (ts : List Tk) (e : Option Nat) (h : Run numB s.data.toList 0 ts e) (W : World) : Calls Try.prog 20 #[.string s] W (LexEnd ts e W) := by
  have h1 : ¬ (256 : Int) < (s.size : Int) := by omega
  have hn256 : ts.length ≤ 256 := by have := h.span.2; simp at this; omega
  have HR := Lib.hid h
  clear h
  go_enter Try.func20, Try.ntmps20
  go_wp2_with fail
  go_step3
  go_wp2_with fail
  go_step3
  go_wp2_with fail
  go_loopw [5, 6] (fun pv iv wr => ∃ p k : Nat, iv = .int .i64 p ∧ p ≤ s.size ∧ k ≤ ts.length ∧ Run numB (s.data.toList.drop p) p (ts.drop k) e ∧ wr.ownsRow W.heap.size 66 3 pv k (rvs (rtk ts) k) ∧ Below W.heap.size W wr) (fun _ iv _ => s.size - (intOf iv).toNat)
  case atStart => exact ⟨0, 0, rfl, by omega, by omega, HR.out, ⟨rfl, .inl ⟨rfl, rfl⟩⟩, Below.refl _ _⟩
  case round =>
    obtain ⟨p, k, rfl, hp, hk, hR, ho, hb⟩ := hrel
    by_cases hlt : p < s.size
    · have hd := drop_at s p hlt
      rw [hd] at hR
      have hn := cls_nine s[p]
      unfold nineOf nine at hn
      simp only [List.mem_cons, List.not_mem_nil, or_false, Prod.mk.injEq] at hn
      rcases hR.inv with ⟨hc, hr⟩ | ⟨t, r, us, hc1, hc6, hl, ht, hst, hnn, hts, hr⟩ | ⟨hc, hts, he⟩ | ⟨hc, t, r, hl, ht, hst, hnn, hts, he⟩
      · have e0 : s[p] = 32 := blank_is _ hc
        have KI := Lib.hid (fun w => isks_is s[p] rfl rfl rfl rfl rfl rfl rfl rfl w)
        have KB := Lib.hid (fun w => (show Calls Try.prog 38 #[.string ⟨#[32]⟩, .int .u8 (s[p].toNat : Int)] w (BoolEnd true w) from isOf_is ⟨#[32]⟩ s[p] true (by rw [e0]; rfl) w))
        have HD := Lib.hid hr
        clear hn hd hR hc hr e0 KI
        go_wp2_with fail
        refine (KB.out _).mono ?_
        rintro e w1 ⟨rfl, rfl⟩
        go_wp2_with fail
        refine ⟨⟨p + 1, k, by go_num, by omega, hk, HD.out, ho.alloc _, hb.alloc hb.size _⟩, by simp [intOf]; omega⟩
      · obtain ⟨hk1, rfl, hk3⟩ := drop_cons hts
        have hf := rtk_at hk1
        have hlen : s.size - p = t.length + 1 + r.length := by
          have := congrArg List.length hd
          rw [List.length_drop, List.length_cons, hl, List.length_append] at this
          simp at this
          omega
        have hsub : (s.extract p s.size).data.toList = s[p] :: t ++ r := by
          rw [extract_list, hd, hl, List.take_of_length_le (by simp; omega)]; rfl
        have hsz : (s.extract p s.size).size ≤ 9223372036854775807 := by
          have : (s.extract p s.size).data.toList.length = (s.extract p s.size).size := by simp
          rw [← this, hsub]; simp; omega
        have hrest : s.data.toList.drop (p + (t.length + 1)) = r := by
          rw [← List.drop_drop, hd, hl]
          exact List.drop_left (l₁ := s[p] :: t)
        have eb : (s[p] == 32) = false := beq_false_of_ne (fun h => by rw [h] at hc6; exact absurd hc6 (by decide))
        have KN := Lib.hid (fun w => Number_is (s[p] :: t) (by simp; omega) w)
        have KP := Lib.hid (fun (B : Nat) (m : ByteArray) (hm : m.data.toList = moreL (cls s[p])) (w : World) (hc : w.cell? ⟨B, 0, none⟩ = some (.string m)) => part_is B (cls s[p]) m (s.extract p s.size) s[p] t r hm hsub ht hst hsz w hc)
        have HX := Lib.hid (show rvs (rtk ts) k ++ [.int .i64 (cls s[p]), .string (tx (s[p] :: t)), .int .i64 p] = rvs (rtk ts) (k + 1) by
          show _ = rvs (rtk ts) k ++ (rtk ts k).cells
          rw [hf]; rfl)
        have HD : Hid (Run numB (s.data.toList.drop (p + (tx (s[p] :: t)).size)) (p + (tx (s[p] :: t)).size) (ts.drop (k + 1)) e) := Lib.hid (by
          rw [show (tx (s[p] :: t)).size = t.length + 1 from rfl, hrest]; exact hr)
        have hz1 : 1 ≤ (tx (s[p] :: t)).size := by rw [show (tx (s[p] :: t)).size = t.length + 1 from rfl]; omega
        have hz2 : p + (tx (s[p] :: t)).size ≤ s.size := by rw [show (tx (s[p] :: t)).size = t.length + 1 from rfl]; omega
        have HN := Lib.hid hnn
        rw [show (⟨(s[p] :: t).toArray⟩ : ByteArray) = tx (s[p] :: t) from rfl] at KP
        clear hd hR hl ht hst hnn hts hr hk1 hf hlen hsub hsz hrest
        generalize tx (s[p] :: t) = tt at *
        generalize rvs (rtk ts) k = xs at *
        generalize numB (s[p] :: t) = nb at *
        generalize numT (s[p] :: t) = nt at *
        rcases hn with ⟨ec, e2, e3, e4, e5, e6, eu, ef⟩ | ⟨ec, e2, e3, e4, e5, e6, eu, ef⟩ | ⟨ec, e2, e3, e4, e5, e6, eu, ef⟩ | ⟨ec, e2, e3, e4, e5, e6, eu, ef⟩ | ⟨ec, e2, e3, e4, e5, e6, eu, ef⟩ | ⟨ec, e2, e3, e4, e5, e6, eu, ef⟩ | ⟨ec, e2, e3, e4, e5, e6, eu, ef⟩ | ⟨ec, e2, e3, e4, e5, e6, eu, ef⟩ | ⟨ec, e2, e3, e4, e5, e6, eu, ef⟩
        · omega
        · omega
        all_goals
          have KI := Lib.hid (fun w => isks_is s[p] eb ef eu e2 e3 e4 e5 e6 w)
          rw [ec] at KP HX HN
          clear hc1 hc6 ec e2 e3 e4 e5 e6 eu ef eb
        · obtain rfl : nb = true := HN.out rfl
          clear HN
          have KQ := Lib.hid (fun m hm => KP.out wr.heap.size m hm (wr.alloc (.cells #[.string m] 9)) (by
            rw [cell_of_row _ _ _ _ _ _ (heap_alloc_new wr (.cells #[.string m] 9))]; rfl))
          clear KP
          go_wp2_with (go_at_call 38; (first | (with_reducible refine (KI.out _).hb.mono ?_) | (with_reducible refine (KI.out _).hf.mono ?_) | (with_reducible refine (KI.out _).hu.mono ?_) | (with_reducible refine (KI.out _).h2.mono ?_) | (with_reducible refine (KI.out _).h3.mono ?_) | (with_reducible refine (KI.out _).h4.mono ?_) | (with_reducible refine (KI.out _).h5.mono ?_) | (with_reducible refine (KI.out _).h6.mono ?_)); rintro e w1 ⟨rfl, rfl⟩)
          refine (KQ.out _ (by rfl)).mono ?_
          rintro e w1 ⟨rfl, rfl⟩
          go_wp2_with fail
          refine (KN.out _).mono ?_
          rintro e w1 ⟨rfl, rfl⟩
          have hq := hb.size
          obtain ⟨w2, hw2, hz2', ho2, hb2⟩ := boxed ho hb (⟨#[48, 49, 50, 51, 52, 53, 54, 55, 56, 57]⟩ : ByteArray)
          rw [← hw2]
          clear hw2 ho hb hq KI KQ KN
          obtain ⟨i0, hi, hz0, hz1', hz2''⟩ := info_parts infoT
          go_wp2_with (at_builtin; refine wpList_append_own _ rfl (.tmp 64) (.tmp 69) 46 rfl W.heap.size 66 i0 (.agg #[.int .i64 0, .string ⟨#[]⟩, .int .i64 0]) 3 32 Try.underlying46 hi hz0 hz1' hz2'' rfl (by decide) _ _ _ rfl (ho2.alloc _) ⟨w2.heap.size, 0, none⟩ 1 1 [.int .i64 1, .string tt, .int .i64 p] rfl rfl ?c1r0 ?c2r0 ?c3r0 ?c4r0 ?c5r0 ?_)
          case c1r0 =>
            intro j u hj
            rw [Go.WideShapes.add_plain, Nat.zero_add, cell_of_row _ _ _ _ _ _ (heap_alloc_new w2 _), ← hj, ← Array.getElem?_toList]
          case c2r0 => intro u hu; simp at hu; rcases hu with rfl | rfl | rfl <;> rfl
          case c3r0 => unfold maxLen; omega
          case c4r0 => omega
          case c5r0 => simp; omega
          intro v' w3 hown' hgrow hnn'
          have hb' : Below W.heap.size W w3 := (hb2.alloc hz2' _).grown hgrow (by simp; omega) (fun k hk => (ho2.lt k hk).1)
          have hown2 := Lib.hid hown'
          clear hgrow ho2 hb2 hnn' hown'
          go_wp2_with fail
          refine ⟨⟨p + tt.size, k + 1, by go_num, by omega, by omega, HD.out, by rw [← HX.out]; exact hown2.out, hb'⟩, by simp [intOf]; omega⟩
        · obtain rfl : nb = true := HN.out rfl
          clear HN
          have KQ := Lib.hid (fun m hm => KP.out wr.heap.size m hm (wr.alloc (.cells #[.string m] 9)) (by
            rw [cell_of_row _ _ _ _ _ _ (heap_alloc_new wr (.cells #[.string m] 9))]; rfl))
          clear KP
          go_wp2_with (go_at_call 38; (first | (with_reducible refine (KI.out _).hb.mono ?_) | (with_reducible refine (KI.out _).hf.mono ?_) | (with_reducible refine (KI.out _).hu.mono ?_) | (with_reducible refine (KI.out _).h2.mono ?_) | (with_reducible refine (KI.out _).h3.mono ?_) | (with_reducible refine (KI.out _).h4.mono ?_) | (with_reducible refine (KI.out _).h5.mono ?_) | (with_reducible refine (KI.out _).h6.mono ?_)); rintro e w1 ⟨rfl, rfl⟩)
          refine (KQ.out _ (by rfl)).mono ?_
          rintro e w1 ⟨rfl, rfl⟩
          go_wp2_with fail
          refine (KN.out _).mono ?_
          rintro e w1 ⟨rfl, rfl⟩
          have hq := hb.size
          obtain ⟨w2, hw2, hz2', ho2, hb2⟩ := boxed ho hb (⟨#[48, 49, 50, 51, 52, 53, 54, 55, 56, 57]⟩ : ByteArray)
          rw [← hw2]
          clear hw2 ho hb hq KI KQ KN
          obtain ⟨i0, hi, hz0, hz1', hz2''⟩ := info_parts infoT
          go_wp2_with (at_builtin; refine wpList_append_own _ rfl (.tmp 64) (.tmp 69) 46 rfl W.heap.size 66 i0 (.agg #[.int .i64 0, .string ⟨#[]⟩, .int .i64 0]) 3 32 Try.underlying46 hi hz0 hz1' hz2'' rfl (by decide) _ _ _ rfl (ho2.alloc _) ⟨w2.heap.size, 0, none⟩ 1 1 [.int .i64 1, .string tt, .int .i64 p] rfl rfl ?c1r1 ?c2r1 ?c3r1 ?c4r1 ?c5r1 ?_)
          case c1r1 =>
            intro j u hj
            rw [Go.WideShapes.add_plain, Nat.zero_add, cell_of_row _ _ _ _ _ _ (heap_alloc_new w2 _), ← hj, ← Array.getElem?_toList]
          case c2r1 => intro u hu; simp at hu; rcases hu with rfl | rfl | rfl <;> rfl
          case c3r1 => unfold maxLen; omega
          case c4r1 => omega
          case c5r1 => simp; omega
          intro v' w3 hown' hgrow hnn'
          have hb' : Below W.heap.size W w3 := (hb2.alloc hz2' _).grown hgrow (by simp; omega) (fun k hk => (ho2.lt k hk).1)
          have hown2 := Lib.hid hown'
          clear hgrow ho2 hb2 hnn' hown'
          go_wp2_with fail
          refine ⟨⟨p + tt.size, k + 1, by go_num, by omega, by omega, HD.out, by rw [← HX.out]; exact hown2.out, hb'⟩, by simp [intOf]; omega⟩
        · clear HN
          have KQ := Lib.hid (fun m hm => KP.out wr.heap.size m hm (wr.alloc (.cells #[.string m] 9)) (by
            rw [cell_of_row _ _ _ _ _ _ (heap_alloc_new wr (.cells #[.string m] 9))]; rfl))
          clear KP
          go_wp2_with (go_at_call 38; (first | (with_reducible refine (KI.out _).hb.mono ?_) | (with_reducible refine (KI.out _).hf.mono ?_) | (with_reducible refine (KI.out _).hu.mono ?_) | (with_reducible refine (KI.out _).h2.mono ?_) | (with_reducible refine (KI.out _).h3.mono ?_) | (with_reducible refine (KI.out _).h4.mono ?_) | (with_reducible refine (KI.out _).h5.mono ?_) | (with_reducible refine (KI.out _).h6.mono ?_)); rintro e w1 ⟨rfl, rfl⟩)
          refine (KQ.out _ (by rfl)).mono ?_
          rintro e w1 ⟨rfl, rfl⟩
          go_wp2_with fail
          refine (KN.out _).mono ?_
          rintro e w1 ⟨rfl, rfl⟩
          have hq := hb.size
          obtain ⟨w2, hw2, hz2', ho2, hb2⟩ := boxed ho hb (⟨#[97, 98, 99, 100, 101, 102, 103, 104, 105, 106, 107, 108, 109, 110, 111, 112, 113, 114, 115, 116, 117, 118, 119, 120, 121, 122, 48, 49, 50, 51, 52, 53, 54, 55, 56, 57]⟩ : ByteArray)
          rw [← hw2]
          clear hw2 ho hb hq KI KQ KN
          obtain ⟨i0, hi, hz0, hz1', hz2''⟩ := info_parts infoT
          go_wp2_with (at_builtin; refine wpList_append_own _ rfl (.tmp 64) (.tmp 69) 46 rfl W.heap.size 66 i0 (.agg #[.int .i64 0, .string ⟨#[]⟩, .int .i64 0]) 3 32 Try.underlying46 hi hz0 hz1' hz2'' rfl (by decide) _ _ _ rfl (ho2.alloc _) ⟨w2.heap.size, 0, none⟩ 1 1 [.int .i64 2, .string tt, .int .i64 p] rfl rfl ?c1r2 ?c2r2 ?c3r2 ?c4r2 ?c5r2 ?_)
          case c1r2 =>
            intro j u hj
            rw [Go.WideShapes.add_plain, Nat.zero_add, cell_of_row _ _ _ _ _ _ (heap_alloc_new w2 _), ← hj, ← Array.getElem?_toList]
          case c2r2 => intro u hu; simp at hu; rcases hu with rfl | rfl | rfl <;> rfl
          case c3r2 => unfold maxLen; omega
          case c4r2 => omega
          case c5r2 => simp; omega
          intro v' w3 hown' hgrow hnn'
          have hb' : Below W.heap.size W w3 := (hb2.alloc hz2' _).grown hgrow (by simp; omega) (fun k hk => (ho2.lt k hk).1)
          have hown2 := Lib.hid hown'
          clear hgrow ho2 hb2 hnn' hown'
          go_wp2_with fail
          refine ⟨⟨p + tt.size, k + 1, by go_num, by omega, by omega, HD.out, by rw [← HX.out]; exact hown2.out, hb'⟩, by simp [intOf]; omega⟩
        · clear HN
          have KQ := Lib.hid (fun m hm => KP.out wr.heap.size m hm (wr.alloc (.cells #[.string m] 9)) (by
            rw [cell_of_row _ _ _ _ _ _ (heap_alloc_new wr (.cells #[.string m] 9))]; rfl))
          clear KP
          go_wp2_with (go_at_call 38; (first | (with_reducible refine (KI.out _).hb.mono ?_) | (with_reducible refine (KI.out _).hf.mono ?_) | (with_reducible refine (KI.out _).hu.mono ?_) | (with_reducible refine (KI.out _).h2.mono ?_) | (with_reducible refine (KI.out _).h3.mono ?_) | (with_reducible refine (KI.out _).h4.mono ?_) | (with_reducible refine (KI.out _).h5.mono ?_) | (with_reducible refine (KI.out _).h6.mono ?_)); rintro e w1 ⟨rfl, rfl⟩)
          refine (KQ.out _ (by rfl)).mono ?_
          rintro e w1 ⟨rfl, rfl⟩
          go_wp2_with fail
          refine (KN.out _).mono ?_
          rintro e w1 ⟨rfl, rfl⟩
          have hq := hb.size
          obtain ⟨w2, hw2, hz2', ho2, hb2⟩ := boxed ho hb (⟨#[97, 98, 99, 100, 101, 102, 103, 104, 105, 106, 107, 108, 109, 110, 111, 112, 113, 114, 115, 116, 117, 118, 119, 120, 121, 122, 65, 66, 67, 68, 69, 70, 71, 72, 73, 74, 75, 76, 77, 78, 79, 80, 81, 82, 83, 84, 85, 86, 87, 88, 89, 90, 48, 49, 50, 51, 52, 53, 54, 55, 56, 57]⟩ : ByteArray)
          rw [← hw2]
          clear hw2 ho hb hq KI KQ KN
          obtain ⟨i0, hi, hz0, hz1', hz2''⟩ := info_parts infoT
          go_wp2_with (at_builtin; refine wpList_append_own _ rfl (.tmp 64) (.tmp 69) 46 rfl W.heap.size 66 i0 (.agg #[.int .i64 0, .string ⟨#[]⟩, .int .i64 0]) 3 32 Try.underlying46 hi hz0 hz1' hz2'' rfl (by decide) _ _ _ rfl (ho2.alloc _) ⟨w2.heap.size, 0, none⟩ 1 1 [.int .i64 3, .string tt, .int .i64 p] rfl rfl ?c1r3 ?c2r3 ?c3r3 ?c4r3 ?c5r3 ?_)
          case c1r3 =>
            intro j u hj
            rw [Go.WideShapes.add_plain, Nat.zero_add, cell_of_row _ _ _ _ _ _ (heap_alloc_new w2 _), ← hj, ← Array.getElem?_toList]
          case c2r3 => intro u hu; simp at hu; rcases hu with rfl | rfl | rfl <;> rfl
          case c3r3 => unfold maxLen; omega
          case c4r3 => omega
          case c5r3 => simp; omega
          intro v' w3 hown' hgrow hnn'
          have hb' : Below W.heap.size W w3 := (hb2.alloc hz2' _).grown hgrow (by simp; omega) (fun k hk => (ho2.lt k hk).1)
          have hown2 := Lib.hid hown'
          clear hgrow ho2 hb2 hnn' hown'
          go_wp2_with fail
          refine ⟨⟨p + tt.size, k + 1, by go_num, by omega, by omega, HD.out, by rw [← HX.out]; exact hown2.out, hb'⟩, by simp [intOf]; omega⟩
        · clear HN
          have KQ := Lib.hid (fun m hm => KP.out wr.heap.size m hm (wr.alloc (.cells #[.string m] 9)) (by
            rw [cell_of_row _ _ _ _ _ _ (heap_alloc_new wr (.cells #[.string m] 9))]; rfl))
          clear KP
          go_wp2_with (go_at_call 38; (first | (with_reducible refine (KI.out _).hb.mono ?_) | (with_reducible refine (KI.out _).hf.mono ?_) | (with_reducible refine (KI.out _).hu.mono ?_) | (with_reducible refine (KI.out _).h2.mono ?_) | (with_reducible refine (KI.out _).h3.mono ?_) | (with_reducible refine (KI.out _).h4.mono ?_) | (with_reducible refine (KI.out _).h5.mono ?_) | (with_reducible refine (KI.out _).h6.mono ?_)); rintro e w1 ⟨rfl, rfl⟩)
          refine (KQ.out _ (by rfl)).mono ?_
          rintro e w1 ⟨rfl, rfl⟩
          go_wp2_with fail
          refine (KN.out _).mono ?_
          rintro e w1 ⟨rfl, rfl⟩
          have hq := hb.size
          obtain ⟨w2, hw2, hz2', ho2, hb2⟩ := boxed ho hb (⟨#[]⟩ : ByteArray)
          rw [← hw2]
          clear hw2 ho hb hq KI KQ KN
          obtain ⟨i0, hi, hz0, hz1', hz2''⟩ := info_parts infoT
          go_wp2_with (at_builtin; refine wpList_append_own _ rfl (.tmp 64) (.tmp 69) 46 rfl W.heap.size 66 i0 (.agg #[.int .i64 0, .string ⟨#[]⟩, .int .i64 0]) 3 32 Try.underlying46 hi hz0 hz1' hz2'' rfl (by decide) _ _ _ rfl (ho2.alloc _) ⟨w2.heap.size, 0, none⟩ 1 1 [.int .i64 4, .string tt, .int .i64 p] rfl rfl ?c1r4 ?c2r4 ?c3r4 ?c4r4 ?c5r4 ?_)
          case c1r4 =>
            intro j u hj
            rw [Go.WideShapes.add_plain, Nat.zero_add, cell_of_row _ _ _ _ _ _ (heap_alloc_new w2 _), ← hj, ← Array.getElem?_toList]
          case c2r4 => intro u hu; simp at hu; rcases hu with rfl | rfl | rfl <;> rfl
          case c3r4 => unfold maxLen; omega
          case c4r4 => omega
          case c5r4 => simp; omega
          intro v' w3 hown' hgrow hnn'
          have hb' : Below W.heap.size W w3 := (hb2.alloc hz2' _).grown hgrow (by simp; omega) (fun k hk => (ho2.lt k hk).1)
          have hown2 := Lib.hid hown'
          clear hgrow ho2 hb2 hnn' hown'
          go_wp2_with fail
          refine ⟨⟨p + tt.size, k + 1, by go_num, by omega, by omega, HD.out, by rw [← HX.out]; exact hown2.out, hb'⟩, by simp [intOf]; omega⟩
        · clear HN
          have KQ := Lib.hid (fun m hm => KP.out wr.heap.size m hm (wr.alloc (.cells #[.string m] 9)) (by
            rw [cell_of_row _ _ _ _ _ _ (heap_alloc_new wr (.cells #[.string m] 9))]; rfl))
          clear KP
          go_wp2_with (go_at_call 38; (first | (with_reducible refine (KI.out _).hb.mono ?_) | (with_reducible refine (KI.out _).hf.mono ?_) | (with_reducible refine (KI.out _).hu.mono ?_) | (with_reducible refine (KI.out _).h2.mono ?_) | (with_reducible refine (KI.out _).h3.mono ?_) | (with_reducible refine (KI.out _).h4.mono ?_) | (with_reducible refine (KI.out _).h5.mono ?_) | (with_reducible refine (KI.out _).h6.mono ?_)); rintro e w1 ⟨rfl, rfl⟩)
          refine (KQ.out _ (by rfl)).mono ?_
          rintro e w1 ⟨rfl, rfl⟩
          go_wp2_with fail
          refine (KN.out _).mono ?_
          rintro e w1 ⟨rfl, rfl⟩
          have hq := hb.size
          obtain ⟨w2, hw2, hz2', ho2, hb2⟩ := boxed ho hb (⟨#[]⟩ : ByteArray)
          rw [← hw2]
          clear hw2 ho hb hq KI KQ KN
          obtain ⟨i0, hi, hz0, hz1', hz2''⟩ := info_parts infoT
          go_wp2_with (at_builtin; refine wpList_append_own _ rfl (.tmp 64) (.tmp 69) 46 rfl W.heap.size 66 i0 (.agg #[.int .i64 0, .string ⟨#[]⟩, .int .i64 0]) 3 32 Try.underlying46 hi hz0 hz1' hz2'' rfl (by decide) _ _ _ rfl (ho2.alloc _) ⟨w2.heap.size, 0, none⟩ 1 1 [.int .i64 5, .string tt, .int .i64 p] rfl rfl ?c1r5 ?c2r5 ?c3r5 ?c4r5 ?c5r5 ?_)
          case c1r5 =>
            intro j u hj
            rw [Go.WideShapes.add_plain, Nat.zero_add, cell_of_row _ _ _ _ _ _ (heap_alloc_new w2 _), ← hj, ← Array.getElem?_toList]
          case c2r5 => intro u hu; simp at hu; rcases hu with rfl | rfl | rfl <;> rfl
          case c3r5 => unfold maxLen; omega
          case c4r5 => omega
          case c5r5 => simp; omega
          intro v' w3 hown' hgrow hnn'
          have hb' : Below W.heap.size W w3 := (hb2.alloc hz2' _).grown hgrow (by simp; omega) (fun k hk => (ho2.lt k hk).1)
          have hown2 := Lib.hid hown'
          clear hgrow ho2 hb2 hnn' hown'
          go_wp2_with fail
          refine ⟨⟨p + tt.size, k + 1, by go_num, by omega, by omega, HD.out, by rw [← HX.out]; exact hown2.out, hb'⟩, by simp [intOf]; omega⟩
        · clear HN
          have KQ := Lib.hid (fun m hm => KP.out wr.heap.size m hm (wr.alloc (.cells #[.string m] 9)) (by
            rw [cell_of_row _ _ _ _ _ _ (heap_alloc_new wr (.cells #[.string m] 9))]; rfl))
          clear KP
          go_wp2_with (go_at_call 38; (first | (with_reducible refine (KI.out _).hb.mono ?_) | (with_reducible refine (KI.out _).hf.mono ?_) | (with_reducible refine (KI.out _).hu.mono ?_) | (with_reducible refine (KI.out _).h2.mono ?_) | (with_reducible refine (KI.out _).h3.mono ?_) | (with_reducible refine (KI.out _).h4.mono ?_) | (with_reducible refine (KI.out _).h5.mono ?_) | (with_reducible refine (KI.out _).h6.mono ?_)); rintro e w1 ⟨rfl, rfl⟩)
          refine (KQ.out _ (by rfl)).mono ?_
          rintro e w1 ⟨rfl, rfl⟩
          go_wp2_with fail
          refine (KN.out _).mono ?_
          rintro e w1 ⟨rfl, rfl⟩
          have hq := hb.size
          obtain ⟨w2, hw2, hz2', ho2, hb2⟩ := boxed ho hb (⟨#[]⟩ : ByteArray)
          rw [← hw2]
          clear hw2 ho hb hq KI KQ KN
          obtain ⟨i0, hi, hz0, hz1', hz2''⟩ := info_parts infoT
          go_wp2_with (at_builtin; refine wpList_append_own _ rfl (.tmp 64) (.tmp 69) 46 rfl W.heap.size 66 i0 (.agg #[.int .i64 0, .string ⟨#[]⟩, .int .i64 0]) 3 32 Try.underlying46 hi hz0 hz1' hz2'' rfl (by decide) _ _ _ rfl (ho2.alloc _) ⟨w2.heap.size, 0, none⟩ 1 1 [.int .i64 6, .string tt, .int .i64 p] rfl rfl ?c1r6 ?c2r6 ?c3r6 ?c4r6 ?c5r6 ?_)
          case c1r6 =>
            intro j u hj
            rw [Go.WideShapes.add_plain, Nat.zero_add, cell_of_row _ _ _ _ _ _ (heap_alloc_new w2 _), ← hj, ← Array.getElem?_toList]
          case c2r6 => intro u hu; simp at hu; rcases hu with rfl | rfl | rfl <;> rfl
          case c3r6 => unfold maxLen; omega
          case c4r6 => omega
          case c5r6 => simp; omega
          intro v' w3 hown' hgrow hnn'
          have hb' : Below W.heap.size W w3 := (hb2.alloc hz2' _).grown hgrow (by simp; omega) (fun k hk => (ho2.lt k hk).1)
          have hown2 := Lib.hid hown'
          clear hgrow ho2 hb2 hnn' hown'
          go_wp2_with fail
          refine ⟨⟨p + tt.size, k + 1, by go_num, by omega, by omega, HD.out, by rw [← HX.out]; exact hown2.out, hb'⟩, by simp [intOf]; omega⟩
      · obtain ⟨vs, he'⟩ : ∃ vs, vs = e := ⟨_, rfl⟩
        clear he' vs
        subst he
        have KI : Hid (∀ w, Isks s[p] false false false false false false false false w) := Lib.hid (by
          intro w
          rcases hn with ⟨e, e2, e3, e4, e5, e6, eu, ef⟩ | ⟨e, e2, e3, e4, e5, e6, eu, ef⟩ | ⟨e, e2, e3, e4, e5, e6, eu, ef⟩ | ⟨e, e2, e3, e4, e5, e6, eu, ef⟩ | ⟨e, e2, e3, e4, e5, e6, eu, ef⟩ | ⟨e, e2, e3, e4, e5, e6, eu, ef⟩ | ⟨e, e2, e3, e4, e5, e6, eu, ef⟩ | ⟨e, e2, e3, e4, e5, e6, eu, ef⟩ | ⟨e, e2, e3, e4, e5, e6, eu, ef⟩
          · refine isks_is s[p] ?_ ef eu e2 e3 e4 e5 e6 w
            exact beq_false_of_ne (fun h => by rw [h] at hc; exact absurd hc (by decide))
          all_goals omega)
        clear hn hd hR hc hts
        go_wp2_with (go_at_call 38; (first | (with_reducible refine (KI.out _).hb.mono ?_) | (with_reducible refine (KI.out _).hf.mono ?_) | (with_reducible refine (KI.out _).hu.mono ?_) | (with_reducible refine (KI.out _).h2.mono ?_) | (with_reducible refine (KI.out _).h3.mono ?_) | (with_reducible refine (KI.out _).h4.mono ?_) | (with_reducible refine (KI.out _).h5.mono ?_) | (with_reducible refine (KI.out _).h6.mono ?_)); rintro e w1 ⟨rfl, rfl⟩)
        go_ret3
        exact LexEnd.bad (hb.alloc hb.size _)
      · subst he
        have hlen : s.size - p = t.length + 1 + r.length := by
          have := congrArg List.length hd
          rw [List.length_drop, List.length_cons, hl, List.length_append] at this
          simp at this
          omega
        have hsub : (s.extract p s.size).data.toList = s[p] :: t ++ r := by
          rw [extract_list, hd, hl, List.take_of_length_le (by simp; omega)]; rfl
        have hsz : (s.extract p s.size).size ≤ 9223372036854775807 := by
          have : (s.extract p s.size).data.toList.length = (s.extract p s.size).size := by simp
          rw [← this, hsub]; simp; omega
        have eb : (s[p] == 32) = false := beq_false_of_ne (fun h => by rw [h] at hc; exact absurd hc (by decide))
        have KN := fun w => Number_is (s[p] :: t) (by simp; omega) w
        rw [hnn] at KN
        replace KN := Lib.hid KN
        have KP := Lib.hid (fun (B : Nat) (m : ByteArray) (hm : m.data.toList = moreL 1) (w : World) (hc : w.cell? ⟨B, 0, none⟩ = some (.string m)) => part_is B 1 m (s.extract p s.size) s[p] t r hm hsub ht hst hsz w hc)
        rw [show (⟨(s[p] :: t).toArray⟩ : ByteArray) = tx (s[p] :: t) from rfl] at KP
        clear hd hR hl ht hst hnn hts hlen hsub hsz
        generalize tx (s[p] :: t) = tt at *
        generalize numT (s[p] :: t) = nt at *
        rcases hn with ⟨ec, e2, e3, e4, e5, e6, eu, ef⟩ | ⟨ec, e2, e3, e4, e5, e6, eu, ef⟩ | ⟨ec, e2, e3, e4, e5, e6, eu, ef⟩ | ⟨ec, e2, e3, e4, e5, e6, eu, ef⟩ | ⟨ec, e2, e3, e4, e5, e6, eu, ef⟩ | ⟨ec, e2, e3, e4, e5, e6, eu, ef⟩ | ⟨ec, e2, e3, e4, e5, e6, eu, ef⟩ | ⟨ec, e2, e3, e4, e5, e6, eu, ef⟩ | ⟨ec, e2, e3, e4, e5, e6, eu, ef⟩
        all_goals try omega
        all_goals
          have KI := Lib.hid (fun w => isks_is s[p] eb ef eu e2 e3 e4 e5 e6 w)
          clear hc ec e2 e3 e4 e5 e6 eu ef eb
          have KQ := Lib.hid (fun m hm => KP.out wr.heap.size m hm (wr.alloc (.cells #[.string m] 9)) (by
            rw [cell_of_row _ _ _ _ _ _ (heap_alloc_new wr (.cells #[.string m] 9))]; rfl))
          clear KP
          go_wp2_with (go_at_call 38; (first | (with_reducible refine (KI.out _).hb.mono ?_) | (with_reducible refine (KI.out _).hf.mono ?_) | (with_reducible refine (KI.out _).hu.mono ?_) | (with_reducible refine (KI.out _).h2.mono ?_) | (with_reducible refine (KI.out _).h3.mono ?_) | (with_reducible refine (KI.out _).h4.mono ?_) | (with_reducible refine (KI.out _).h5.mono ?_) | (with_reducible refine (KI.out _).h6.mono ?_)); rintro e w1 ⟨rfl, rfl⟩)
          refine (KQ.out _ (by rfl)).mono ?_
          rintro e w1 ⟨rfl, rfl⟩
          go_wp2_with fail
          refine (KN.out _).mono ?_
          rintro e w1 ⟨rfl, rfl⟩
          go_wp2_with fail
          go_ret3
          exact LexEnd.bad (hb.alloc hb.size _)
    · have hd := drop_end s p (by omega)
      rw [hd] at hR
      obtain ⟨hts, he⟩ := hR.inv_nil
      subst he
      have hke : k = ts.length := by
        have := congrArg List.length hts
        rw [List.length_drop] at this
        simp at this
        omega
      have e2 : ¬ (p : Int) < (s.size : Int) := by omega
      obtain ⟨a, c, rfl, hcap, hq⟩ := owns_qs ho
      subst hke
      clear hd hR hts ho
      go_wp2_with fail
      go_ret3
      exact LexEnd.ok hcap hq hb
end Go.Proofs.Ytljkmdmbndjngaa
/-
  Lex, of the reference: at every line.
-/
namespace Go.Proofs.Ytljkmdmbndjngaa
set_option linter.unusedVariables false
set_option linter.unusedSimpArgs false
open Go.RowKit

theorem extract_eq (s : ByteArray) (i j : Nat) (l : List UInt8) (h : (s.data.toList.drop i).take (j - i) = l) : s.extract i j = tx l := bytes_ext (by rw [extract_list, h]; rfl)
end Go.Proofs.Ytljkmdmbndjngaa
/-
  A text as one part of a kind, as a verb, as an adverb; texts as numbers: of the program, and of the reference.
-/
namespace Go.Proofs.Ytljkmdmbndjngaa
set_option linter.unusedVariables false
set_option linter.unusedSimpArgs false
open Go.RowKit

noncomputable def lxT (s : ByteArray) : List Tk := Classical.choose (Run.any numB s.data.toList 0)
theorem lxT_ex (s : ByteArray) : ∃ e, Run numB s.data.toList 0 (lxT s) e := Classical.choose_spec (Run.any numB s.data.toList 0)
noncomputable def lxE (s : ByteArray) : Option Nat := Classical.choose (lxT_ex s)
theorem lx_run (s : ByteArray) : Run numB s.data.toList 0 (lxT s) (lxE s) := Classical.choose_spec (lxT_ex s)
/-- Is a text one part, of some kind? -/
noncomputable def prt (s : ByteArray) (k : Int) : Bool :=
  if s.size ≤ 256 then
    match lxE s with
    | some _ => false
    | none => match lxT s with
      | [t] => decide ((t.kind : Int) = k) && ((tx t.text).toList == s.toList)
      | _ => false
  else false
/-- The two sides of part, by what Lex tells. -/
theorem part_by {f : FuncId} {s : ByteArray} {k : Int} {W : World}
    (h0 : 256 < s.size → Calls Try.prog f #[.string s, .int .i64 k] W (ValEnd (.bool false) W))
    (h1 : ∀ q, s.size ≤ 256 → lxE s = some q → Calls Try.prog f #[.string s, .int .i64 k] W (ValEnd (.bool false) W))
    (h2 : s.size ≤ 256 → lxE s = none → (lxT s).length ≠ 1 → Calls Try.prog f #[.string s, .int .i64 k] W (ValEnd (.bool false) W))
    (h3 : ∀ t, s.size ≤ 256 → lxE s = none → lxT s = [t] → Calls Try.prog f #[.string s, .int .i64 k] W (ValEnd (.bool (decide ((t.kind : Int) = k) && ((tx t.text).toList == s.toList))) W)) :
    Calls Try.prog f #[.string s, .int .i64 k] W (ValEnd (.bool (prt s k)) W) := by
  unfold prt
  by_cases hs : s.size ≤ 256
  · rw [if_pos hs]
    cases he : lxE s with
    | some q => exact h1 q hs he
    | none =>
      show Calls _ _ _ _ (ValEnd (.bool (match lxT s with | [t] => _ | _ => false)) W)
      split
      · rename_i t ht
        exact h3 t hs he ht
      · rename_i ht
        refine h2 hs he fun hl => ?_
        obtain ⟨t, ht2⟩ := List.length_eq_one_iff.1 hl
        exact ht t ht2
  · rw [if_neg hs]
    exact h0 (by omega)
set_option maxHeartbeats 1600000 in
theorem isPart_is (s : ByteArray) (k : Int) (hs : s.size ≤ 9223372036854775807) (W : World) : Calls Try.prog 35 #[.string s, .int .i64 k] W (ValEnd (.bool (prt s k)) W) := by
  refine part_by (fun h => ?_) (fun q h he => ?_) (fun h he hl => ?_) (fun t h he ht => ?_)
  · have K := Lib.hid (big_is s h hs W)
    go_enter Try.func35, Try.ntmps35
    go_wp2_with fail
    refine K.out.mono ?_
    rintro e w1 ⟨rfl, hb⟩
    go_wp2_with fail
    go_ret
    exact ⟨rfl, hb⟩
  · have K := lex_is s h _ _ (lx_run s) W
    rw [he] at K
    replace K := Lib.hid K
    clear he
    go_enter Try.func35, Try.ntmps35
    go_wp2_with fail
    refine K.out.mono ?_
    rintro e w1 ⟨rfl, hb⟩
    go_wp2_with fail
    go_ret
    exact ⟨rfl, hb⟩
  · have K := lex_is s h _ _ (lx_run s) W
    rw [he] at K
    have hl2 : ((lxT s).length : Int) ≠ 1 := by omega
    have hl3 := (lx_run s).span.2
    simp at hl3
    generalize lxT s = ts at *
    replace K := Lib.hid K
    clear he hl
    go_enter Try.func35, Try.ntmps35
    go_wp2_with fail
    refine K.out.mono ?_
    rintro e w1 ⟨a, c, rfl, _, _, hb⟩
    go_wp2_with fail
    go_ret
    exact ⟨rfl, hb⟩
  · have K := lex_is s h _ _ (lx_run s) W
    rw [he, ht] at K
    replace K := Lib.hid K
    obtain ⟨u, hu⟩ : ∃ u, u = tx t.text := ⟨_, rfl⟩
    rw [← hu]
    have HU := Lib.hid hu
    clear he ht hu
    go_enter Try.func35, Try.ntmps35
    go_wp2_with fail
    refine K.out.mono ?_
    rintro e w1 ⟨a, c, rfl, _, hq, hb⟩
    obtain ⟨b, off, rfl, hc⟩ := hq (by simp)
    obtain ⟨c0, c1, c2⟩ := hc 0 (by simp)
    rw [show rtk [t] 0 = ⟨t.kind, tx t.text, t.at_⟩ from rfl, ← HU.out] at c0 c1
    simp only [Nat.zero_mul, Nat.add_zero] at c0 c1
    have el : [t].length = 1 := rfl
    rw [el]
    clear hq hc c2 el K
    go_wp2_with fail
    all_goals
      go_ret
      exact ⟨by simp_all, hb⟩
end Go.Proofs.Ytljkmdmbndjngaa
/-
  Adverbs, verbs, numbers of a node, and whether two nodes are the same: of the program, and of the reference.
-/
namespace Go.Proofs.Ytljkmdmbndjngaa
set_option linter.unusedVariables false
set_option linter.unusedSimpArgs false
open Go.RowKit

/-- A text that is empty, or one of some bytes. -/
def advB (s : ByteArray) (l : List UInt8) : Bool := s.data.toList.isEmpty || l.any fun c => s.data.toList == [c]
theorem adv_one (c : UInt8) (l : List UInt8) : advB ⟨#[c]⟩ l = l.contains c := by
  show (false || l.any fun d => [c] == [d]) = _
  rw [Bool.false_or]
  induction l with
  | nil => rfl
  | cons d l ih =>
    rw [List.any_cons, ih, List.contains_cons, show ([c] == [d]) = (c == d) by simp]
theorem adv_long {s : ByteArray} {c d : UInt8} {r : List UInt8} (h : s.data.toList = c :: d :: r) (l : List UInt8) : advB s l = false := by
  unfold advB
  rw [h]
  show (false || l.any fun x => c :: d :: r == [x]) = false
  rw [Bool.false_or]
  induction l with
  | nil => rfl
  | cons x l ih =>
    rw [List.any_cons, ih, show (c :: d :: r == [x]) = false by simp]; rfl
set_option maxHeartbeats 1600000 in
theorem isAdv_is (s m : ByteArray) (hz : s.size ≤ 9223372036854775807) (w : World) : Calls Try.prog 37 #[.string s, .string m] w (ValEnd (.bool (advB s m.data.toList)) w) := by
  rcases hl : s.data.toList with _ | ⟨c, _ | ⟨d, r⟩⟩
  · have e1 : s.toList.isEmpty = true := by rw [str_tl, hl]; rfl
    rw [show advB s m.data.toList = true by unfold advB; rw [hl]; rfl]
    clear hl
    go_enter Try.func37, Try.ntmps37
    go_wp2_with fail
    go_ret
    exact ⟨rfl, Below.refl _ _⟩
  · obtain rfl : s = ⟨#[c]⟩ := bytes_ext hl
    have K := Try.strings_Contains_one m c w
    rw [show decide (0 ≤ Lib.indexByte m.data.toList c) = advB ⟨#[c]⟩ m.data.toList by
      refine Bool.eq_iff_iff.2 ?_
      rw [decide_eq_true_iff, indexByte_nn, adv_one]] at K
    generalize advB ⟨#[c]⟩ m.data.toList = v at *
    replace K := Lib.hid K
    clear hl
    cases v
    all_goals
      go_enter Try.func37, Try.ntmps37
      go_wp2_with fail
      refine K.out.mono ?_
      rintro e w1 ⟨rfl, rfl⟩
      go_wp2_with fail
      go_ret
      exact ⟨rfl, Below.refl _ _⟩
  · have hs : s.data.toList.length = s.size := by simp
    have e1 : s.toList.isEmpty = false := by rw [str_tl, hl]; rfl
    have e2 : ¬ (s.size : Int) = 1 := by rw [← hs, hl]; simp; omega
    rw [adv_long hl]
    clear hl hs
    go_enter Try.func37, Try.ntmps37
    go_wp2_with fail
    go_ret
    exact ⟨rfl, Below.refl _ _⟩
noncomputable def verbB (v : ByteArray) : Bool := v.toList == [123] || (prt v 4 || prt v 3)
set_option maxHeartbeats 1600000 in
theorem isVerb_is (s : ByteArray) (hs : s.size ≤ 9223372036854775807) (W : World) : Calls Try.prog 36 #[.string s] W (ValEnd (.bool (verbB s)) W) := by
  unfold verbB
  by_cases h1 : (s.toList == [123]) = true
  · rw [h1]
    go_enter Try.func36, Try.ntmps36
    go_wp2_with fail
    go_ret
    exact ⟨rfl, Below.refl _ _⟩
  · have h2 : (s.toList == [123]) = false := by simpa using h1
    have K4 := fun w => isPart_is s 4 hs w
    have K3 := fun w => isPart_is s 3 hs w
    rw [h2]
    generalize prt s 4 = p4 at *
    generalize prt s 3 = p3 at *
    replace K4 := Lib.hid K4
    replace K3 := Lib.hid K3
    clear h1
    cases p4
    · cases p3
      all_goals
        go_enter Try.func36, Try.ntmps36
        go_wp2_with fail
        refine (K4.out _).mono ?_
        rintro e w1 ⟨rfl, hb⟩
        go_wp2_with fail
        refine (K3.out _).mono ?_
        rintro e w2 ⟨rfl, hb1⟩
        replace hb := hb.trans (hb1.mono hb.size)
        go_wp2_with fail
        go_ret
        exact ⟨rfl, hb⟩
    · go_enter Try.func36, Try.ntmps36
      go_wp2_with fail
      refine (K4.out _).mono ?_
      rintro e w1 ⟨rfl, hb⟩
      go_wp2_with fail
      go_ret
      exact ⟨rfl, hb⟩
/-- Two slices of strings: whether they are the same. -/
theorem EqualS_is (a1 a2 : Option Addr) (n c m d : Nat) (l k : List ByteArray) (W : World) (h1 : St W a1 n l) (h2 : St W a2 m k) (hn : n ≤ 9223372036854775807) (hm : m ≤ 9223372036854775807) :
    Calls Try.prog 44 #[.slice a1 n c, .slice a2 m d] W (ValEnd (.bool (decide (l = k))) W) := by
  by_cases hnm : n = m
  · subst hnm
    by_cases h0 : n = 0
    · subst h0
      have e1 := List.length_eq_zero_iff.1 h1.1
      have e2 := List.length_eq_zero_iff.1 h2.1
      subst e1 e2
      refine (Try.slices_Equal_string_empty a1 a2 c 0 d W (by decide)).mono ?_
      rintro x w ⟨rfl, rfl⟩
      exact ⟨rfl, Below.refl _ _⟩
    · obtain ⟨b1, o1, rfl, hc1⟩ := h1.2 (by omega)
      obtain ⟨b2, o2, rfl, hc2⟩ := h2.2 (by omega)
      refine (Try.slices_Equal_string b1 o1 n c b2 o2 n d l k W (by rw [h1.1]; exact Nat.le_refl _) (by rw [h2.1]; exact Nat.le_refl _) hn hm (fun j hj => hc1 j (by rw [← h1.1]; exact hj)) (fun j hj => hc2 j (by rw [← h2.1]; exact hj))).mono ?_
      rintro x w ⟨rfl, q, rfl⟩
      refine ⟨?_, ⟨rfl, rfl, rfl, Nat.le_refl _, fun _ _ => rfl⟩⟩
      rw [List.take_of_length_le (by rw [h1.1]; exact Nat.le_refl _), List.take_of_length_le (by rw [h2.1]; exact Nat.le_refl _)]
  · refine (Try.slices_Equal_string_lens a1 a2 n c m d W hnm).mono ?_
    rintro x w ⟨rfl, rfl⟩
    refine ⟨?_, Below.refl _ _⟩
    have : decide (l = k) = false := decide_eq_false (by rintro rfl; exact hnm (h1.1.symm.trans h2.1))
    rw [this]
/-- Two nodes: whether they are the same. -/
def smN (d e : Nd) : Bool := decide (d.k = e.k) && (decide (d.v.toList = e.v.toList) && (decide (d.a.toList = e.a.toList) && (decide (d.x.toList = e.x.toList) && decide (d.ns = e.ns))))
theorem maxLen_le {n : Nat} (h : n ≤ maxLen) : n ≤ 9223372036854775807 := h
set_option maxHeartbeats 3200000 in
theorem same_is (d e : Nd) (W : World) (hd : d.on W) (he : e.on W) : Calls Try.prog 23 #[d.val, e.val] W (ValEnd (.bool (smN d e)) W) := by
  obtain ⟨dk, dv, da, dx, dg, dm, dc, dn⟩ := d
  obtain ⟨ek, ev, ea, ex, eg, em', ec, en⟩ := e
  have hb0 := (box_below W (.cells #[.int .i64 dk, .string dv, .string da, .string dx, .slice dg dm dc] 36)).alloc (by simp) (.cells #[.int .i64 ek, .string ev, .string ea, .string ex, .slice eg em' ec] 36)
  have KE := fun w (hw : Below W.heap.size W w) => EqualS_is dg eg dm dc em' ec dn en w (hd.st.below hw) (he.st.below hw) (maxLen_le (Nat.le_trans hd.mc hd.cm)) (maxLen_le (Nat.le_trans he.mc he.cm))
  have hA := (Bd.new W dk dv da dx dg dm dc).alloc (.cells #[.int .i64 ek, .string ev, .string ea, .string ex, .slice eg em' ec] 36)
  have hB := Bd.new (W.alloc (.cells #[.int .i64 dk, .string dv, .string da, .string dx, .slice dg dm dc] 36)) ek ev ea ex eg em' ec
  rw [show (W.alloc (.cells #[.int .i64 dk, .string dv, .string da, .string dx, .slice dg dm dc] 36)).heap.size = W.heap.size + 1 by simp] at hB
  have a0 := hA.c0
  have a1 := hA.c1
  have a2 := hA.c2
  have a3 := hA.c3
  have a4 := hA.c4
  have b0 := hB.c0
  have b1 := hB.c1
  have b2 := hB.c2
  have b3 := hB.c3
  have b4 := hB.c4
  show Calls _ _ #[.agg #[.int .i64 dk, .string dv, .string da, .string dx, .slice dg dm dc], .agg #[.int .i64 ek, .string ev, .string ea, .string ex, .slice eg em' ec]] W (ValEnd (.bool (decide (dk = ek) && (decide (dv.toList = ev.toList) && (decide (da.toList = ea.toList) && (decide (dx.toList = ex.toList) && decide (dn = en)))))) W)
  clear hd he hA hB
  have HB := Lib.hid hb0
  replace KE := Lib.hid (KE _ hb0)
  clear hb0
  by_cases h1 : dk = ek
  · subst h1
    have h1 : decide (dk = dk) = true := decide_eq_true rfl
    by_cases h2 : dv.toList = ev.toList
    · by_cases h3 : da.toList = ea.toList
      · by_cases h4 : dx.toList = ex.toList
        · rw [h1, decide_eq_true h2, decide_eq_true h3, decide_eq_true h4, Bool.true_and, Bool.true_and, Bool.true_and, Bool.true_and]
          generalize decide (dn = en) = r at *
          cases r
          all_goals
            go_enter Try.func23, Try.ntmps23
            go_wp2_with fail
            refine KE.out.mono ?_
            rintro e w1 ⟨rfl, hb⟩
            clear a0 a1 a2 a3 a4 b0 b1 b2 b3 b4
            go_wp2_with fail
            go_ret
            exact ⟨rfl, HB.out.trans (hb.mono HB.out.size)⟩
        · rw [h1, decide_eq_true h2, decide_eq_true h3, decide_eq_false h4]
          go_enter Try.func23, Try.ntmps23
          go_wp2_with fail
          go_ret
          exact ⟨rfl, HB.out⟩
      · rw [h1, decide_eq_true h2, decide_eq_false h3]
        go_enter Try.func23, Try.ntmps23
        go_wp2_with fail
        go_ret
        exact ⟨rfl, HB.out⟩
    · rw [h1, decide_eq_false h2]
      go_enter Try.func23, Try.ntmps23
      go_wp2_with fail
      go_ret
      exact ⟨rfl, HB.out⟩
  · rw [decide_eq_false h1]
    go_enter Try.func23, Try.ntmps23
    go_wp2_with fail
    go_ret
    exact ⟨rfl, HB.out⟩
end Go.Proofs.Ytljkmdmbndjngaa
/-
  Whether texts are a Lit's numbers; whether a node may be: plainly, and of the program, kind by kind.
-/
namespace Go.Proofs.Ytljkmdmbndjngaa
set_option linter.unusedVariables false
set_option linter.unusedSimpArgs false
open Go.RowKit

def alN (l : List ByteArray) : Bool := l.all fun s => mayL s.data.toList
def numsB (l : List ByteArray) : Bool := decide (1 ≤ l.length) && (decide (l.length ≤ 100) && alN l)
theorem drop_getD {l : List ByteArray} {j : Nat} (h : j < l.length) : l.drop j = l.getD j ByteArray.empty :: l.drop (j + 1) := by
  rw [List.drop_eq_getElem_cons h]
  simp [List.getD_eq_getElem?_getD, List.getElem?_eq_getElem h]
theorem getD_mem {l : List ByteArray} {j : Nat} (h : j < l.length) : l.getD j ByteArray.empty ∈ l := by
  simp [List.getD_eq_getElem?_getD, List.getElem?_eq_getElem h]
theorem notMay_is (s : ByteArray) (hs : s.size ≤ maxLen) (w : World) : Calls Try.prog 50 #[.string s] w (BoolEnd (!mayL s.data.toList) w) := by
  have K := may_any s w hs
  generalize mayL s.data.toList = v at *
  replace K := Lib.hid K
  cases v
  all_goals
    go_enter Try.func50, Try.ntmps50
    go_wp2_with fail
    refine K.out.mono ?_
    rintro e w1 ⟨rfl, rfl⟩
    go_wp2_with fail
    go_ret
    exact ⟨rfl, rfl⟩
def IxEnd (v : Bool) (w : World) (e : Ending) (w' : World) : Prop := ∃ r : Int, e = .returned (.int .i64 r) ∧ decide (0 ≤ r) = v ∧ w = w'
set_option maxHeartbeats 1600000 in
theorem Index_is (a : Option Addr) (n c : Nat) (l : List ByteArray) (w : World) (h : St w a n l) (hn : n ≤ 1000000) (hz : ∀ s ∈ l, s.size ≤ maxLen) :
    Calls Try.prog 62 #[.slice a n c, .func (.func 50) #[] #[]] w (IxEnd (!alN l) w) := by
  obtain ⟨v, hv⟩ : ∃ v, v = !alN l := ⟨_, rfl⟩
  rw [← hv]
  have HV := Lib.hid hv
  have H := Lib.hid h
  have HZ := Lib.hid hz
  have hl := h.1
  clear hv h hz
  go_enter Try.func62, Try.ntmps62
  go_wp2_with fail
  go_loop [8] (fun i => ∃ j : Nat, i = .int .i64 j ∧ j ≤ n ∧ alN l = alN (l.drop j)) (fun i => n - (intOf i).toNat)
  case atStart => exact ⟨0, rfl, Nat.zero_le _, rfl⟩
  case round =>
    obtain ⟨j, rfl, hj, hI⟩ := hrel
    have HI := Lib.hid hI
    clear hI
    by_cases h1 : j < n
    · have e2 : (j : Int) < (n : Int) := by omega
      obtain ⟨b, off, rfl, hc⟩ := H.out.2 (by omega)
      have cj := hc j h1
      have hd := drop_getD (l := l) (j := j) (by omega)
      have K := notMay_is (l.getD j ByteArray.empty) (HZ.out _ (getD_mem (by omega))) w
      obtain ⟨s, hs⟩ : ∃ s, s = l.getD j ByteArray.empty := ⟨_, rfl⟩
      rw [← hs] at cj hd K
      cases hm : mayL s.data.toList with
      | true =>
        rw [hm] at K
        replace K := Lib.hid K
        have HN := Lib.hid (show alN l = alN (l.drop (j + 1)) by rw [HI.out, hd]; unfold alN; rw [List.all_cons, hm, Bool.true_and])
        clear hd hm hc hs
        go_wp2_with fail
        refine K.out.mono ?_
        rintro e w1 ⟨rfl, rfl⟩
        go_wp2_with fail
        go_round
        case rel => exact ⟨j + 1, by go_num, by omega, HN.out⟩
        case measure => simp [intOf]; omega
      | false =>
        rw [hm] at K
        replace K := Lib.hid K
        have HN := Lib.hid (show v = true by rw [HV.out, HI.out, hd]; unfold alN; rw [List.all_cons, hm]; rfl)
        clear hd hm hc hs
        go_wp2_with fail
        refine K.out.mono ?_
        rintro e w1 ⟨rfl, rfl⟩
        go_wp2_with fail
        go_ret
        exact ⟨j, rfl, by rw [HN.out]; exact decide_eq_true (by omega), rfl⟩
    · have e2 : ¬ (j : Int) < (n : Int) := by omega
      have HN := Lib.hid (show v = false by rw [HV.out, HI.out, List.drop_eq_nil_of_le (by omega)]; rfl)
      go_wp2_with fail
      go_ret
      exact ⟨-1, rfl, by rw [HN.out]; rfl, rfl⟩
theorem Contains_is (a : Option Addr) (n c : Nat) (l : List ByteArray) (w : World) (h : St w a n l) (hn : n ≤ 1000000) (hz : ∀ s ∈ l, s.size ≤ maxLen) :
    Calls Try.prog 49 #[.slice a n c, .func (.func 50) #[] #[]] w (BoolEnd (!alN l) w) := by
  have K := Lib.hid (Index_is a n c l w h hn hz)
  generalize (!alN l) = v at *
  cases v
  all_goals
    go_enter Try.func49, Try.ntmps49
    go_wp2_with fail
    refine K.out.mono ?_
    rintro e w1 ⟨r, rfl, hr, rfl⟩
    have HR := Lib.hid hr
    clear hr
    go_wp2_with fail
    go_ret
    exact ⟨by rw [← HR.out]; rfl, rfl⟩
set_option maxHeartbeats 1600000 in
theorem areNumbers_is (a : Option Addr) (n c : Nat) (l : List ByteArray) (w : World) (h : St w a n l) (hn : n ≤ maxLen) (hz : ∀ s ∈ l, s.size ≤ maxLen) :
    Calls Try.prog 34 #[.slice a n c] w (ValEnd (.bool (numsB l)) w) := by
  have hn2 := maxLen_le hn
  unfold numsB
  rw [h.1]
  by_cases h1 : n < 1
  · have e1 : (n : Int) < 1 := by omega
    rw [decide_eq_false (by omega)]
    go_enter Try.func34, Try.ntmps34
    go_wp2_with fail
    go_ret
    exact ⟨rfl, Below.refl _ _⟩
  rw [decide_eq_true (show 1 ≤ n by omega)]
  by_cases h2 : 100 < n
  · have e1 : ¬ (n : Int) < 1 := by omega
    have e2 : (100 : Int) < (n : Int) := by omega
    rw [decide_eq_false (by omega)]
    go_enter Try.func34, Try.ntmps34
    go_wp2_with fail
    go_ret
    exact ⟨rfl, Below.refl _ _⟩
  rw [decide_eq_true (show n ≤ 100 by omega), Bool.true_and, Bool.true_and]
  have e1 : ¬ (n : Int) < 1 := by omega
  have e2 : ¬ (100 : Int) < (n : Int) := by omega
  have K := Contains_is a n c l w h (by omega) hz
  generalize alN l = v at *
  replace K := Lib.hid K
  cases v
  all_goals
    go_enter Try.func34, Try.ntmps34
    go_wp2_with fail
    refine K.out.mono ?_
    rintro e w1 ⟨rfl, rfl⟩
    go_wp2_with fail
    go_ret
    exact ⟨rfl, Below.refl _ _⟩
end Go.Proofs.Ytljkmdmbndjngaa

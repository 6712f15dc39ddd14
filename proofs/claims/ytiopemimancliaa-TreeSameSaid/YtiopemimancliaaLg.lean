/-
  Lex, of the program: at every line.
-/
import Derived.Test.YtiopemimancliaaLf
import Derived.RegionTactic
import Derived.Deep.DeepCutAuto
namespace Go.Proofs.Ytiopemimancliaa
open Go.RowKit

theorem Run.inv {N : List UInt8 → Bool} {c : UInt8} {l : List UInt8} {p : Nat} {ts : List Tk} {e : Option Nat} (h : Run N (c :: l) p ts e) :
    (cls c = 7 ∧ Run N l (p + 1) ts e)
    ∨ (∃ t r us, 1 ≤ cls c ∧ cls c ≤ 6 ∧ l = t ++ r ∧ (∀ x ∈ t, (moreL (cls c)).contains x = true) ∧ Stop (cls c) r ∧ (cls c = 1 → N (c :: t) = true) ∧ ts = ⟨cls c, c :: t, p⟩ :: us ∧ Run N r (p + (t.length + 1)) us e)
    ∨ (cls c = 0 ∧ ts = [] ∧ e = some p)
    ∨ (cls c = 1 ∧ ∃ t r, l = t ++ r ∧ (∀ x ∈ t, (moreL 1).contains x = true) ∧ Stop 1 r ∧ N (c :: t) = false ∧ ts = [] ∧ e = some p) := by
  generalize hm : c :: l = m at h
  cases h with
  | nil => cases hm
  | blank h hr =>
    cases hm
    exact .inl ⟨h, hr⟩
  | part h h1 h6 ht hs hn hr =>
    cases hm
    subst h
    exact .inr (.inl ⟨_, _, _, h1, h6, rfl, ht, hs, hn, rfl, hr⟩)
  | bad h =>
    cases hm
    exact .inr (.inr (.inl ⟨h, rfl, rfl⟩))
  | figs h ht hs hn =>
    cases hm
    exact .inr (.inr (.inr ⟨h, _, _, rfl, ht, hs, hn, rfl, rfl⟩))
theorem Run.inv_nil {N : List UInt8 → Bool} {p : Nat} {ts : List Tk} {e : Option Nat} (h : Run N [] p ts e) : ts = [] ∧ e = none := by
  generalize hm : ([] : List UInt8) = m at h
  cases h with
  | nil => exact ⟨rfl, rfl⟩
  | blank h hr => cases hm
  | part h h1 h6 ht hs hn hr => cases hm
  | bad h => cases hm
  | figs h ht hs hn => cases hm
/-- What Lex asks of a byte. -/
structure Isks (x : UInt8) (vb vf vu v2 v3 v4 v5 v6 : Bool) (w : World) : Prop where
  hb : Calls Try.prog 46 #[.string ⟨#[32]⟩, .int .u8 (x.toNat : Int)] w (BoolEnd vb w)
  hf : Calls Try.prog 46 #[.string ⟨#[48, 49, 50, 51, 52, 53, 54, 55, 56, 57]⟩, .int .u8 (x.toNat : Int)] w (BoolEnd vf w)
  hu : Calls Try.prog 46 #[.string ⟨#[95]⟩, .int .u8 (x.toNat : Int)] w (BoolEnd vu w)
  h2 : Calls Try.prog 46 #[.string ⟨#[97, 98, 99, 100, 101, 102, 103, 104, 105, 106, 107, 108, 109, 110, 111, 112, 113, 114, 115, 116, 117, 118, 119, 120, 121, 122]⟩, .int .u8 (x.toNat : Int)] w (BoolEnd v2 w)
  h3 : Calls Try.prog 46 #[.string ⟨#[65, 66, 67, 68, 69, 70, 71, 72, 73, 74, 75, 76, 77, 78, 79, 80, 81, 82, 83, 84, 85, 86, 87, 88, 89, 90]⟩, .int .u8 (x.toNat : Int)] w (BoolEnd v3 w)
  h4 : Calls Try.prog 46 #[.string ⟨#[43, 45, 42, 37, 33, 38, 124, 60, 62, 61, 126, 44, 35, 94, 36, 63, 64]⟩, .int .u8 (x.toNat : Int)] w (BoolEnd v4 w)
  h5 : Calls Try.prog 46 #[.string ⟨#[39, 47, 92, 46, 96]⟩, .int .u8 (x.toNat : Int)] w (BoolEnd v5 w)
  h6 : Calls Try.prog 46 #[.string ⟨#[40, 41, 91, 93, 123, 125, 58]⟩, .int .u8 (x.toNat : Int)] w (BoolEnd v6 w)
theorem isks_is (x : UInt8) {vb vf vu v2 v3 v4 v5 v6 : Bool} (eb : (x == 32) = vb) (ef : figL.contains x = vf) (eu : (x == 95) = vu) (e2 : smL.contains x = v2) (e3 : grL.contains x = v3) (e4 : sgL.contains x = v4) (e5 : adL.contains x = v5) (e6 : mkL.contains x = v6) (w : World) : Isks x vb vf vu v2 v3 v4 v5 v6 w where
  hb := isOf_is ⟨#[32]⟩ x vb (by rw [← eb]; show ([32] : List UInt8).contains x = _; rw [List.contains_cons, List.contains_nil, Bool.or_false]) w
  hf := isOf_is ⟨#[48, 49, 50, 51, 52, 53, 54, 55, 56, 57]⟩ x vf ef w
  hu := isOf_is ⟨#[95]⟩ x vu (by rw [← eu]; show ([95] : List UInt8).contains x = _; rw [List.contains_cons, List.contains_nil, Bool.or_false]) w
  h2 := isOf_is ⟨#[97, 98, 99, 100, 101, 102, 103, 104, 105, 106, 107, 108, 109, 110, 111, 112, 113, 114, 115, 116, 117, 118, 119, 120, 121, 122]⟩ x v2 e2 w
  h3 := isOf_is ⟨#[65, 66, 67, 68, 69, 70, 71, 72, 73, 74, 75, 76, 77, 78, 79, 80, 81, 82, 83, 84, 85, 86, 87, 88, 89, 90]⟩ x v3 e3 w
  h4 := isOf_is ⟨#[43, 45, 42, 37, 33, 38, 124, 60, 62, 61, 126, 44, 35, 94, 36, 63, 64]⟩ x v4 e4 w
  h5 := isOf_is ⟨#[39, 47, 92, 46, 96]⟩ x v5 e5 w
  h6 := isOf_is ⟨#[40, 41, 91, 93, 123, 125, 58]⟩ x v6 e6 w
theorem boxed {w W : World} {v : Value} {k : Nat} {xs : List Value} (ho : w.ownsRow W.heap.size 57 3 v k xs) (hb : Below W.heap.size W w) (m : ByteArray) :
    ∃ w2, w2 = w.alloc (.cells #[.string m] 9) ∧ W.heap.size ≤ w2.heap.size ∧ w2.ownsRow W.heap.size 57 3 v k xs ∧ Below W.heap.size W w2 :=
  ⟨_, rfl, by have := hb.size; simp; omega, ho.alloc _, hb.alloc hb.size _⟩
set_option maxHeartbeats 3200000 in
set_option maxRecDepth 10000 in
theorem lex_is (s : ByteArray) (hs : s.size ≤ 256) (ts : List Tk) (e : Option Nat) (h : Run numB s.data.toList 0 ts e) (W : World) : Calls Try.prog 41 #[.string s] W (LexEnd ts e W) := by
  have h1 : ¬ (256 : Int) < (s.size : Int) := by omega
  have hn256 : ts.length ≤ 256 := by have := h.span.2; simp at this; omega
  have HR := Lib.hid h
  clear h
  go_enter Try.func41, Try.ntmps41
  go_wp2_with fail
  go_step3
  go_wp2_with fail
  go_step3
  go_wp2_with fail
  go_loopw [5, 6] (fun pv iv wr => ∃ p k : Nat, iv = .int .i64 p ∧ p ≤ s.size ∧ k ≤ ts.length ∧ Run numB (s.data.toList.drop p) p (ts.drop k) e ∧ wr.ownsRow W.heap.size 57 3 pv k (rvs (rtk ts) k) ∧ Below W.heap.size W wr) (fun _ iv _ => s.size - (intOf iv).toNat)
  case atStart => exact ⟨0, 0, rfl, by omega, by omega, HR.out, ⟨rfl, .inl ⟨rfl, rfl⟩⟩, Below.refl _ _⟩
  case round =>
    obtain ⟨p, k, rfl, hp, hk, hR, ho, hb⟩ := hrel
    by_cases hlt : p < s.size
    · have hd := drop_at s p hlt
      rw [hd] at hR
      have hn := cls_nine s[p]
      unfold nineOf nine at hn
      simp only [List.mem_cons, List.not_mem_nil, or_false, Prod.mk.injEq] at hn
      rcases hR.inv with ⟨hc, hr⟩ | ⟨t, r, us, hc1, hc6, hl, ht, hst, hnn, hts, hr⟩ | ⟨hc, hts, he⟩ | ⟨hc, t, r, hl, ht, hst, hnn, hts, he⟩
      · have e0 : s[p] = 32 := blank_is _ hc
        have KI := Lib.hid (fun w => isks_is s[p] rfl rfl rfl rfl rfl rfl rfl rfl w)
        have KB := Lib.hid (fun w => (show Calls Try.prog 46 #[.string ⟨#[32]⟩, .int .u8 (s[p].toNat : Int)] w (BoolEnd true w) from isOf_is ⟨#[32]⟩ s[p] true (by rw [e0]; rfl) w))
        have HD := Lib.hid hr
        clear hn hd hR hc hr e0 KI
        go_wp2_with fail
        refine (KB.out _).mono ?_
        rintro e w1 ⟨rfl, rfl⟩
        go_wp2_with fail
        refine ⟨⟨p + 1, k, by go_num, by omega, hk, HD.out, ho.alloc _, hb.alloc hb.size _⟩, by simp [intOf]; omega⟩
      · obtain ⟨hk1, rfl, hk3⟩ := drop_cons hts
        have hf := rtk_at hk1
        have hlen : s.size - p = t.length + 1 + r.length := by
          have := congrArg List.length hd
          rw [List.length_drop, List.length_cons, hl, List.length_append] at this
          simp at this
          omega
        have hsub : (s.extract p s.size).data.toList = s[p] :: t ++ r := by
          rw [extract_list, hd, hl, List.take_of_length_le (by simp; omega)]; rfl
        have hsz : (s.extract p s.size).size ≤ 9223372036854775807 := by
          have : (s.extract p s.size).data.toList.length = (s.extract p s.size).size := by simp
          rw [← this, hsub]; simp; omega
        have hrest : s.data.toList.drop (p + (t.length + 1)) = r := by
          rw [← List.drop_drop, hd, hl]
          exact List.drop_left (l₁ := s[p] :: t)
        have eb : (s[p] == 32) = false := beq_false_of_ne (fun h => by rw [h] at hc6; exact absurd hc6 (by decide))
        have KN := Lib.hid (fun w => Number_is (s[p] :: t) (by simp; omega) w)
        have KP := Lib.hid (fun (B : Nat) (m : ByteArray) (hm : m.data.toList = moreL (cls s[p])) (w : World) (hc : w.cell? ⟨B, 0, none⟩ = some (.string m)) => part_is B (cls s[p]) m (s.extract p s.size) s[p] t r hm hsub ht hst hsz w hc)
        have HX := Lib.hid (show rvs (rtk ts) k ++ [.int .i64 (cls s[p]), .string (tx (s[p] :: t)), .int .i64 p] = rvs (rtk ts) (k + 1) by
          show _ = rvs (rtk ts) k ++ (rtk ts k).cells
          rw [hf]; rfl)
        have HD : Hid (Run numB (s.data.toList.drop (p + (tx (s[p] :: t)).size)) (p + (tx (s[p] :: t)).size) (ts.drop (k + 1)) e) := Lib.hid (by
          rw [show (tx (s[p] :: t)).size = t.length + 1 from rfl, hrest]; exact hr)
        have hz1 : 1 ≤ (tx (s[p] :: t)).size := by rw [show (tx (s[p] :: t)).size = t.length + 1 from rfl]; omega
        have hz2 : p + (tx (s[p] :: t)).size ≤ s.size := by rw [show (tx (s[p] :: t)).size = t.length + 1 from rfl]; omega
        have HN := Lib.hid hnn
        rw [show (⟨(s[p] :: t).toArray⟩ : ByteArray) = tx (s[p] :: t) from rfl] at KP
        clear hd hR hl ht hst hnn hts hr hk1 hf hlen hsub hsz hrest
        generalize tx (s[p] :: t) = tt at *
        generalize rvs (rtk ts) k = xs at *
        generalize numB (s[p] :: t) = nb at *
        generalize numT (s[p] :: t) = nt at *
        rcases hn with ⟨ec, e2, e3, e4, e5, e6, eu, ef⟩ | ⟨ec, e2, e3, e4, e5, e6, eu, ef⟩ | ⟨ec, e2, e3, e4, e5, e6, eu, ef⟩ | ⟨ec, e2, e3, e4, e5, e6, eu, ef⟩ | ⟨ec, e2, e3, e4, e5, e6, eu, ef⟩ | ⟨ec, e2, e3, e4, e5, e6, eu, ef⟩ | ⟨ec, e2, e3, e4, e5, e6, eu, ef⟩ | ⟨ec, e2, e3, e4, e5, e6, eu, ef⟩ | ⟨ec, e2, e3, e4, e5, e6, eu, ef⟩
        · omega
        · omega
        all_goals
          have KI := Lib.hid (fun w => isks_is s[p] eb ef eu e2 e3 e4 e5 e6 w)
          rw [ec] at KP HX HN
          clear hc1 hc6 ec e2 e3 e4 e5 e6 eu ef eb
        · obtain rfl : nb = true := HN.out rfl
          clear HN
          have KQ := Lib.hid (fun m hm => KP.out wr.heap.size m hm (wr.alloc (.cells #[.string m] 9)) (by
            rw [cell_of_row _ _ _ _ _ _ (heap_alloc_new wr (.cells #[.string m] 9))]; rfl))
          clear KP
          go_wp2_with (go_at_call 46; (first | (with_reducible refine (KI.out _).hb.mono ?_) | (with_reducible refine (KI.out _).hf.mono ?_) | (with_reducible refine (KI.out _).hu.mono ?_) | (with_reducible refine (KI.out _).h2.mono ?_) | (with_reducible refine (KI.out _).h3.mono ?_) | (with_reducible refine (KI.out _).h4.mono ?_) | (with_reducible refine (KI.out _).h5.mono ?_) | (with_reducible refine (KI.out _).h6.mono ?_)); rintro e w1 ⟨rfl, rfl⟩)
          refine (KQ.out _ (by rfl)).mono ?_
          rintro e w1 ⟨rfl, rfl⟩
          go_wp2_with fail
          refine (KN.out _).mono ?_
          rintro e w1 ⟨rfl, rfl⟩
          have hq := hb.size
          obtain ⟨w2, hw2, hz2', ho2, hb2⟩ := boxed ho hb (⟨#[48, 49, 50, 51, 52, 53, 54, 55, 56, 57]⟩ : ByteArray)
          rw [← hw2]
          clear hw2 ho hb hq KI KQ KN
          obtain ⟨i0, hi, hz0, hz1', hz2''⟩ := info_parts infoT
          go_wp2_with (at_builtin; refine wpList_append_own _ rfl (.tmp 64) (.tmp 69) 52 rfl W.heap.size 57 i0 (.agg #[.int .i64 0, .string ⟨#[]⟩, .int .i64 0]) 3 32 Try.underlying52 hi hz0 hz1' hz2'' rfl (by decide) _ _ _ rfl (ho2.alloc _) ⟨w2.heap.size, 0, none⟩ 1 1 [.int .i64 1, .string tt, .int .i64 p] rfl rfl ?c1r0 ?c2r0 ?c3r0 ?c4r0 ?c5r0 ?_)
          case c1r0 =>
            intro j u hj
            rw [Go.WideShapes.add_plain, Nat.zero_add, cell_of_row _ _ _ _ _ _ (heap_alloc_new w2 _), ← hj, ← Array.getElem?_toList]
          case c2r0 => intro u hu; simp at hu; rcases hu with rfl | rfl | rfl <;> rfl
          case c3r0 => unfold maxLen; omega
          case c4r0 => omega
          case c5r0 => simp; omega
          intro v' w3 hown' hgrow hnn'
          have hb' : Below W.heap.size W w3 := (hb2.alloc hz2' _).grown hgrow (by simp; omega) (fun k hk => (ho2.lt k hk).1)
          have hown2 := Lib.hid hown'
          clear hgrow ho2 hb2 hnn' hown'
          go_wp2_with fail
          refine ⟨⟨p + tt.size, k + 1, by go_num, by omega, by omega, HD.out, by rw [← HX.out]; exact hown2.out, hb'⟩, by simp [intOf]; omega⟩
        · obtain rfl : nb = true := HN.out rfl
          clear HN
          have KQ := Lib.hid (fun m hm => KP.out wr.heap.size m hm (wr.alloc (.cells #[.string m] 9)) (by
            rw [cell_of_row _ _ _ _ _ _ (heap_alloc_new wr (.cells #[.string m] 9))]; rfl))
          clear KP
          go_wp2_with (go_at_call 46; (first | (with_reducible refine (KI.out _).hb.mono ?_) | (with_reducible refine (KI.out _).hf.mono ?_) | (with_reducible refine (KI.out _).hu.mono ?_) | (with_reducible refine (KI.out _).h2.mono ?_) | (with_reducible refine (KI.out _).h3.mono ?_) | (with_reducible refine (KI.out _).h4.mono ?_) | (with_reducible refine (KI.out _).h5.mono ?_) | (with_reducible refine (KI.out _).h6.mono ?_)); rintro e w1 ⟨rfl, rfl⟩)
          refine (KQ.out _ (by rfl)).mono ?_
          rintro e w1 ⟨rfl, rfl⟩
          go_wp2_with fail
          refine (KN.out _).mono ?_
          rintro e w1 ⟨rfl, rfl⟩
          have hq := hb.size
          obtain ⟨w2, hw2, hz2', ho2, hb2⟩ := boxed ho hb (⟨#[48, 49, 50, 51, 52, 53, 54, 55, 56, 57]⟩ : ByteArray)
          rw [← hw2]
          clear hw2 ho hb hq KI KQ KN
          obtain ⟨i0, hi, hz0, hz1', hz2''⟩ := info_parts infoT
          go_wp2_with (at_builtin; refine wpList_append_own _ rfl (.tmp 64) (.tmp 69) 52 rfl W.heap.size 57 i0 (.agg #[.int .i64 0, .string ⟨#[]⟩, .int .i64 0]) 3 32 Try.underlying52 hi hz0 hz1' hz2'' rfl (by decide) _ _ _ rfl (ho2.alloc _) ⟨w2.heap.size, 0, none⟩ 1 1 [.int .i64 1, .string tt, .int .i64 p] rfl rfl ?c1r1 ?c2r1 ?c3r1 ?c4r1 ?c5r1 ?_)
          case c1r1 =>
            intro j u hj
            rw [Go.WideShapes.add_plain, Nat.zero_add, cell_of_row _ _ _ _ _ _ (heap_alloc_new w2 _), ← hj, ← Array.getElem?_toList]
          case c2r1 => intro u hu; simp at hu; rcases hu with rfl | rfl | rfl <;> rfl
          case c3r1 => unfold maxLen; omega
          case c4r1 => omega
          case c5r1 => simp; omega
          intro v' w3 hown' hgrow hnn'
          have hb' : Below W.heap.size W w3 := (hb2.alloc hz2' _).grown hgrow (by simp; omega) (fun k hk => (ho2.lt k hk).1)
          have hown2 := Lib.hid hown'
          clear hgrow ho2 hb2 hnn' hown'
          go_wp2_with fail
          refine ⟨⟨p + tt.size, k + 1, by go_num, by omega, by omega, HD.out, by rw [← HX.out]; exact hown2.out, hb'⟩, by simp [intOf]; omega⟩
        · clear HN
          have KQ := Lib.hid (fun m hm => KP.out wr.heap.size m hm (wr.alloc (.cells #[.string m] 9)) (by
            rw [cell_of_row _ _ _ _ _ _ (heap_alloc_new wr (.cells #[.string m] 9))]; rfl))
          clear KP
          go_wp2_with (go_at_call 46; (first | (with_reducible refine (KI.out _).hb.mono ?_) | (with_reducible refine (KI.out _).hf.mono ?_) | (with_reducible refine (KI.out _).hu.mono ?_) | (with_reducible refine (KI.out _).h2.mono ?_) | (with_reducible refine (KI.out _).h3.mono ?_) | (with_reducible refine (KI.out _).h4.mono ?_) | (with_reducible refine (KI.out _).h5.mono ?_) | (with_reducible refine (KI.out _).h6.mono ?_)); rintro e w1 ⟨rfl, rfl⟩)
          refine (KQ.out _ (by rfl)).mono ?_
          rintro e w1 ⟨rfl, rfl⟩
          go_wp2_with fail
          refine (KN.out _).mono ?_
          rintro e w1 ⟨rfl, rfl⟩
          have hq := hb.size
          obtain ⟨w2, hw2, hz2', ho2, hb2⟩ := boxed ho hb (⟨#[97, 98, 99, 100, 101, 102, 103, 104, 105, 106, 107, 108, 109, 110, 111, 112, 113, 114, 115, 116, 117, 118, 119, 120, 121, 122, 48, 49, 50, 51, 52, 53, 54, 55, 56, 57]⟩ : ByteArray)
          rw [← hw2]
          clear hw2 ho hb hq KI KQ KN
          obtain ⟨i0, hi, hz0, hz1', hz2''⟩ := info_parts infoT
          go_wp2_with (at_builtin; refine wpList_append_own _ rfl (.tmp 64) (.tmp 69) 52 rfl W.heap.size 57 i0 (.agg #[.int .i64 0, .string ⟨#[]⟩, .int .i64 0]) 3 32 Try.underlying52 hi hz0 hz1' hz2'' rfl (by decide) _ _ _ rfl (ho2.alloc _) ⟨w2.heap.size, 0, none⟩ 1 1 [.int .i64 2, .string tt, .int .i64 p] rfl rfl ?c1r2 ?c2r2 ?c3r2 ?c4r2 ?c5r2 ?_)
          case c1r2 =>
            intro j u hj
            rw [Go.WideShapes.add_plain, Nat.zero_add, cell_of_row _ _ _ _ _ _ (heap_alloc_new w2 _), ← hj, ← Array.getElem?_toList]
          case c2r2 => intro u hu; simp at hu; rcases hu with rfl | rfl | rfl <;> rfl
          case c3r2 => unfold maxLen; omega
          case c4r2 => omega
          case c5r2 => simp; omega
          intro v' w3 hown' hgrow hnn'
          have hb' : Below W.heap.size W w3 := (hb2.alloc hz2' _).grown hgrow (by simp; omega) (fun k hk => (ho2.lt k hk).1)
          have hown2 := Lib.hid hown'
          clear hgrow ho2 hb2 hnn' hown'
          go_wp2_with fail
          refine ⟨⟨p + tt.size, k + 1, by go_num, by omega, by omega, HD.out, by rw [← HX.out]; exact hown2.out, hb'⟩, by simp [intOf]; omega⟩
        · clear HN
          have KQ := Lib.hid (fun m hm => KP.out wr.heap.size m hm (wr.alloc (.cells #[.string m] 9)) (by
            rw [cell_of_row _ _ _ _ _ _ (heap_alloc_new wr (.cells #[.string m] 9))]; rfl))
          clear KP
          go_wp2_with (go_at_call 46; (first | (with_reducible refine (KI.out _).hb.mono ?_) | (with_reducible refine (KI.out _).hf.mono ?_) | (with_reducible refine (KI.out _).hu.mono ?_) | (with_reducible refine (KI.out _).h2.mono ?_) | (with_reducible refine (KI.out _).h3.mono ?_) | (with_reducible refine (KI.out _).h4.mono ?_) | (with_reducible refine (KI.out _).h5.mono ?_) | (with_reducible refine (KI.out _).h6.mono ?_)); rintro e w1 ⟨rfl, rfl⟩)
          refine (KQ.out _ (by rfl)).mono ?_
          rintro e w1 ⟨rfl, rfl⟩
          go_wp2_with fail
          refine (KN.out _).mono ?_
          rintro e w1 ⟨rfl, rfl⟩
          have hq := hb.size
          obtain ⟨w2, hw2, hz2', ho2, hb2⟩ := boxed ho hb (⟨#[97, 98, 99, 100, 101, 102, 103, 104, 105, 106, 107, 108, 109, 110, 111, 112, 113, 114, 115, 116, 117, 118, 119, 120, 121, 122, 65, 66, 67, 68, 69, 70, 71, 72, 73, 74, 75, 76, 77, 78, 79, 80, 81, 82, 83, 84, 85, 86, 87, 88, 89, 90, 48, 49, 50, 51, 52, 53, 54, 55, 56, 57]⟩ : ByteArray)
          rw [← hw2]
          clear hw2 ho hb hq KI KQ KN
          obtain ⟨i0, hi, hz0, hz1', hz2''⟩ := info_parts infoT
          go_wp2_with (at_builtin; refine wpList_append_own _ rfl (.tmp 64) (.tmp 69) 52 rfl W.heap.size 57 i0 (.agg #[.int .i64 0, .string ⟨#[]⟩, .int .i64 0]) 3 32 Try.underlying52 hi hz0 hz1' hz2'' rfl (by decide) _ _ _ rfl (ho2.alloc _) ⟨w2.heap.size, 0, none⟩ 1 1 [.int .i64 3, .string tt, .int .i64 p] rfl rfl ?c1r3 ?c2r3 ?c3r3 ?c4r3 ?c5r3 ?_)
          case c1r3 =>
            intro j u hj
            rw [Go.WideShapes.add_plain, Nat.zero_add, cell_of_row _ _ _ _ _ _ (heap_alloc_new w2 _), ← hj, ← Array.getElem?_toList]
          case c2r3 => intro u hu; simp at hu; rcases hu with rfl | rfl | rfl <;> rfl
          case c3r3 => unfold maxLen; omega
          case c4r3 => omega
          case c5r3 => simp; omega
          intro v' w3 hown' hgrow hnn'
          have hb' : Below W.heap.size W w3 := (hb2.alloc hz2' _).grown hgrow (by simp; omega) (fun k hk => (ho2.lt k hk).1)
          have hown2 := Lib.hid hown'
          clear hgrow ho2 hb2 hnn' hown'
          go_wp2_with fail
          refine ⟨⟨p + tt.size, k + 1, by go_num, by omega, by omega, HD.out, by rw [← HX.out]; exact hown2.out, hb'⟩, by simp [intOf]; omega⟩
        · clear HN
          have KQ := Lib.hid (fun m hm => KP.out wr.heap.size m hm (wr.alloc (.cells #[.string m] 9)) (by
            rw [cell_of_row _ _ _ _ _ _ (heap_alloc_new wr (.cells #[.string m] 9))]; rfl))
          clear KP
          go_wp2_with (go_at_call 46; (first | (with_reducible refine (KI.out _).hb.mono ?_) | (with_reducible refine (KI.out _).hf.mono ?_) | (with_reducible refine (KI.out _).hu.mono ?_) | (with_reducible refine (KI.out _).h2.mono ?_) | (with_reducible refine (KI.out _).h3.mono ?_) | (with_reducible refine (KI.out _).h4.mono ?_) | (with_reducible refine (KI.out _).h5.mono ?_) | (with_reducible refine (KI.out _).h6.mono ?_)); rintro e w1 ⟨rfl, rfl⟩)
          refine (KQ.out _ (by rfl)).mono ?_
          rintro e w1 ⟨rfl, rfl⟩
          go_wp2_with fail
          refine (KN.out _).mono ?_
          rintro e w1 ⟨rfl, rfl⟩
          have hq := hb.size
          obtain ⟨w2, hw2, hz2', ho2, hb2⟩ := boxed ho hb (⟨#[]⟩ : ByteArray)
          rw [← hw2]
          clear hw2 ho hb hq KI KQ KN
          obtain ⟨i0, hi, hz0, hz1', hz2''⟩ := info_parts infoT
          go_wp2_with (at_builtin; refine wpList_append_own _ rfl (.tmp 64) (.tmp 69) 52 rfl W.heap.size 57 i0 (.agg #[.int .i64 0, .string ⟨#[]⟩, .int .i64 0]) 3 32 Try.underlying52 hi hz0 hz1' hz2'' rfl (by decide) _ _ _ rfl (ho2.alloc _) ⟨w2.heap.size, 0, none⟩ 1 1 [.int .i64 4, .string tt, .int .i64 p] rfl rfl ?c1r4 ?c2r4 ?c3r4 ?c4r4 ?c5r4 ?_)
          case c1r4 =>
            intro j u hj
            rw [Go.WideShapes.add_plain, Nat.zero_add, cell_of_row _ _ _ _ _ _ (heap_alloc_new w2 _), ← hj, ← Array.getElem?_toList]
          case c2r4 => intro u hu; simp at hu; rcases hu with rfl | rfl | rfl <;> rfl
          case c3r4 => unfold maxLen; omega
          case c4r4 => omega
          case c5r4 => simp; omega
          intro v' w3 hown' hgrow hnn'
          have hb' : Below W.heap.size W w3 := (hb2.alloc hz2' _).grown hgrow (by simp; omega) (fun k hk => (ho2.lt k hk).1)
          have hown2 := Lib.hid hown'
          clear hgrow ho2 hb2 hnn' hown'
          go_wp2_with fail
          refine ⟨⟨p + tt.size, k + 1, by go_num, by omega, by omega, HD.out, by rw [← HX.out]; exact hown2.out, hb'⟩, by simp [intOf]; omega⟩
        · clear HN
          have KQ := Lib.hid (fun m hm => KP.out wr.heap.size m hm (wr.alloc (.cells #[.string m] 9)) (by
            rw [cell_of_row _ _ _ _ _ _ (heap_alloc_new wr (.cells #[.string m] 9))]; rfl))
          clear KP
          go_wp2_with (go_at_call 46; (first | (with_reducible refine (KI.out _).hb.mono ?_) | (with_reducible refine (KI.out _).hf.mono ?_) | (with_reducible refine (KI.out _).hu.mono ?_) | (with_reducible refine (KI.out _).h2.mono ?_) | (with_reducible refine (KI.out _).h3.mono ?_) | (with_reducible refine (KI.out _).h4.mono ?_) | (with_reducible refine (KI.out _).h5.mono ?_) | (with_reducible refine (KI.out _).h6.mono ?_)); rintro e w1 ⟨rfl, rfl⟩)
          refine (KQ.out _ (by rfl)).mono ?_
          rintro e w1 ⟨rfl, rfl⟩
          go_wp2_with fail
          refine (KN.out _).mono ?_
          rintro e w1 ⟨rfl, rfl⟩
          have hq := hb.size
          obtain ⟨w2, hw2, hz2', ho2, hb2⟩ := boxed ho hb (⟨#[]⟩ : ByteArray)
          rw [← hw2]
          clear hw2 ho hb hq KI KQ KN
          obtain ⟨i0, hi, hz0, hz1', hz2''⟩ := info_parts infoT
          go_wp2_with (at_builtin; refine wpList_append_own _ rfl (.tmp 64) (.tmp 69) 52 rfl W.heap.size 57 i0 (.agg #[.int .i64 0, .string ⟨#[]⟩, .int .i64 0]) 3 32 Try.underlying52 hi hz0 hz1' hz2'' rfl (by decide) _ _ _ rfl (ho2.alloc _) ⟨w2.heap.size, 0, none⟩ 1 1 [.int .i64 5, .string tt, .int .i64 p] rfl rfl ?c1r5 ?c2r5 ?c3r5 ?c4r5 ?c5r5 ?_)
          case c1r5 =>
            intro j u hj
            rw [Go.WideShapes.add_plain, Nat.zero_add, cell_of_row _ _ _ _ _ _ (heap_alloc_new w2 _), ← hj, ← Array.getElem?_toList]
          case c2r5 => intro u hu; simp at hu; rcases hu with rfl | rfl | rfl <;> rfl
          case c3r5 => unfold maxLen; omega
          case c4r5 => omega
          case c5r5 => simp; omega
          intro v' w3 hown' hgrow hnn'
          have hb' : Below W.heap.size W w3 := (hb2.alloc hz2' _).grown hgrow (by simp; omega) (fun k hk => (ho2.lt k hk).1)
          have hown2 := Lib.hid hown'
          clear hgrow ho2 hb2 hnn' hown'
          go_wp2_with fail
          refine ⟨⟨p + tt.size, k + 1, by go_num, by omega, by omega, HD.out, by rw [← HX.out]; exact hown2.out, hb'⟩, by simp [intOf]; omega⟩
        · clear HN
          have KQ := Lib.hid (fun m hm => KP.out wr.heap.size m hm (wr.alloc (.cells #[.string m] 9)) (by
            rw [cell_of_row _ _ _ _ _ _ (heap_alloc_new wr (.cells #[.string m] 9))]; rfl))
          clear KP
          go_wp2_with (go_at_call 46; (first | (with_reducible refine (KI.out _).hb.mono ?_) | (with_reducible refine (KI.out _).hf.mono ?_) | (with_reducible refine (KI.out _).hu.mono ?_) | (with_reducible refine (KI.out _).h2.mono ?_) | (with_reducible refine (KI.out _).h3.mono ?_) | (with_reducible refine (KI.out _).h4.mono ?_) | (with_reducible refine (KI.out _).h5.mono ?_) | (with_reducible refine (KI.out _).h6.mono ?_)); rintro e w1 ⟨rfl, rfl⟩)
          refine (KQ.out _ (by rfl)).mono ?_
          rintro e w1 ⟨rfl, rfl⟩
          go_wp2_with fail
          refine (KN.out _).mono ?_
          rintro e w1 ⟨rfl, rfl⟩
          have hq := hb.size
          obtain ⟨w2, hw2, hz2', ho2, hb2⟩ := boxed ho hb (⟨#[]⟩ : ByteArray)
          rw [← hw2]
          clear hw2 ho hb hq KI KQ KN
          obtain ⟨i0, hi, hz0, hz1', hz2''⟩ := info_parts infoT
          go_wp2_with (at_builtin; refine wpList_append_own _ rfl (.tmp 64) (.tmp 69) 52 rfl W.heap.size 57 i0 (.agg #[.int .i64 0, .string ⟨#[]⟩, .int .i64 0]) 3 32 Try.underlying52 hi hz0 hz1' hz2'' rfl (by decide) _ _ _ rfl (ho2.alloc _) ⟨w2.heap.size, 0, none⟩ 1 1 [.int .i64 6, .string tt, .int .i64 p] rfl rfl ?c1r6 ?c2r6 ?c3r6 ?c4r6 ?c5r6 ?_)
          case c1r6 =>
            intro j u hj
            rw [Go.WideShapes.add_plain, Nat.zero_add, cell_of_row _ _ _ _ _ _ (heap_alloc_new w2 _), ← hj, ← Array.getElem?_toList]
          case c2r6 => intro u hu; simp at hu; rcases hu with rfl | rfl | rfl <;> rfl
          case c3r6 => unfold maxLen; omega
          case c4r6 => omega
          case c5r6 => simp; omega
          intro v' w3 hown' hgrow hnn'
          have hb' : Below W.heap.size W w3 := (hb2.alloc hz2' _).grown hgrow (by simp; omega) (fun k hk => (ho2.lt k hk).1)
          have hown2 := Lib.hid hown'
          clear hgrow ho2 hb2 hnn' hown'
          go_wp2_with fail
          refine ⟨⟨p + tt.size, k + 1, by go_num, by omega, by omega, HD.out, by rw [← HX.out]; exact hown2.out, hb'⟩, by simp [intOf]; omega⟩
      · obtain ⟨vs, he'⟩ : ∃ vs, vs = e := ⟨_, rfl⟩
        clear he' vs
        subst he
        have KI : Hid (∀ w, Isks s[p] false false false false false false false false w) := Lib.hid (by
          intro w
          rcases hn with ⟨e, e2, e3, e4, e5, e6, eu, ef⟩ | ⟨e, e2, e3, e4, e5, e6, eu, ef⟩ | ⟨e, e2, e3, e4, e5, e6, eu, ef⟩ | ⟨e, e2, e3, e4, e5, e6, eu, ef⟩ | ⟨e, e2, e3, e4, e5, e6, eu, ef⟩ | ⟨e, e2, e3, e4, e5, e6, eu, ef⟩ | ⟨e, e2, e3, e4, e5, e6, eu, ef⟩ | ⟨e, e2, e3, e4, e5, e6, eu, ef⟩ | ⟨e, e2, e3, e4, e5, e6, eu, ef⟩
          · refine isks_is s[p] ?_ ef eu e2 e3 e4 e5 e6 w
            exact beq_false_of_ne (fun h => by rw [h] at hc; exact absurd hc (by decide))
          all_goals omega)
        clear hn hd hR hc hts
        go_wp2_with (go_at_call 46; (first | (with_reducible refine (KI.out _).hb.mono ?_) | (with_reducible refine (KI.out _).hf.mono ?_) | (with_reducible refine (KI.out _).hu.mono ?_) | (with_reducible refine (KI.out _).h2.mono ?_) | (with_reducible refine (KI.out _).h3.mono ?_) | (with_reducible refine (KI.out _).h4.mono ?_) | (with_reducible refine (KI.out _).h5.mono ?_) | (with_reducible refine (KI.out _).h6.mono ?_)); rintro e w1 ⟨rfl, rfl⟩)
        go_ret3
        exact LexEnd.bad (hb.alloc hb.size _)
      · subst he
        have hlen : s.size - p = t.length + 1 + r.length := by
          have := congrArg List.length hd
          rw [List.length_drop, List.length_cons, hl, List.length_append] at this
          simp at this
          omega
        have hsub : (s.extract p s.size).data.toList = s[p] :: t ++ r := by
          rw [extract_list, hd, hl, List.take_of_length_le (by simp; omega)]; rfl
        have hsz : (s.extract p s.size).size ≤ 9223372036854775807 := by
          have : (s.extract p s.size).data.toList.length = (s.extract p s.size).size := by simp
          rw [← this, hsub]; simp; omega
        have eb : (s[p] == 32) = false := beq_false_of_ne (fun h => by rw [h] at hc; exact absurd hc (by decide))
        have KN := fun w => Number_is (s[p] :: t) (by simp; omega) w
        rw [hnn] at KN
        replace KN := Lib.hid KN
        have KP := Lib.hid (fun (B : Nat) (m : ByteArray) (hm : m.data.toList = moreL 1) (w : World) (hc : w.cell? ⟨B, 0, none⟩ = some (.string m)) => part_is B 1 m (s.extract p s.size) s[p] t r hm hsub ht hst hsz w hc)
        rw [show (⟨(s[p] :: t).toArray⟩ : ByteArray) = tx (s[p] :: t) from rfl] at KP
        clear hd hR hl ht hst hnn hts hlen hsub hsz
        generalize tx (s[p] :: t) = tt at *
        generalize numT (s[p] :: t) = nt at *
        rcases hn with ⟨ec, e2, e3, e4, e5, e6, eu, ef⟩ | ⟨ec, e2, e3, e4, e5, e6, eu, ef⟩ | ⟨ec, e2, e3, e4, e5, e6, eu, ef⟩ | ⟨ec, e2, e3, e4, e5, e6, eu, ef⟩ | ⟨ec, e2, e3, e4, e5, e6, eu, ef⟩ | ⟨ec, e2, e3, e4, e5, e6, eu, ef⟩ | ⟨ec, e2, e3, e4, e5, e6, eu, ef⟩ | ⟨ec, e2, e3, e4, e5, e6, eu, ef⟩ | ⟨ec, e2, e3, e4, e5, e6, eu, ef⟩
        all_goals try omega
        all_goals
          have KI := Lib.hid (fun w => isks_is s[p] eb ef eu e2 e3 e4 e5 e6 w)
          clear hc ec e2 e3 e4 e5 e6 eu ef eb
          have KQ := Lib.hid (fun m hm => KP.out wr.heap.size m hm (wr.alloc (.cells #[.string m] 9)) (by
            rw [cell_of_row _ _ _ _ _ _ (heap_alloc_new wr (.cells #[.string m] 9))]; rfl))
          clear KP
          go_wp2_with (go_at_call 46; (first | (with_reducible refine (KI.out _).hb.mono ?_) | (with_reducible refine (KI.out _).hf.mono ?_) | (with_reducible refine (KI.out _).hu.mono ?_) | (with_reducible refine (KI.out _).h2.mono ?_) | (with_reducible refine (KI.out _).h3.mono ?_) | (with_reducible refine (KI.out _).h4.mono ?_) | (with_reducible refine (KI.out _).h5.mono ?_) | (with_reducible refine (KI.out _).h6.mono ?_)); rintro e w1 ⟨rfl, rfl⟩)
          refine (KQ.out _ (by rfl)).mono ?_
          rintro e w1 ⟨rfl, rfl⟩
          go_wp2_with fail
          refine (KN.out _).mono ?_
          rintro e w1 ⟨rfl, rfl⟩
          go_wp2_with fail
          go_ret3
          exact LexEnd.bad (hb.alloc hb.size _)
    · have hd := drop_end s p (by omega)
      rw [hd] at hR
      obtain ⟨hts, he⟩ := hR.inv_nil
      subst he
      have hke : k = ts.length := by
        have := congrArg List.length hts
        rw [List.length_drop] at this
        simp at this
        omega
      have e2 : ¬ (p : Int) < (s.size : Int) := by omega
      obtain ⟨a, c, rfl, hcap, hq⟩ := owns_qs ho
      subst hke
      clear hd hR hts ho
      go_wp2_with fail
      go_ret3
      exact LexEnd.ok hcap hq hb
end Go.Proofs.Ytiopemimancliaa

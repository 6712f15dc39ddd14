import Derived.Test.YtafdogcanjcbmaaMad
import Derived.RegionTactic
import Derived.Deep.DeepCutAuto
import Derived.Test.YtafdogcanjcbmaaMac
import Derived.Test.YtafdogcanjcbmaaMab
/-
  Lex, of the program: at every line.
-/
namespace Go.Proofs.Ytafdogcanjcbmaa
set_option linter.unusedVariables false
set_option linter.unusedSimpArgs false
open Go.RowKit

theorem Run.inv {N : List UInt8 → Bool} {c : UInt8} {l : List UInt8} {p : Nat} {ts : List Tk} {e : Option Nat} (h : Run N (c :: l) p ts e) :
    (cls c = 7 ∧ Run N l (p + 1) ts e)
    ∨ (∃ t r us, 1 ≤ cls c ∧ cls c ≤ 6 ∧ l = t ++ r ∧ (∀ x ∈ t, (moreL (cls c)).contains x = true) ∧ Stop (cls c) r ∧ (cls c = 1 → N (c :: t) = true) ∧ ts = ⟨cls c, c :: t, p⟩ :: us ∧ Run N r (p + (t.length + 1)) us e)
    ∨ (cls c = 0 ∧ ts = [] ∧ e = some p)
    ∨ (cls c = 1 ∧ ∃ t r, l = t ++ r ∧ (∀ x ∈ t, (moreL 1).contains x = true) ∧ Stop 1 r ∧ N (c :: t) = false ∧ ts = [] ∧ e = some p) := by
  generalize hm : c :: l = m at h
  cases h with
  | nil => cases hm
  | blank h hr =>
    cases hm
    exact .inl ⟨h, hr⟩
  | part h h1 h6 ht hs hn hr =>
    cases hm
    subst h
    exact .inr (.inl ⟨_, _, _, h1, h6, rfl, ht, hs, hn, rfl, hr⟩)
  | bad h =>
    cases hm
    exact .inr (.inr (.inl ⟨h, rfl, rfl⟩))
  | figs h ht hs hn =>
    cases hm
    exact .inr (.inr (.inr ⟨h, _, _, rfl, ht, hs, hn, rfl, rfl⟩))
theorem Run.inv_nil {N : List UInt8 → Bool} {p : Nat} {ts : List Tk} {e : Option Nat} (h : Run N [] p ts e) : ts = [] ∧ e = none := by
  generalize hm : ([] : List UInt8) = m at h
  cases h with
  | nil => exact ⟨rfl, rfl⟩
  | blank h hr => cases hm
  | part h h1 h6 ht hs hn hr => cases hm
  | bad h => cases hm
  | figs h ht hs hn => cases hm
/-- What Lex asks of a byte. -/
structure Isks (x : UInt8) (vb vf vu v2 v3 v4 v5 v6 : Bool) (w : World) : Prop where
  hb : Calls Try.prog 29 #[.string ⟨#[32]⟩, .int .u8 (x.toNat : Int)] w (BoolEnd vb w)
  hf : Calls Try.prog 29 #[.string ⟨#[48, 49, 50, 51, 52, 53, 54, 55, 56, 57]⟩, .int .u8 (x.toNat : Int)] w (BoolEnd vf w)
  hu : Calls Try.prog 29 #[.string ⟨#[95]⟩, .int .u8 (x.toNat : Int)] w (BoolEnd vu w)
  h2 : Calls Try.prog 29 #[.string ⟨#[97, 98, 99, 100, 101, 102, 103, 104, 105, 106, 107, 108, 109, 110, 111, 112, 113, 114, 115, 116, 117, 118, 119, 120, 121, 122]⟩, .int .u8 (x.toNat : Int)] w (BoolEnd v2 w)
  h3 : Calls Try.prog 29 #[.string ⟨#[65, 66, 67, 68, 69, 70, 71, 72, 73, 74, 75, 76, 77, 78, 79, 80, 81, 82, 83, 84, 85, 86, 87, 88, 89, 90]⟩, .int .u8 (x.toNat : Int)] w (BoolEnd v3 w)
  h4 : Calls Try.prog 29 #[.string ⟨#[43, 45, 42, 37, 33, 38, 124, 60, 62, 61, 126, 44, 35, 94, 36, 63, 64]⟩, .int .u8 (x.toNat : Int)] w (BoolEnd v4 w)
  h5 : Calls Try.prog 29 #[.string ⟨#[39, 47, 92, 46, 96]⟩, .int .u8 (x.toNat : Int)] w (BoolEnd v5 w)
  h6 : Calls Try.prog 29 #[.string ⟨#[40, 41, 91, 93, 123, 125, 58]⟩, .int .u8 (x.toNat : Int)] w (BoolEnd v6 w)
theorem isks_is (x : UInt8) {vb vf vu v2 v3 v4 v5 v6 : Bool} (eb : (x == 32) = vb) (ef : figL.contains x = vf) (eu : (x == 95) = vu) (e2 : smL.contains x = v2) (e3 : grL.contains x = v3) (e4 : sgL.contains x = v4) (e5 : adL.contains x = v5) (e6 : mkL.contains x = v6) (w : World) : Isks x vb vf vu v2 v3 v4 v5 v6 w where
  hb := isOf_is ⟨#[32]⟩ x vb (by rw [← eb]; show ([32] : List UInt8).contains x = _; rw [List.contains_cons, List.contains_nil, Bool.or_false]) w
  hf := isOf_is ⟨#[48, 49, 50, 51, 52, 53, 54, 55, 56, 57]⟩ x vf ef w
  hu := isOf_is ⟨#[95]⟩ x vu (by rw [← eu]; show ([95] : List UInt8).contains x = _; rw [List.contains_cons, List.contains_nil, Bool.or_false]) w
  h2 := isOf_is ⟨#[97, 98, 99, 100, 101, 102, 103, 104, 105, 106, 107, 108, 109, 110, 111, 112, 113, 114, 115, 116, 117, 118, 119, 120, 121, 122]⟩ x v2 e2 w
  h3 := isOf_is ⟨#[65, 66, 67, 68, 69, 70, 71, 72, 73, 74, 75, 76, 77, 78, 79, 80, 81, 82, 83, 84, 85, 86, 87, 88, 89, 90]⟩ x v3 e3 w
  h4 := isOf_is ⟨#[43, 45, 42, 37, 33, 38, 124, 60, 62, 61, 126, 44, 35, 94, 36, 63, 64]⟩ x v4 e4 w
  h5 := isOf_is ⟨#[39, 47, 92, 46, 96]⟩ x v5 e5 w
  h6 := isOf_is ⟨#[40, 41, 91, 93, 123, 125, 58]⟩ x v6 e6 w
theorem boxed {w W : World} {v : Value} {k : Nat} {xs : List Value} (ho : w.ownsRow W.heap.size 58 3 v k xs) (hb : Below W.heap.size W w) (m : ByteArray) :
    ∃ w2, w2 = w.alloc (.cells #[.string m] 9) ∧ W.heap.size ≤ w2.heap.size ∧ w2.ownsRow W.heap.size 58 3 v k xs ∧ Below W.heap.size W w2 :=
  ⟨_, rfl, by have := hb.size; simp; omega, ho.alloc _, hb.alloc hb.size _⟩
set_option maxHeartbeats 3200000 in
set_option maxRecDepth 10000 in
theorem lex_is (s : ByteArray) (hs : s.size ≤ 256) (ts : List Tk) (e : Option Nat) (h : Run numB s.data.toList 0 ts e) (W : World) : Calls Try.prog 18 #[.string s] W (LexEnd ts e W) := by
  have h1 : ¬ (256 : Int) < (s.size : Int) := by omega
  have hn256 : ts.length ≤ 256 := by have := h.span.2; simp at this; omega
  have HR := Lib.hid h
  clear h
  go_enter Try.func18, Try.ntmps18
  go_wp2_with fail
  go_step3
  go_wp2_with fail
  go_step3
  go_wp2_with fail
  go_loopw [5, 6] (fun pv iv wr => ∃ p k : Nat, iv = .int .i64 p ∧ p ≤ s.size ∧ k ≤ ts.length ∧ Run numB (s.data.toList.drop p) p (ts.drop k) e ∧ wr.ownsRow W.heap.size 58 3 pv k (rvs (rtk ts) k) ∧ Below W.heap.size W wr) (fun _ iv _ => s.size - (intOf iv).toNat)
  case atStart => exact ⟨0, 0, rfl, by omega, by omega, HR.out, ⟨rfl, .inl ⟨rfl, rfl⟩⟩, Below.refl _ _⟩
  case round =>
    obtain ⟨p, k, rfl, hp, hk, hR, ho, hb⟩ := hrel
    by_cases hlt : p < s.size
    · have hd := drop_at s p hlt
      rw [hd] at hR
      have hn := cls_nine s[p]
      unfold nineOf nine at hn
      simp only [List.mem_cons, List.not_mem_nil, or_false, Prod.mk.injEq] at hn
      rcases hR.inv with ⟨hc, hr⟩ | ⟨t, r, us, hc1, hc6, hl, ht, hst, hnn, hts, hr⟩ | ⟨hc, hts, he⟩ | ⟨hc, t, r, hl, ht, hst, hnn, hts, he⟩
      · have e0 : s[p] = 32 := blank_is _ hc
        have KI := Lib.hid (fun w => isks_is s[p] rfl rfl rfl rfl rfl rfl rfl rfl w)
        have KB := Lib.hid (fun w => (show Calls Try.prog 29 #[.string ⟨#[32]⟩, .int .u8 (s[p].toNat : Int)] w (BoolEnd true w) from isOf_is ⟨#[32]⟩ s[p] true (by rw [e0]; rfl) w))
        have HD := Lib.hid hr
        clear hn hd hR hc hr e0 KI
        go_wp2_with fail
        refine (KB.out _).mono ?_
        rintro e w1 ⟨rfl, rfl⟩
        go_wp2_with fail
        refine ⟨⟨p + 1, k, by go_num, by omega, hk, HD.out, ho.alloc _, hb.alloc hb.size _⟩, by simp [intOf]; omega⟩
      · obtain ⟨hk1, rfl, hk3⟩ := drop_cons hts
        have hf := rtk_at hk1
        have hlen : s.size - p = t.length + 1 + r.length := by
          have := congrArg List.length hd
          rw [List.length_drop, List.length_cons, hl, List.length_append] at this
          simp at this
          omega
        have hsub : (s.extract p s.size).data.toList = s[p] :: t ++ r := by
          rw [extract_list, hd, hl, List.take_of_length_le (by simp; omega)]; rfl
        have hsz : (s.extract p s.size).size ≤ 9223372036854775807 := by
          have : (s.extract p s.size).data.toList.length = (s.extract p s.size).size := by simp
          rw [← this, hsub]; simp; omega
        have hrest : s.data.toList.drop (p + (t.length + 1)) = r := by
          rw [← List.drop_drop, hd, hl]
          exact List.drop_left (l₁ := s[p] :: t)
        have eb : (s[p] == 32) = false := beq_false_of_ne (fun h => by rw [h] at hc6; exact absurd hc6 (by decide))
        have KN := Lib.hid (fun w => Number_is (s[p] :: t) (by simp; omega) w)
        have KP := Lib.hid (fun (B : Nat) (m : ByteArray) (hm : m.data.toList = moreL (cls s[p])) (w : World) (hc : w.cell? ⟨B, 0, none⟩ = some (.string m)) => part_is B (cls s[p]) m (s.extract p s.size) s[p] t r hm hsub ht hst hsz w hc)
        have HX := Lib.hid (show rvs (rtk ts) k ++ [.int .i64 (cls s[p]), .string (tx (s[p] :: t)), .int .i64 p] = rvs (rtk ts) (k + 1) by
          show _ = rvs (rtk ts) k ++ (rtk ts k).cells
          rw [hf]; rfl)
        have HD : Hid (Run numB (s.data.toList.drop (p + (tx (s[p] :: t)).size)) (p + (tx (s[p] :: t)).size) (ts.drop (k + 1)) e) := Lib.hid (by
          rw [show (tx (s[p] :: t)).size = t.length + 1 from rfl, hrest]; exact hr)
        have hz1 : 1 ≤ (tx (s[p] :: t)).size := by rw [show (tx (s[p] :: t)).size = t.length + 1 from rfl]; omega
        have hz2 : p + (tx (s[p] :: t)).size ≤ s.size := by rw [show (tx (s[p] :: t)).size = t.length + 1 from rfl]; omega
        have HN := Lib.hid hnn
        rw [show (⟨(s[p] :: t).toArray⟩ : ByteArray) = tx (s[p] :: t) from rfl] at KP
        clear hd hR hl ht hst hnn hts hr hk1 hf hlen hsub hsz hrest
        generalize tx (s[p] :: t) = tt at *
        generalize rvs (rtk ts) k = xs at *
        generalize numB (s[p] :: t) = nb at *
        generalize numT (s[p] :: t) = nt at *
        rcases hn with ⟨ec, e2, e3, e4, e5, e6, eu, ef⟩ | ⟨ec, e2, e3, e4, e5, e6, eu, ef⟩ | ⟨ec, e2, e3, e4, e5, e6, eu, ef⟩ | ⟨ec, e2, e3, e4, e5, e6, eu, ef⟩ | ⟨ec, e2, e3, e4, e5, e6, eu, ef⟩ | ⟨ec, e2, e3, e4, e5, e6, eu, ef⟩ | ⟨ec, e2, e3, e4, e5, e6, eu, ef⟩ | ⟨ec, e2, e3, e4, e5, e6, eu, ef⟩ | ⟨ec, e2, e3, e4, e5, e6, eu, ef⟩
        · omega
        · omega
        all_goals
          have KI := Lib.hid (fun w => isks_is s[p] eb ef eu e2 e3 e4 e5 e6 w)
          rw [ec] at KP HX HN
          clear hc1 hc6 ec e2 e3 e4 e5 e6 eu ef eb
        · obtain rfl : nb = true := HN.out rfl
          clear HN
          have KQ := Lib.hid (fun m hm => KP.out wr.heap.size m hm (wr.alloc (.cells #[.string m] 9)) (by
            rw [cell_of_row _ _ _ _ _ _ (heap_alloc_new wr (.cells #[.string m] 9))]; rfl))
          clear KP
          go_wp2_with (go_at_call 29; (first | (with_reducible refine (KI.out _).hb.mono ?_) | (with_reducible refine (KI.out _).hf.mono ?_) | (with_reducible refine (KI.out _).hu.mono ?_) | (with_reducible refine (KI.out _).h2.mono ?_) | (with_reducible refine (KI.out _).h3.mono ?_) | (with_reducible refine (KI.out _).h4.mono ?_) | (with_reducible refine (KI.out _).h5.mono ?_) | (with_reducible refine (KI.out _).h6.mono ?_)); rintro e w1 ⟨rfl, rfl⟩)
          refine (KQ.out _ (by rfl)).mono ?_
          rintro e w1 ⟨rfl, rfl⟩
          go_wp2_with fail
          refine (KN.out _).mono ?_
          rintro e w1 ⟨rfl, rfl⟩
          have hq := hb.size
          obtain ⟨w2, hw2, hz2', ho2, hb2⟩ := boxed ho hb (⟨#[48, 49, 50, 51, 52, 53, 54, 55, 56, 57]⟩ : ByteArray)
          rw [← hw2]
          clear hw2 ho hb hq KI KQ KN
          obtain ⟨i0, hi, hz0, hz1', hz2''⟩ := info_parts infoT
          go_wp2_with (at_builtin; refine wpList_append_own _ rfl (.tmp 64) (.tmp 69) 38 rfl W.heap.size 58 i0 (.agg #[.int .i64 0, .string ⟨#[]⟩, .int .i64 0]) 3 32 Try.underlying38 hi hz0 hz1' hz2'' rfl (by decide) _ _ _ rfl (ho2.alloc _) ⟨w2.heap.size, 0, none⟩ 1 1 [.int .i64 1, .string tt, .int .i64 p] rfl rfl ?c1r0 ?c2r0 ?c3r0 ?c4r0 ?c5r0 ?_)
          case c1r0 =>
            intro j u hj
            rw [Go.WideShapes.add_plain, Nat.zero_add, cell_of_row _ _ _ _ _ _ (heap_alloc_new w2 _), ← hj, ← Array.getElem?_toList]
          case c2r0 => intro u hu; simp at hu; rcases hu with rfl | rfl | rfl <;> rfl
          case c3r0 => unfold maxLen; omega
          case c4r0 => omega
          case c5r0 => simp; omega
          intro v' w3 hown' hgrow hnn'
          have hb' : Below W.heap.size W w3 := (hb2.alloc hz2' _).grown hgrow (by simp; omega) (fun k hk => (ho2.lt k hk).1)
          have hown2 := Lib.hid hown'
          clear hgrow ho2 hb2 hnn' hown'
          go_wp2_with fail
          refine ⟨⟨p + tt.size, k + 1, by go_num, by omega, by omega, HD.out, by rw [← HX.out]; exact hown2.out, hb'⟩, by simp [intOf]; omega⟩
        · obtain rfl : nb = true := HN.out rfl
          clear HN
          have KQ := Lib.hid (fun m hm => KP.out wr.heap.size m hm (wr.alloc (.cells #[.string m] 9)) (by
            rw [cell_of_row _ _ _ _ _ _ (heap_alloc_new wr (.cells #[.string m] 9))]; rfl))
          clear KP
          go_wp2_with (go_at_call 29; (first | (with_reducible refine (KI.out _).hb.mono ?_) | (with_reducible refine (KI.out _).hf.mono ?_) | (with_reducible refine (KI.out _).hu.mono ?_) | (with_reducible refine (KI.out _).h2.mono ?_) | (with_reducible refine (KI.out _).h3.mono ?_) | (with_reducible refine (KI.out _).h4.mono ?_) | (with_reducible refine (KI.out _).h5.mono ?_) | (with_reducible refine (KI.out _).h6.mono ?_)); rintro e w1 ⟨rfl, rfl⟩)
          refine (KQ.out _ (by rfl)).mono ?_
          rintro e w1 ⟨rfl, rfl⟩
          go_wp2_with fail
          refine (KN.out _).mono ?_
          rintro e w1 ⟨rfl, rfl⟩
          have hq := hb.size
          obtain ⟨w2, hw2, hz2', ho2, hb2⟩ := boxed ho hb (⟨#[48, 49, 50, 51, 52, 53, 54, 55, 56, 57]⟩ : ByteArray)
          rw [← hw2]
          clear hw2 ho hb hq KI KQ KN
          obtain ⟨i0, hi, hz0, hz1', hz2''⟩ := info_parts infoT
          go_wp2_with (at_builtin; refine wpList_append_own _ rfl (.tmp 64) (.tmp 69) 38 rfl W.heap.size 58 i0 (.agg #[.int .i64 0, .string ⟨#[]⟩, .int .i64 0]) 3 32 Try.underlying38 hi hz0 hz1' hz2'' rfl (by decide) _ _ _ rfl (ho2.alloc _) ⟨w2.heap.size, 0, none⟩ 1 1 [.int .i64 1, .string tt, .int .i64 p] rfl rfl ?c1r1 ?c2r1 ?c3r1 ?c4r1 ?c5r1 ?_)
          case c1r1 =>
            intro j u hj
            rw [Go.WideShapes.add_plain, Nat.zero_add, cell_of_row _ _ _ _ _ _ (heap_alloc_new w2 _), ← hj, ← Array.getElem?_toList]
          case c2r1 => intro u hu; simp at hu; rcases hu with rfl | rfl | rfl <;> rfl
          case c3r1 => unfold maxLen; omega
          case c4r1 => omega
          case c5r1 => simp; omega
          intro v' w3 hown' hgrow hnn'
          have hb' : Below W.heap.size W w3 := (hb2.alloc hz2' _).grown hgrow (by simp; omega) (fun k hk => (ho2.lt k hk).1)
          have hown2 := Lib.hid hown'
          clear hgrow ho2 hb2 hnn' hown'
          go_wp2_with fail
          refine ⟨⟨p + tt.size, k + 1, by go_num, by omega, by omega, HD.out, by rw [← HX.out]; exact hown2.out, hb'⟩, by simp [intOf]; omega⟩
        · clear HN
          have KQ := Lib.hid (fun m hm => KP.out wr.heap.size m hm (wr.alloc (.cells #[.string m] 9)) (by
            rw [cell_of_row _ _ _ _ _ _ (heap_alloc_new wr (.cells #[.string m] 9))]; rfl))
          clear KP
          go_wp2_with (go_at_call 29; (first | (with_reducible refine (KI.out _).hb.mono ?_) | (with_reducible refine (KI.out _).hf.mono ?_) | (with_reducible refine (KI.out _).hu.mono ?_) | (with_reducible refine (KI.out _).h2.mono ?_) | (with_reducible refine (KI.out _).h3.mono ?_) | (with_reducible refine (KI.out _).h4.mono ?_) | (with_reducible refine (KI.out _).h5.mono ?_) | (with_reducible refine (KI.out _).h6.mono ?_)); rintro e w1 ⟨rfl, rfl⟩)
          refine (KQ.out _ (by rfl)).mono ?_
          rintro e w1 ⟨rfl, rfl⟩
          go_wp2_with fail
          refine (KN.out _).mono ?_
          rintro e w1 ⟨rfl, rfl⟩
          have hq := hb.size
          obtain ⟨w2, hw2, hz2', ho2, hb2⟩ := boxed ho hb (⟨#[97, 98, 99, 100, 101, 102, 103, 104, 105, 106, 107, 108, 109, 110, 111, 112, 113, 114, 115, 116, 117, 118, 119, 120, 121, 122, 48, 49, 50, 51, 52, 53, 54, 55, 56, 57]⟩ : ByteArray)
          rw [← hw2]
          clear hw2 ho hb hq KI KQ KN
          obtain ⟨i0, hi, hz0, hz1', hz2''⟩ := info_parts infoT
          go_wp2_with (at_builtin; refine wpList_append_own _ rfl (.tmp 64) (.tmp 69) 38 rfl W.heap.size 58 i0 (.agg #[.int .i64 0, .string ⟨#[]⟩, .int .i64 0]) 3 32 Try.underlying38 hi hz0 hz1' hz2'' rfl (by decide) _ _ _ rfl (ho2.alloc _) ⟨w2.heap.size, 0, none⟩ 1 1 [.int .i64 2, .string tt, .int .i64 p] rfl rfl ?c1r2 ?c2r2 ?c3r2 ?c4r2 ?c5r2 ?_)
          case c1r2 =>
            intro j u hj
            rw [Go.WideShapes.add_plain, Nat.zero_add, cell_of_row _ _ _ _ _ _ (heap_alloc_new w2 _), ← hj, ← Array.getElem?_toList]
          case c2r2 => intro u hu; simp at hu; rcases hu with rfl | rfl | rfl <;> rfl
          case c3r2 => unfold maxLen; omega
          case c4r2 => omega
          case c5r2 => simp; omega
          intro v' w3 hown' hgrow hnn'
          have hb' : Below W.heap.size W w3 := (hb2.alloc hz2' _).grown hgrow (by simp; omega) (fun k hk => (ho2.lt k hk).1)
          have hown2 := Lib.hid hown'
          clear hgrow ho2 hb2 hnn' hown'
          go_wp2_with fail
          refine ⟨⟨p + tt.size, k + 1, by go_num, by omega, by omega, HD.out, by rw [← HX.out]; exact hown2.out, hb'⟩, by simp [intOf]; omega⟩
        · clear HN
          have KQ := Lib.hid (fun m hm => KP.out wr.heap.size m hm (wr.alloc (.cells #[.string m] 9)) (by
            rw [cell_of_row _ _ _ _ _ _ (heap_alloc_new wr (.cells #[.string m] 9))]; rfl))
          clear KP
          go_wp2_with (go_at_call 29; (first | (with_reducible refine (KI.out _).hb.mono ?_) | (with_reducible refine (KI.out _).hf.mono ?_) | (with_reducible refine (KI.out _).hu.mono ?_) | (with_reducible refine (KI.out _).h2.mono ?_) | (with_reducible refine (KI.out _).h3.mono ?_) | (with_reducible refine (KI.out _).h4.mono ?_) | (with_reducible refine (KI.out _).h5.mono ?_) | (with_reducible refine (KI.out _).h6.mono ?_)); rintro e w1 ⟨rfl, rfl⟩)
          refine (KQ.out _ (by rfl)).mono ?_
          rintro e w1 ⟨rfl, rfl⟩
          go_wp2_with fail
          refine (KN.out _).mono ?_
          rintro e w1 ⟨rfl, rfl⟩
          have hq := hb.size
          obtain ⟨w2, hw2, hz2', ho2, hb2⟩ := boxed ho hb (⟨#[97, 98, 99, 100, 101, 102, 103, 104, 105, 106, 107, 108, 109, 110, 111, 112, 113, 114, 115, 116, 117, 118, 119, 120, 121, 122, 65, 66, 67, 68, 69, 70, 71, 72, 73, 74, 75, 76, 77, 78, 79, 80, 81, 82, 83, 84, 85, 86, 87, 88, 89, 90, 48, 49, 50, 51, 52, 53, 54, 55, 56, 57]⟩ : ByteArray)
          rw [← hw2]
          clear hw2 ho hb hq KI KQ KN
          obtain ⟨i0, hi, hz0, hz1', hz2''⟩ := info_parts infoT
          go_wp2_with (at_builtin; refine wpList_append_own _ rfl (.tmp 64) (.tmp 69) 38 rfl W.heap.size 58 i0 (.agg #[.int .i64 0, .string ⟨#[]⟩, .int .i64 0]) 3 32 Try.underlying38 hi hz0 hz1' hz2'' rfl (by decide) _ _ _ rfl (ho2.alloc _) ⟨w2.heap.size, 0, none⟩ 1 1 [.int .i64 3, .string tt, .int .i64 p] rfl rfl ?c1r3 ?c2r3 ?c3r3 ?c4r3 ?c5r3 ?_)
          case c1r3 =>
            intro j u hj
            rw [Go.WideShapes.add_plain, Nat.zero_add, cell_of_row _ _ _ _ _ _ (heap_alloc_new w2 _), ← hj, ← Array.getElem?_toList]
          case c2r3 => intro u hu; simp at hu; rcases hu with rfl | rfl | rfl <;> rfl
          case c3r3 => unfold maxLen; omega
          case c4r3 => omega
          case c5r3 => simp; omega
          intro v' w3 hown' hgrow hnn'
          have hb' : Below W.heap.size W w3 := (hb2.alloc hz2' _).grown hgrow (by simp; omega) (fun k hk => (ho2.lt k hk).1)
          have hown2 := Lib.hid hown'
          clear hgrow ho2 hb2 hnn' hown'
          go_wp2_with fail
          refine ⟨⟨p + tt.size, k + 1, by go_num, by omega, by omega, HD.out, by rw [← HX.out]; exact hown2.out, hb'⟩, by simp [intOf]; omega⟩
        · clear HN
          have KQ := Lib.hid (fun m hm => KP.out wr.heap.size m hm (wr.alloc (.cells #[.string m] 9)) (by
            rw [cell_of_row _ _ _ _ _ _ (heap_alloc_new wr (.cells #[.string m] 9))]; rfl))
          clear KP
          go_wp2_with (go_at_call 29; (first | (with_reducible refine (KI.out _).hb.mono ?_) | (with_reducible refine (KI.out _).hf.mono ?_) | (with_reducible refine (KI.out _).hu.mono ?_) | (with_reducible refine (KI.out _).h2.mono ?_) | (with_reducible refine (KI.out _).h3.mono ?_) | (with_reducible refine (KI.out _).h4.mono ?_) | (with_reducible refine (KI.out _).h5.mono ?_) | (with_reducible refine (KI.out _).h6.mono ?_)); rintro e w1 ⟨rfl, rfl⟩)
          refine (KQ.out _ (by rfl)).mono ?_
          rintro e w1 ⟨rfl, rfl⟩
          go_wp2_with fail
          refine (KN.out _).mono ?_
          rintro e w1 ⟨rfl, rfl⟩
          have hq := hb.size
          obtain ⟨w2, hw2, hz2', ho2, hb2⟩ := boxed ho hb (⟨#[]⟩ : ByteArray)
          rw [← hw2]
          clear hw2 ho hb hq KI KQ KN
          obtain ⟨i0, hi, hz0, hz1', hz2''⟩ := info_parts infoT
          go_wp2_with (at_builtin; refine wpList_append_own _ rfl (.tmp 64) (.tmp 69) 38 rfl W.heap.size 58 i0 (.agg #[.int .i64 0, .string ⟨#[]⟩, .int .i64 0]) 3 32 Try.underlying38 hi hz0 hz1' hz2'' rfl (by decide) _ _ _ rfl (ho2.alloc _) ⟨w2.heap.size, 0, none⟩ 1 1 [.int .i64 4, .string tt, .int .i64 p] rfl rfl ?c1r4 ?c2r4 ?c3r4 ?c4r4 ?c5r4 ?_)
          case c1r4 =>
            intro j u hj
            rw [Go.WideShapes.add_plain, Nat.zero_add, cell_of_row _ _ _ _ _ _ (heap_alloc_new w2 _), ← hj, ← Array.getElem?_toList]
          case c2r4 => intro u hu; simp at hu; rcases hu with rfl | rfl | rfl <;> rfl
          case c3r4 => unfold maxLen; omega
          case c4r4 => omega
          case c5r4 => simp; omega
          intro v' w3 hown' hgrow hnn'
          have hb' : Below W.heap.size W w3 := (hb2.alloc hz2' _).grown hgrow (by simp; omega) (fun k hk => (ho2.lt k hk).1)
          have hown2 := Lib.hid hown'
          clear hgrow ho2 hb2 hnn' hown'
          go_wp2_with fail
          refine ⟨⟨p + tt.size, k + 1, by go_num, by omega, by omega, HD.out, by rw [← HX.out]; exact hown2.out, hb'⟩, by simp [intOf]; omega⟩
        · clear HN
          have KQ := Lib.hid (fun m hm => KP.out wr.heap.size m hm (wr.alloc (.cells #[.string m] 9)) (by
            rw [cell_of_row _ _ _ _ _ _ (heap_alloc_new wr (.cells #[.string m] 9))]; rfl))
          clear KP
          go_wp2_with (go_at_call 29; (first | (with_reducible refine (KI.out _).hb.mono ?_) | (with_reducible refine (KI.out _).hf.mono ?_) | (with_reducible refine (KI.out _).hu.mono ?_) | (with_reducible refine (KI.out _).h2.mono ?_) | (with_reducible refine (KI.out _).h3.mono ?_) | (with_reducible refine (KI.out _).h4.mono ?_) | (with_reducible refine (KI.out _).h5.mono ?_) | (with_reducible refine (KI.out _).h6.mono ?_)); rintro e w1 ⟨rfl, rfl⟩)
          refine (KQ.out _ (by rfl)).mono ?_
          rintro e w1 ⟨rfl, rfl⟩
          go_wp2_with fail
          refine (KN.out _).mono ?_
          rintro e w1 ⟨rfl, rfl⟩
          have hq := hb.size
          obtain ⟨w2, hw2, hz2', ho2, hb2⟩ := boxed ho hb (⟨#[]⟩ : ByteArray)
          rw [← hw2]
          clear hw2 ho hb hq KI KQ KN
          obtain ⟨i0, hi, hz0, hz1', hz2''⟩ := info_parts infoT
          go_wp2_with (at_builtin; refine wpList_append_own _ rfl (.tmp 64) (.tmp 69) 38 rfl W.heap.size 58 i0 (.agg #[.int .i64 0, .string ⟨#[]⟩, .int .i64 0]) 3 32 Try.underlying38 hi hz0 hz1' hz2'' rfl (by decide) _ _ _ rfl (ho2.alloc _) ⟨w2.heap.size, 0, none⟩ 1 1 [.int .i64 5, .string tt, .int .i64 p] rfl rfl ?c1r5 ?c2r5 ?c3r5 ?c4r5 ?c5r5 ?_)
          case c1r5 =>
            intro j u hj
            rw [Go.WideShapes.add_plain, Nat.zero_add, cell_of_row _ _ _ _ _ _ (heap_alloc_new w2 _), ← hj, ← Array.getElem?_toList]
          case c2r5 => intro u hu; simp at hu; rcases hu with rfl | rfl | rfl <;> rfl
          case c3r5 => unfold maxLen; omega
          case c4r5 => omega
          case c5r5 => simp; omega
          intro v' w3 hown' hgrow hnn'
          have hb' : Below W.heap.size W w3 := (hb2.alloc hz2' _).grown hgrow (by simp; omega) (fun k hk => (ho2.lt k hk).1)
          have hown2 := Lib.hid hown'
          clear hgrow ho2 hb2 hnn' hown'
          go_wp2_with fail
          refine ⟨⟨p + tt.size, k + 1, by go_num, by omega, by omega, HD.out, by rw [← HX.out]; exact hown2.out, hb'⟩, by simp [intOf]; omega⟩
        · clear HN
          have KQ := Lib.hid (fun m hm => KP.out wr.heap.size m hm (wr.alloc (.cells #[.string m] 9)) (by
            rw [cell_of_row _ _ _ _ _ _ (heap_alloc_new wr (.cells #[.string m] 9))]; rfl))
          clear KP
          go_wp2_with (go_at_call 29; (first | (with_reducible refine (KI.out _).hb.mono ?_) | (with_reducible refine (KI.out _).hf.mono ?_) | (with_reducible refine (KI.out _).hu.mono ?_) | (with_reducible refine (KI.out _).h2.mono ?_) | (with_reducible refine (KI.out _).h3.mono ?_) | (with_reducible refine (KI.out _).h4.mono ?_) | (with_reducible refine (KI.out _).h5.mono ?_) | (with_reducible refine (KI.out _).h6.mono ?_)); rintro e w1 ⟨rfl, rfl⟩)
          refine (KQ.out _ (by rfl)).mono ?_
          rintro e w1 ⟨rfl, rfl⟩
          go_wp2_with fail
          refine (KN.out _).mono ?_
          rintro e w1 ⟨rfl, rfl⟩
          have hq := hb.size
          obtain ⟨w2, hw2, hz2', ho2, hb2⟩ := boxed ho hb (⟨#[]⟩ : ByteArray)
          rw [← hw2]
          clear hw2 ho hb hq KI KQ KN
          obtain ⟨i0, hi, hz0, hz1', hz2''⟩ := info_parts infoT
          go_wp2_with (at_builtin; refine wpList_append_own _ rfl (.tmp 64) (.tmp 69) 38 rfl W.heap.size 58 i0 (.agg #[.int .i64 0, .string ⟨#[]⟩, .int .i64 0]) 3 32 Try.underlying38 hi hz0 hz1' hz2'' rfl (by decide) _ _ _ rfl (ho2.alloc _) ⟨w2.heap.size, 0, none⟩ 1 1 [.int .i64 6, .string tt, .int .i64 p] rfl rfl ?c1r6 ?c2r6 ?c3r6 ?c4r6 ?c5r6 ?_)
          case c1r6 =>
            intro j u hj
            rw [Go.WideShapes.add_plain, Nat.zero_add, cell_of_row _ _ _ _ _ _ (heap_alloc_new w2 _), ← hj, ← Array.getElem?_toList]
          case c2r6 => intro u hu; simp at hu; rcases hu with rfl | rfl | rfl <;> rfl
          case c3r6 => unfold maxLen; omega
          case c4r6 => omega
          case c5r6 => simp; omega
          intro v' w3 hown' hgrow hnn'
          have hb' : Below W.heap.size W w3 := (hb2.alloc hz2' _).grown hgrow (by simp; omega) (fun k hk => (ho2.lt k hk).1)
          have hown2 := Lib.hid hown'
          clear hgrow ho2 hb2 hnn' hown'
          go_wp2_with fail
          refine ⟨⟨p + tt.size, k + 1, by go_num, by omega, by omega, HD.out, by rw [← HX.out]; exact hown2.out, hb'⟩, by simp [intOf]; omega⟩
      · obtain ⟨vs, he'⟩ : ∃ vs, vs = e := ⟨_, rfl⟩
        clear he' vs
        subst he
        have KI : Hid (∀ w, Isks s[p] false false false false false false false false w) := Lib.hid (by
          intro w
          rcases hn with ⟨e, e2, e3, e4, e5, e6, eu, ef⟩ | ⟨e, e2, e3, e4, e5, e6, eu, ef⟩ | ⟨e, e2, e3, e4, e5, e6, eu, ef⟩ | ⟨e, e2, e3, e4, e5, e6, eu, ef⟩ | ⟨e, e2, e3, e4, e5, e6, eu, ef⟩ | ⟨e, e2, e3, e4, e5, e6, eu, ef⟩ | ⟨e, e2, e3, e4, e5, e6, eu, ef⟩ | ⟨e, e2, e3, e4, e5, e6, eu, ef⟩ | ⟨e, e2, e3, e4, e5, e6, eu, ef⟩
          · refine isks_is s[p] ?_ ef eu e2 e3 e4 e5 e6 w
            exact beq_false_of_ne (fun h => by rw [h] at hc; exact absurd hc (by decide))
          all_goals omega)
        clear hn hd hR hc hts
        go_wp2_with (go_at_call 29; (first | (with_reducible refine (KI.out _).hb.mono ?_) | (with_reducible refine (KI.out _).hf.mono ?_) | (with_reducible refine (KI.out _).hu.mono ?_) | (with_reducible refine (KI.out _).h2.mono ?_) | (with_reducible refine (KI.out _).h3.mono ?_) | (with_reducible refine (KI.out _).h4.mono ?_) | (with_reducible refine (KI.out _).h5.mono ?_) | (with_reducible refine (KI.out _).h6.mono ?_)); rintro e w1 ⟨rfl, rfl⟩)
        go_ret3
        exact LexEnd.bad (hb.alloc hb.size _)
      · subst he
        have hlen : s.size - p = t.length + 1 + r.length := by
          have := congrArg List.length hd
          rw [List.length_drop, List.length_cons, hl, List.length_append] at this
          simp at this
          omega
        have hsub : (s.extract p s.size).data.toList = s[p] :: t ++ r := by
          rw [extract_list, hd, hl, List.take_of_length_le (by simp; omega)]; rfl
        have hsz : (s.extract p s.size).size ≤ 9223372036854775807 := by
          have : (s.extract p s.size).data.toList.length = (s.extract p s.size).size := by simp
          rw [← this, hsub]; simp; omega
        have eb : (s[p] == 32) = false := beq_false_of_ne (fun h => by rw [h] at hc; exact absurd hc (by decide))
        have KN := fun w => Number_is (s[p] :: t) (by simp; omega) w
        rw [hnn] at KN
        replace KN := Lib.hid KN
        have KP := Lib.hid (fun (B : Nat) (m : ByteArray) (hm : m.data.toList = moreL 1) (w : World) (hc : w.cell? ⟨B, 0, none⟩ = some (.string m)) => part_is B 1 m (s.extract p s.size) s[p] t r hm hsub ht hst hsz w hc)
        rw [show (⟨(s[p] :: t).toArray⟩ : ByteArray) = tx (s[p] :: t) from rfl] at KP
        clear hd hR hl ht hst hnn hts hlen hsub hsz
        generalize tx (s[p] :: t) = tt at *
        generalize numT (s[p] :: t) = nt at *
        rcases hn with ⟨ec, e2, e3, e4, e5, e6, eu, ef⟩ | ⟨ec, e2, e3, e4, e5, e6, eu, ef⟩ | ⟨ec, e2, e3, e4, e5, e6, eu, ef⟩ | ⟨ec, e2, e3, e4, e5, e6, eu, ef⟩ | ⟨ec, e2, e3, e4, e5, e6, eu, ef⟩ | ⟨ec, e2, e3, e4, e5, e6, eu, ef⟩ | ⟨ec, e2, e3, e4, e5, e6, eu, ef⟩ | ⟨ec, e2, e3, e4, e5, e6, eu, ef⟩ | ⟨ec, e2, e3, e4, e5, e6, eu, ef⟩
        all_goals try omega
        all_goals
          have KI := Lib.hid (fun w => isks_is s[p] eb ef eu e2 e3 e4 e5 e6 w)
          clear hc ec e2 e3 e4 e5 e6 eu ef eb
          have KQ := Lib.hid (fun m hm => KP.out wr.heap.size m hm (wr.alloc (.cells #[.string m] 9)) (by
            rw [cell_of_row _ _ _ _ _ _ (heap_alloc_new wr (.cells #[.string m] 9))]; rfl))
          clear KP
          go_wp2_with (go_at_call 29; (first | (with_reducible refine (KI.out _).hb.mono ?_) | (with_reducible refine (KI.out _).hf.mono ?_) | (with_reducible refine (KI.out _).hu.mono ?_) | (with_reducible refine (KI.out _).h2.mono ?_) | (with_reducible refine (KI.out _).h3.mono ?_) | (with_reducible refine (KI.out _).h4.mono ?_) | (with_reducible refine (KI.out _).h5.mono ?_) | (with_reducible refine (KI.out _).h6.mono ?_)); rintro e w1 ⟨rfl, rfl⟩)
          refine (KQ.out _ (by rfl)).mono ?_
          rintro e w1 ⟨rfl, rfl⟩
          go_wp2_with fail
          refine (KN.out _).mono ?_
          rintro e w1 ⟨rfl, rfl⟩
          go_wp2_with fail
          go_ret3
          exact LexEnd.bad (hb.alloc hb.size _)
    · have hd := drop_end s p (by omega)
      rw [hd] at hR
      obtain ⟨hts, he⟩ := hR.inv_nil
      subst he
      have hke : k = ts.length := by
        have := congrArg List.length hts
        rw [List.length_drop] at this
        simp at this
        omega
      have e2 : ¬ (p : Int) < (s.size : Int) := by omega
      obtain ⟨a, c, rfl, hcap, hq⟩ := owns_qs ho
      subst hke
      clear hd hR hts ho
      go_wp2_with fail
      go_ret3
      exact LexEnd.ok hcap hq hb
end Go.Proofs.Ytafdogcanjcbmaa
/-
  Lex, of the reference: at every line.
-/
namespace Go.Proofs.Ytafdogcanjcbmaa
set_option linter.unusedVariables false
set_option linter.unusedSimpArgs false
open Go.RowKit

theorem extract_eq (s : ByteArray) (i j : Nat) (l : List UInt8) (h : (s.data.toList.drop i).take (j - i) = l) : s.extract i j = tx l := bytes_ext (by rw [extract_list, h]; rfl)
set_option maxHeartbeats 3200000 in
set_option maxRecDepth 10000 in
theorem rlex_is (s : ByteArray) (hs : s.size ≤ 256) (ts : List Tk) (e : Option Nat) (h : Run numB s.data.toList 0 ts e) (W : World) : Calls Try.prog 17 #[.string s] W (LexEnd ts e W) := by
  have h1 : ¬ (256 : Int) < (s.size : Int) := by omega
  have hn256 : ts.length ≤ 256 := by have := h.span.2; simp at this; omega
  have HR := Lib.hid h
  clear h
  go_enter Try.func17, Try.ntmps17
  go_wp2_with fail
  go_loopw [5, 6] (fun pv iv wr => ∃ p k : Nat, iv = .int .i64 p ∧ p ≤ s.size ∧ k ≤ ts.length ∧ Run numB (s.data.toList.drop p) p (ts.drop k) e ∧ wr.ownsRow W.heap.size 58 3 pv k (rvs (rtk ts) k) ∧ Below W.heap.size W wr) (fun _ iv _ => s.size - (intOf iv).toNat)
  case atStart => exact ⟨0, 0, rfl, by omega, by omega, HR.out, ⟨rfl, .inl ⟨rfl, rfl⟩⟩, Below.refl _ _⟩
  case round =>
    obtain ⟨p, k, rfl, hp, hk, hR, ho, hb⟩ := hrel
    by_cases hlt : p < s.size
    · have hd := drop_at s p hlt
      rw [hd] at hR
      have h32 : ∀ c : UInt8, cls c ≠ 7 → ((c.toNat : Int) == 32) = false := fun c hc => beq_false_of_ne (fun h => hc (by
        rw [show c = 32 from UInt8.toNat_inj.1 (by simp; omega)]; rfl))
      rcases hR.inv with ⟨hc, hr⟩ | ⟨t, r, us, hc1, hc6, hl, ht, hst, hnn, hts, hr⟩ | ⟨hc, hts, he⟩ | ⟨hc, t, r, hl, ht, hst, hnn, hts, he⟩
      · have e0 : s[p] = 32 := blank_is _ hc
        have e1 : (((s[p]).toNat : Int) == 32) = true := by rw [e0]; rfl
        have HD := Lib.hid hr
        clear hd hR hc hr e0 h32
        go_wp2_with fail
        refine ⟨⟨p + 1, k, by go_num, by omega, hk, HD.out, ho, hb⟩, by simp [intOf]; omega⟩
      · obtain ⟨hk1, rfl, hk3⟩ := drop_cons hts
        have hf := rtk_at hk1
        have e1 := h32 s[p] (by omega)
        have hlen : s.size - p = t.length + 1 + r.length := by
          have := congrArg List.length hd
          rw [List.length_drop, List.length_cons, hl, List.length_append] at this
          simp at this
          omega
        have hT : s.extract p (p + (t.length + 1)) = tx (s[p] :: t) := extract_eq _ _ _ _ (by
          rw [hd, hl, Nat.add_sub_cancel_left]
          exact List.take_left (l₁ := s[p] :: t))
        have KK := Lib.hid (fun (j : Nat) (hj : j < t.length + 1) (w : World) => (show Calls Try.prog 27 #[.string (s.extract p (p + j + 1))] w (IntEnd (cls s[p] : Nat) w) by
          have e2 : s.extract p (p + j + 1) = tx (s[p] :: t.take j) := extract_eq _ _ _ _ (by
            rw [hd, hl, show p + j + 1 - p = j + 1 by omega, List.take_succ_cons, List.take_append_of_le_length (by omega)])
          rw [e2]
          have := kind_is (s[p] :: t.take j) (by simp; omega) w
          rwa [kindL_yes rfl hc1 hc6 (fun x hx => ht x (List.mem_of_mem_take hx))] at this))
        have K0 := Lib.hid (fun (hj : p + (t.length + 1) < s.size) (w : World) => (show Calls Try.prog 27 #[.string (s.extract p (p + (t.length + 1) + 1))] w (IntEnd 0 w) by
          obtain ⟨d, r', rfl⟩ : ∃ d r', r = d :: r' := by
            cases r with
            | nil => simp at hlen; omega
            | cons d r' => exact ⟨d, r', rfl⟩
          have e2 : s.extract p (p + (t.length + 1) + 1) = tx (s[p] :: t ++ [d]) := extract_eq _ _ _ _ (by
            rw [hd, hl, show p + (t.length + 1) + 1 - p = (s[p] :: (t ++ [d])).length by simp; omega, show s[p] :: (t ++ d :: r') = s[p] :: (t ++ [d]) ++ r' by simp, List.take_left]; rfl)
          rw [e2]
          have := kind_is (s[p] :: t ++ [d]) (by simp; simp at hlen; omega) w
          rwa [kindL_no (t := t) rfl (hst d rfl)] at this))
        have KT := Lib.hid (fun (w : World) => (show Calls Try.prog 27 #[.string (tx (s[p] :: t))] w (IntEnd (cls s[p] : Nat) w) by
          have := kind_is (s[p] :: t) (by simp; omega) w
          rwa [kindL_yes rfl hc1 hc6 ht] at this))
        have hrest : s.data.toList.drop (p + (t.length + 1)) = r := by
          rw [← List.drop_drop, hd, hl]
          exact List.drop_left (l₁ := s[p] :: t)
        have KN := Lib.hid (fun w => rNumber_is (s[p] :: t) (by simp; omega) w)
        have HX := Lib.hid (show rvs (rtk ts) k ++ [.int .i64 (cls s[p]), .string (tx (s[p] :: t)), .int .i64 p] = rvs (rtk ts) (k + 1) by
          show _ = rvs (rtk ts) k ++ (rtk ts k).cells
          rw [hf]; rfl)
        have HD : Hid (Run numB (s.data.toList.drop (p + (t.length + 1))) (p + (t.length + 1)) (ts.drop (k + 1)) e) := Lib.hid (by rw [hrest]; exact hr)
        have hz1 : 1 ≤ t.length + 1 := by omega
        have hz2 : p + (t.length + 1) ≤ s.size := by omega
        have HN : Hid ((cls s[p] : Int) = 1 → numB (s[p] :: t) = true) := Lib.hid (fun h => hnn (by omega))
        have hv1 : (1 : Int) ≤ (cls s[p] : Int) := by omega
        rw [← hT] at KT KN HX
        clear hd hR hl ht hst hnn hts hr hk1 hf hlen hrest hc1 hc6 hT h32
        generalize rvs (rtk ts) k = xs at *
        generalize numB (s[p] :: t) = nb at *
        generalize numT (s[p] :: t) = nt at *
        generalize (cls s[p] : Int) = z at *
        generalize t.length + 1 = m at *
        go_wp2_with fail
        go_loop [7] (fun nv => ∃ j : Nat, nv = .int .i64 j ∧ j ≤ m) (fun nv => m - (intOf nv).toNat)
        case atStart => exact ⟨0, rfl, by omega⟩
        case round =>
          obtain ⟨j, rfl, hj⟩ := hrel
          by_cases hj2 : j < m
          · have e3 : (p : Int) + (j : Int) < (s.size : Int) := by omega
            have K1 := Lib.hid (KK.out j hj2)
            go_wp2_with fail
            refine (K1.out _).mono ?_
            rintro e w1 ⟨rfl, rfl⟩
            go_wp2_with fail
            go_round
            case rel => exact ⟨j + 1, by go_num, by omega⟩
            case measure => simp [intOf]; omega
          · obtain rfl : j = m := by omega
            have e5 : ((j : Int) == 0) = false := beq_false_of_ne (by omega)
            clear hj2
            by_cases e3 : p + j < s.size
            · have e4 : (p : Int) + (j : Int) < (s.size : Int) := by omega
              have K1 := Lib.hid (K0.out e3 wr)
              by_cases hz : z = 1
              · subst hz
                obtain rfl : nb = true := HN.out rfl
                clear HN
                go_wp2_with fail
                refine K1.out.mono ?_
                rintro e w1 ⟨rfl, rfl⟩
                go_wp2_with fail
                refine (KN.out _).mono ?_
                rintro e w1 ⟨rfl, rfl⟩
                go_wp2_with fail
                refine (KT.out _).mono ?_
                rintro e w1 ⟨rfl, rfl⟩
                go_wp2_with fail
                refine (KT.out _).mono ?_
                rintro e w1 ⟨rfl, rfl⟩
                clear KN KT K0 KK
                obtain ⟨i0, hi, hz0, hz1', hz2''⟩ := info_parts infoT
                go_wp2_with (at_builtin; refine wpList_append_own _ rfl (.tmp 66) (.tmp 72) 38 rfl W.heap.size 58 i0 (.agg #[.int .i64 0, .string ⟨#[]⟩, .int .i64 0]) 3 32 Try.underlying38 hi hz0 hz1' hz2'' rfl (by decide) _ _ _ rfl (ho.alloc _) ⟨wr.heap.size, 0, none⟩ 1 1 [.int .i64 1, .string (s.extract p (p + j)), .int .i64 p] rfl rfl ?c1pa ?c2pa ?c3pa ?c4pa ?c5pa ?_)
                case c1pa =>
                  intro i u hj
                  rw [Go.WideShapes.add_plain, Nat.zero_add, cell_of_row _ _ _ _ _ _ (heap_alloc_new wr _), ← hj, ← Array.getElem?_toList]
                case c2pa => intro u hu; simp at hu; rcases hu with rfl | rfl | rfl <;> rfl
                case c3pa => unfold maxLen; omega
                case c4pa => omega
                case c5pa => have := hb.size; simp; omega
                intro v' w3 hown' hgrow hnn'
                have hb' : Below W.heap.size W w3 := (hb.alloc hb.size _).grown hgrow (by have := hb.size; simp; omega) (fun k hk => (ho.lt k hk).1)
                have hown2 := Lib.hid hown'
                clear hgrow ho hb hnn' hown'
                go_wp2_with fail
                refine ⟨⟨p + j, k + 1, by go_num, by omega, by omega, HD.out, by rw [← HX.out]; exact hown2.out, hb'⟩, by simp [intOf]; omega⟩
              · have hz3 : (z == 1) = false := beq_false_of_ne hz
                clear HN hz
                go_wp2_with fail
                refine K1.out.mono ?_
                rintro e w1 ⟨rfl, rfl⟩
                go_wp2_with fail
                refine (KN.out _).mono ?_
                rintro e w1 ⟨rfl, rfl⟩
                go_wp2_with fail
                refine (KT.out _).mono ?_
                rintro e w1 ⟨rfl, rfl⟩
                go_wp2_with fail
                refine (KT.out _).mono ?_
                rintro e w1 ⟨rfl, rfl⟩
                clear KN KT K0 KK
                obtain ⟨i0, hi, hz0, hz1', hz2''⟩ := info_parts infoT
                go_wp2_with (at_builtin; refine wpList_append_own _ rfl (.tmp 66) (.tmp 72) 38 rfl W.heap.size 58 i0 (.agg #[.int .i64 0, .string ⟨#[]⟩, .int .i64 0]) 3 32 Try.underlying38 hi hz0 hz1' hz2'' rfl (by decide) _ _ _ rfl (ho.alloc _) ⟨wr.heap.size, 0, none⟩ 1 1 [.int .i64 z, .string (s.extract p (p + j)), .int .i64 p] rfl rfl ?c1pb ?c2pb ?c3pb ?c4pb ?c5pb ?_)
                case c1pb =>
                  intro i u hj
                  rw [Go.WideShapes.add_plain, Nat.zero_add, cell_of_row _ _ _ _ _ _ (heap_alloc_new wr _), ← hj, ← Array.getElem?_toList]
                case c2pb => intro u hu; simp at hu; rcases hu with rfl | rfl | rfl <;> rfl
                case c3pb => unfold maxLen; omega
                case c4pb => omega
                case c5pb => have := hb.size; simp; omega
                intro v' w3 hown' hgrow hnn'
                have hb' : Below W.heap.size W w3 := (hb.alloc hb.size _).grown hgrow (by have := hb.size; simp; omega) (fun k hk => (ho.lt k hk).1)
                have hown2 := Lib.hid hown'
                clear hgrow ho hb hnn' hown'
                go_wp2_with fail
                refine ⟨⟨p + j, k + 1, by go_num, by omega, by omega, HD.out, by rw [← HX.out]; exact hown2.out, hb'⟩, by simp [intOf]; omega⟩
            · have e4 : ¬ (p : Int) + (j : Int) < (s.size : Int) := by omega
              by_cases hz : z = 1
              · subst hz
                obtain rfl : nb = true := HN.out rfl
                clear HN
                go_wp2_with fail
                refine (KN.out _).mono ?_
                rintro e w1 ⟨rfl, rfl⟩
                go_wp2_with fail
                refine (KT.out _).mono ?_
                rintro e w1 ⟨rfl, rfl⟩
                go_wp2_with fail
                refine (KT.out _).mono ?_
                rintro e w1 ⟨rfl, rfl⟩
                clear KN KT K0 KK
                obtain ⟨i0, hi, hz0, hz1', hz2''⟩ := info_parts infoT
                go_wp2_with (at_builtin; refine wpList_append_own _ rfl (.tmp 66) (.tmp 72) 38 rfl W.heap.size 58 i0 (.agg #[.int .i64 0, .string ⟨#[]⟩, .int .i64 0]) 3 32 Try.underlying38 hi hz0 hz1' hz2'' rfl (by decide) _ _ _ rfl (ho.alloc _) ⟨wr.heap.size, 0, none⟩ 1 1 [.int .i64 1, .string (s.extract p (p + j)), .int .i64 p] rfl rfl ?c1qa ?c2qa ?c3qa ?c4qa ?c5qa ?_)
                case c1qa =>
                  intro i u hj
                  rw [Go.WideShapes.add_plain, Nat.zero_add, cell_of_row _ _ _ _ _ _ (heap_alloc_new wr _), ← hj, ← Array.getElem?_toList]
                case c2qa => intro u hu; simp at hu; rcases hu with rfl | rfl | rfl <;> rfl
                case c3qa => unfold maxLen; omega
                case c4qa => omega
                case c5qa => have := hb.size; simp; omega
                intro v' w3 hown' hgrow hnn'
                have hb' : Below W.heap.size W w3 := (hb.alloc hb.size _).grown hgrow (by have := hb.size; simp; omega) (fun k hk => (ho.lt k hk).1)
                have hown2 := Lib.hid hown'
                clear hgrow ho hb hnn' hown'
                go_wp2_with fail
                refine ⟨⟨p + j, k + 1, by go_num, by omega, by omega, HD.out, by rw [← HX.out]; exact hown2.out, hb'⟩, by simp [intOf]; omega⟩
              · have hz3 : (z == 1) = false := beq_false_of_ne hz
                clear HN hz
                go_wp2_with fail
                refine (KN.out _).mono ?_
                rintro e w1 ⟨rfl, rfl⟩
                go_wp2_with fail
                refine (KT.out _).mono ?_
                rintro e w1 ⟨rfl, rfl⟩
                go_wp2_with fail
                refine (KT.out _).mono ?_
                rintro e w1 ⟨rfl, rfl⟩
                clear KN KT K0 KK
                obtain ⟨i0, hi, hz0, hz1', hz2''⟩ := info_parts infoT
                go_wp2_with (at_builtin; refine wpList_append_own _ rfl (.tmp 66) (.tmp 72) 38 rfl W.heap.size 58 i0 (.agg #[.int .i64 0, .string ⟨#[]⟩, .int .i64 0]) 3 32 Try.underlying38 hi hz0 hz1' hz2'' rfl (by decide) _ _ _ rfl (ho.alloc _) ⟨wr.heap.size, 0, none⟩ 1 1 [.int .i64 z, .string (s.extract p (p + j)), .int .i64 p] rfl rfl ?c1qb ?c2qb ?c3qb ?c4qb ?c5qb ?_)
                case c1qb =>
                  intro i u hj
                  rw [Go.WideShapes.add_plain, Nat.zero_add, cell_of_row _ _ _ _ _ _ (heap_alloc_new wr _), ← hj, ← Array.getElem?_toList]
                case c2qb => intro u hu; simp at hu; rcases hu with rfl | rfl | rfl <;> rfl
                case c3qb => unfold maxLen; omega
                case c4qb => omega
                case c5qb => have := hb.size; simp; omega
                intro v' w3 hown' hgrow hnn'
                have hb' : Below W.heap.size W w3 := (hb.alloc hb.size _).grown hgrow (by have := hb.size; simp; omega) (fun k hk => (ho.lt k hk).1)
                have hown2 := Lib.hid hown'
                clear hgrow ho hb hnn' hown'
                go_wp2_with fail
                refine ⟨⟨p + j, k + 1, by go_num, by omega, by omega, HD.out, by rw [← HX.out]; exact hown2.out, hb'⟩, by simp [intOf]; omega⟩
      · subst he
        have e1 := h32 s[p] (by omega)
        have K1 := Lib.hid (fun (w : World) => (show Calls Try.prog 27 #[.string (s.extract p (p + 1))] w (IntEnd 0 w) by
          have e2 : s.extract p (p + 1) = tx [s[p]] := extract_eq _ _ _ _ (by
            rw [hd, Nat.add_sub_cancel_left]; rfl)
          rw [e2]
          have := kind_is [s[p]] (by simp) w
          rwa [kindL_bad (.inl hc)] at this))
        have KN := Lib.hid (fun (w : World) => (show Calls Try.prog 28 #[.string ByteArray.empty] w (PairEnd [] false w) by
          rw [show ByteArray.empty = tx [] from rfl]
          have := rNumber_is [] (by simp) w
          rwa [show numB [] = false by decide, show numT [] = [] by decide] at this))
        have e3 : (p : Int) < (s.size : Int) := by omega
        clear hd hR hc hts h32
        go_wp2_with fail
        go_loop [7] (fun nv => nv = .int .i64 0) (fun nv => 0)
        case atStart => rfl
        case round =>
          subst hrel
          go_wp2_with fail
          refine (K1.out _).mono ?_
          rintro e w1 ⟨rfl, rfl⟩
          go_wp2_with fail
          refine (KN.out _).mono ?_
          rintro e w1 ⟨rfl, rfl⟩
          go_wp2_with fail
          go_ret3
          exact LexEnd.bad hb
      · subst he
        have e1 := h32 s[p] (by omega)
        have hlen : s.size - p = t.length + 1 + r.length := by
          have := congrArg List.length hd
          rw [List.length_drop, List.length_cons, hl, List.length_append] at this
          simp at this
          omega
        have hT : s.extract p (p + (t.length + 1)) = tx (s[p] :: t) := extract_eq _ _ _ _ (by
          rw [hd, hl, Nat.add_sub_cancel_left]
          exact List.take_left (l₁ := s[p] :: t))
        have KK := Lib.hid (fun (j : Nat) (hj : j < t.length + 1) (w : World) => (show Calls Try.prog 27 #[.string (s.extract p (p + j + 1))] w (IntEnd 1 w) by
          have e2 : s.extract p (p + j + 1) = tx (s[p] :: t.take j) := extract_eq _ _ _ _ (by
            rw [hd, hl, show p + j + 1 - p = j + 1 by omega, List.take_succ_cons, List.take_append_of_le_length (by omega)])
          rw [e2]
          have := kind_is (s[p] :: t.take j) (by simp; omega) w
          rwa [kindL_yes hc (by omega) (by omega) (fun x hx => ht x (List.mem_of_mem_take hx))] at this))
        have K0 := Lib.hid (fun (hj : p + (t.length + 1) < s.size) (w : World) => (show Calls Try.prog 27 #[.string (s.extract p (p + (t.length + 1) + 1))] w (IntEnd 0 w) by
          obtain ⟨d, r', rfl⟩ : ∃ d r', r = d :: r' := by
            cases r with
            | nil => simp at hlen; omega
            | cons d r' => exact ⟨d, r', rfl⟩
          have e2 : s.extract p (p + (t.length + 1) + 1) = tx (s[p] :: t ++ [d]) := extract_eq _ _ _ _ (by
            rw [hd, hl, show p + (t.length + 1) + 1 - p = (s[p] :: (t ++ [d])).length by simp; omega, show s[p] :: (t ++ d :: r') = s[p] :: (t ++ [d]) ++ r' by simp, List.take_left]; rfl)
          rw [e2]
          have := kind_is (s[p] :: t ++ [d]) (by simp; simp at hlen; omega) w
          rwa [kindL_no (t := t) hc (hst d rfl)] at this))
        have KT := Lib.hid (fun (w : World) => (show Calls Try.prog 27 #[.string (tx (s[p] :: t))] w (IntEnd 1 w) by
          have := kind_is (s[p] :: t) (by simp; omega) w
          rwa [kindL_yes hc (by omega) (by omega) ht] at this))
        have KN := fun w => rNumber_is (s[p] :: t) (by simp; omega) w
        rw [hnn] at KN
        replace KN := Lib.hid KN
        have hz1 : 1 ≤ t.length + 1 := by omega
        have hz2 : p + (t.length + 1) ≤ s.size := by omega
        rw [← hT] at KT KN
        clear hd hR hl ht hst hnn hts hlen hc hT h32
        generalize numT (s[p] :: t) = nt at *
        generalize t.length + 1 = m at *
        go_wp2_with fail
        go_loop [7] (fun nv => ∃ j : Nat, nv = .int .i64 j ∧ j ≤ m) (fun nv => m - (intOf nv).toNat)
        case atStart => exact ⟨0, rfl, by omega⟩
        case round =>
          obtain ⟨j, rfl, hj⟩ := hrel
          by_cases hj2 : j < m
          · have e3 : (p : Int) + (j : Int) < (s.size : Int) := by omega
            have K1 := Lib.hid (KK.out j hj2)
            go_wp2_with fail
            refine (K1.out _).mono ?_
            rintro e w1 ⟨rfl, rfl⟩
            go_wp2_with fail
            go_round
            case rel => exact ⟨j + 1, by go_num, by omega⟩
            case measure => simp [intOf]; omega
          · obtain rfl : j = m := by omega
            have e5 : ((j : Int) == 0) = false := beq_false_of_ne (by omega)
            clear hj2
            by_cases e3 : p + j < s.size
            · have e4 : (p : Int) + (j : Int) < (s.size : Int) := by omega
              have K1 := Lib.hid (K0.out e3 wr)
              go_wp2_with fail
              refine K1.out.mono ?_
              rintro e w1 ⟨rfl, rfl⟩
              go_wp2_with fail
              refine (KN.out _).mono ?_
              rintro e w1 ⟨rfl, rfl⟩
              go_wp2_with fail
              refine (KT.out _).mono ?_
              rintro e w1 ⟨rfl, rfl⟩
              go_wp2_with fail
              go_ret3
              exact LexEnd.bad hb
            · have e4 : ¬ (p : Int) + (j : Int) < (s.size : Int) := by omega
              go_wp2_with fail
              refine (KN.out _).mono ?_
              rintro e w1 ⟨rfl, rfl⟩
              go_wp2_with fail
              refine (KT.out _).mono ?_
              rintro e w1 ⟨rfl, rfl⟩
              go_wp2_with fail
              go_ret3
              exact LexEnd.bad hb
    · have hd := drop_end s p (by omega)
      rw [hd] at hR
      obtain ⟨hts, he⟩ := hR.inv_nil
      subst he
      have hke : k = ts.length := by
        have := congrArg List.length hts
        rw [List.length_drop] at this
        simp at this
        omega
      have e2 : ¬ (p : Int) < (s.size : Int) := by omega
      obtain ⟨a, c, rfl, hcap, hq⟩ := owns_qs ho
      subst hke
      clear hd hR hts ho
      go_wp2_with fail
      go_ret3
      exact LexEnd.ok hcap hq hb
end Go.Proofs.Ytafdogcanjcbmaa
/-
  Lines put together of lines: their parts, and what is read of them, plainly. (Imports nothing of the program.)
-/
namespace Go.Proofs.Ytafdogcanjcbmaa
set_option linter.unusedVariables false
set_option linter.unusedSimpArgs false
variable {N : List UInt8 → Bool} {M : List UInt8 → List UInt8}

def Tk.pk (t : Tk) : Pk := ⟨t.kind, t.text, t.at_⟩
def Pk.up (m : Nat) (q : Pk) : Pk := ⟨q.k, q.t, q.p + m⟩
theorem pk_up (m : Nat) (ts : List Tk) : (ts.map (Tk.up m)).map Tk.pk = (ts.map Tk.pk).map (Pk.up m) := by
  rw [List.map_map, List.map_map]
  exact List.map_congr_left fun t _ => by simp [Tk.pk, Tk.up, Pk.up]
/-- Nothing goes on with this byte. -/
def Cuts (c : UInt8) : Prop := ∀ k, (moreL k).contains c = false
theorem cuts_of : ∀ c, (cls c == 4 || cls c == 5 || cls c == 6) = true → ((moreL 1).contains c = false ∧ (moreL 2).contains c = false ∧ (moreL 3).contains c = false) := all_u8 (by decide +kernel)
theorem cuts {c : UInt8} (h : (cls c == 4 || cls c == 5 || cls c == 6) = true) : Cuts c
  | 0 => rfl
  | 1 => (cuts_of c h).1
  | 2 => (cuts_of c h).2.1
  | 3 => (cuts_of c h).2.2
  | _ + 4 => rfl
theorem Stop.onto {k : Nat} {r : List UInt8} (h : Stop k r) {c : UInt8} (hc : Cuts c) (b : List UInt8) : Stop k (r ++ c :: b) := by
  cases r with
  | nil => exact .cons (hc k)
  | cons d r => exact .cons (h d rfl)
/-- A line, and one behind it that begins so that nothing goes on with it. -/
theorem Run.onto {a : List UInt8} {p : Nat} {ts : List Tk} {e : Option Nat} (h : Run N a p ts e) (he : e = none) {c : UInt8} {b : List UInt8} (hc : Cuts c) {us : List Tk} {f : Option Nat} :
    Run N (c :: b) (p + a.length) us f → Run N (a ++ c :: b) p (ts ++ us) f := by
  induction h with
  | nil p => exact fun hb => hb
  | @blank d l p ts e h hr ih =>
    intro hb
    exact .blank h (ih he (by rw [show p + 1 + l.length = p + (d :: l).length by simp; omega]; exact hb))
  | @part k d t r p ts e h h1 h6 ht hs hn hr ih =>
    intro hb
    rw [List.append_assoc]
    exact .part h h1 h6 ht (hs.onto hc b) hn (ih he (by rw [show p + (t.length + 1) + r.length = p + (d :: t ++ r).length by simp; omega]; exact hb))
  | bad h => cases he
  | figs h ht hs hn => cases he
/-- One byte that is a part, if what is behind doesn't go on with it. -/
theorem Run.byte {k : Nat} {c : UInt8} {r : List UInt8} {p : Nat} {ts : List Tk} {e : Option Nat} (h : cls c = k) (h1 : 1 ≤ k) (h6 : k ≤ 6) (hs : Stop k r) (hn : k = 1 → N [c] = true) (hr : Run N r (p + 1) ts e) : Run N (c :: r) p (⟨k, [c], p⟩ :: ts) e :=
  Run.part (t := []) h h1 h6 (fun x hx => by cases hx) hs hn hr
theorem Run.own {k : Nat} {c : UInt8} {r : List UInt8} {p : Nat} {ts : List Tk} {e : Option Nat} (h : cls c = k) (h4 : 4 ≤ k) (h6 : k ≤ 6) (hr : Run N r (p + 1) ts e) : Run N (c :: r) p (⟨k, [c], p⟩ :: ts) e :=
  .byte h (by omega) h6 (fun d _ => by rw [more_big h4]; rfl) (fun e => by omega) hr
theorem Stop.of {k : Nat} {c : UInt8} (h : Cuts c) (b : List UInt8) : Stop k (c :: b) := .cons (h k)
section
variable {s : List UInt8} {ts : List Tk} {L : List Tn} (h : Run N s 0 ts none) (hl : Rd' M .expr (ts.map Tk.pk) (some L) [])
include hl in
theorem moved (m : Nat) : Rd' M .expr ((ts.map (Tk.up m)).map Tk.pk) (some L) [] := by
  rw [pk_up]
  exact hl.map (f := Pk.up m) (fun _ => rfl) (fun _ => rfl)
include h in
theorem run_up (m : Nat) : Run N s m (ts.map (Tk.up m)) none := by
  have := h.up m
  rwa [Nat.zero_add] at this
/-- A line, and a mark behind it. -/
theorem run_mark {c : UInt8} {b : List UInt8} {m : Nat} (hc : cls c = 6) (h : Run N s m ts none) {us : List Tk} (hb : Run N b (m + s.length + 1) us none) : Run N (s ++ c :: b) m (ts ++ ⟨6, [c], m + s.length⟩ :: us) none :=
  h.onto rfl (cuts (by rw [hc]; rfl)) (.own hc (by decide) (by decide) hb)
include h hl in
theorem in_paren : ∃ us, Run N (40 :: (s ++ [41])) 0 us none ∧ Ln M (us.map Tk.pk) (some L) [] := by
  refine ⟨_, .own (k := 6) (by decide) (by decide) (by decide) (run_mark (c := 41) (by decide) (run_up h 1) (.nil _)), ?_⟩
  rw [List.map_cons, List.map_append]
  exact line_paren (moved hl 1) rfl rfl rfl rfl
include h hl in
theorem in_index : ∃ us, Run N (97 :: 91 :: (s ++ [93])) 0 us none ∧ Ln M (us.map Tk.pk) (some (⟨8, [], [], [], []⟩ :: ([⟨2, [], [], [97], []⟩] ++ L))) [] := by
  refine ⟨_, .byte (k := 2) (by decide) (by decide) (by decide) (.of (cuts (by decide)) _) (fun e => by cases e) (.own (k := 6) (by decide) (by decide) (by decide) (run_mark (c := 93) (by decide) (run_up h 2) (.nil _))), ?_⟩
  rw [List.map_cons, List.map_cons, List.map_append]
  exact line_index (moved hl 2) rfl rfl rfl rfl rfl
include h hl in
theorem in_assign : ∃ us, Run N (97 :: 58 :: s) 0 us none ∧ Ln M (us.map Tk.pk) (some (⟨5, [], [], [97], []⟩ :: L)) [] := by
  refine ⟨_, .byte (k := 2) (by decide) (by decide) (by decide) (.of (cuts (by decide)) _) (fun e => by cases e) (.own (k := 6) (by decide) (by decide) (by decide) (run_up h 2)), ?_⟩
  rw [List.map_cons, List.map_cons]
  exact line_assign (moved hl 2) rfl rfl rfl
include h hl in
theorem in_define : ∃ us, Run N (70 :: 58 :: 123 :: (s ++ [125])) 0 us none ∧ Ln M (us.map Tk.pk) (some (⟨7, [], [], [70], []⟩ :: L)) [] := by
  refine ⟨_, .byte (k := 3) (by decide) (by decide) (by decide) (.of (cuts (by decide)) _) (fun e => by cases e) (.own (k := 6) (by decide) (by decide) (by decide) (.own (k := 6) (by decide) (by decide) (by decide) (run_mark (c := 125) (by decide) (run_up h 3) (.nil _)))), ?_⟩
  rw [List.map_cons, List.map_cons, List.map_cons, List.map_append]
  exact line_define (moved hl 3) rfl rfl rfl rfl rfl rfl rfl
include h hl in
theorem in_monad {v : UInt8} (hv : cls v = 4) : ∃ us, Run N (v :: s) 0 us none ∧ Ln M (us.map Tk.pk) (some (⟨3, [v], [], [], []⟩ :: L)) [] := by
  refine ⟨_, .own hv (by decide) (by decide) (run_up h 1), ?_⟩
  rw [List.map_cons]
  exact line_monad (moved hl 1) rfl
include h hl in
theorem in_dyad {v : UInt8} (hv : cls v = 4) (h7 : N [55] = true) : ∃ us, Run N (55 :: v :: s) 0 us none ∧ Ln M (us.map Tk.pk) (some (⟨4, [v], [], [], []⟩ :: ([⟨1, [], [], [], [M [55]]⟩] ++ L))) [] := by
  refine ⟨_, .byte (k := 1) (by decide) (by decide) (by decide) (.of (cuts (by rw [hv]; rfl)) _) (fun _ => h7) (.own hv (by decide) (by decide) (run_up h 2)), ?_⟩
  rw [List.map_cons, List.map_cons]
  exact line_dyad (moved hl 2) rfl rfl
include h hl in
theorem in_dyad_adv {v : UInt8} (hv : cls v = 4) (h7 : N [55] = true) : ∃ us, Run N (55 :: v :: 39 :: s) 0 us none ∧ Ln M (us.map Tk.pk) (some (⟨4, [v], [39], [], []⟩ :: ([⟨1, [], [], [], [M [55]]⟩] ++ L))) [] := by
  refine ⟨_, .byte (k := 1) (by decide) (by decide) (by decide) (.of (cuts (by rw [hv]; rfl)) _) (fun _ => h7) (.own hv (by decide) (by decide) (.own (k := 5) (by decide) (by decide) (by decide) (run_up h 3))), ?_⟩
  rw [List.map_cons, List.map_cons, List.map_cons]
  exact line_dyad_adv (moved hl 3) rfl rfl rfl rfl
include h hl in
theorem in_two {s2 : List UInt8} {ts2 : List Tk} {K : List Tn} (h2 : Run N s2 0 ts2 none) (hl2 : Rd' M .expr (ts2.map Tk.pk) (some K) []) (h1 : N [49] = true) :
    ∃ us, Run N (49 :: 43 :: 113 :: 91 :: (s ++ 93 :: 91 :: (s2 ++ [93]))) 0 us none ∧ Ln M (us.map Tk.pk) (some (⟨4, [43], [], [], []⟩ :: ([⟨1, [], [], [], [M [49]]⟩] ++ (⟨8, [], [], [], []⟩ :: ((⟨8, [], [], [], []⟩ :: ([⟨2, [], [], [113], []⟩] ++ L)) ++ K))))) [] := by
  refine ⟨_, .byte (k := 1) (by decide) (by decide) (by decide) (.of (cuts (by decide)) _) (fun _ => h1) (.own (k := 4) (by decide) (by decide) (by decide) (.byte (k := 2) (by decide) (by decide) (by decide) (.of (cuts (by decide)) _) (fun e => by cases e) (.own (k := 6) (by decide) (by decide) (by decide) (run_mark (c := 93) (by decide) (run_up h 4) (.own (k := 6) (by decide) (by decide) (by decide) (run_mark (c := 93) (by decide) (run_up h2 _) (.nil _))))))), ?_⟩
  rw [List.map_cons, List.map_cons, List.map_cons, List.map_cons, List.map_append, List.map_cons, List.map_cons, List.map_append]
  exact line_two (moved hl 4) (moved hl2 _) rfl rfl rfl rfl rfl rfl rfl rfl rfl rfl rfl
end
/-- Behind a line in which something fails there may stand what there may: a part of it fails, or one of the line. -/
theorem behind {s : List UInt8} {ts : List Tk} (h : Run N s 0 ts none) {x : Option (List Tn)} {r : List Pk} (hl : Ln M (ts.map Tk.pk) x r) (hr : r ≠ []) (b : List UInt8) :
    ∃ us f, Run N (s ++ 32 :: b) 0 (ts ++ us) f ∧ Ln M ((ts ++ us).map Tk.pk) x (r ++ us.map Tk.pk) := by
  obtain ⟨us, f, g⟩ := Run.any N b (0 + s.length + 1)
  refine ⟨us, f, h.app_blank rfl g, ?_⟩
  rw [List.map_append]
  exact hl.app hr _
end Go.Proofs.Ytafdogcanjcbmaa

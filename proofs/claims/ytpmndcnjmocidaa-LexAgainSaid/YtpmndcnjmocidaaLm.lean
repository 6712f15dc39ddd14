/-
  LexBlanks at every two texts.
-/
import Derived.Test.YtpmndcnjmocidaaLl
import Derived.IntWalk
namespace Go.Proofs.Ytpmndcnjmocidaa
open Go.RowKit

theorem Run.place {N : List UInt8 → Bool} {a : List UInt8} {ts : List Tk} {e : Option Nat} (h : Run N a 0 ts e) (j : Nat) (hj : j < ts.length) : 0 ≤ (rtk ts j).p ∧ (rtk ts j).p ≤ (a.length : Int) := by
  have hp := h.placed (s := a) rfl
  have h1 : ts[j]? = some ts[j] := List.getElem?_eq_getElem hj
  rw [rtk_at h1]
  have key : ∀ (us : List Tk) (q : Nat), Placed a q us → ∀ t ∈ us, t.at_ ≤ a.length := by
    intro us
    induction us with
    | nil => intro q _ t ht; cases ht
    | cons u us ih =>
      intro q hq t ht
      rcases List.mem_cons.1 ht with rfl | ht
      · have := hq.1.2.1; omega
      · exact ih _ hq.2 t ht
  have := key ts 0 hp ts[j] (List.getElem_mem hj)
  exact ⟨Int.natCast_nonneg _, by show (ts[j].at_ : Int) ≤ _; omega⟩
theorem rtk_app {ts us : List Tk} {j : Nat} (h : j < ts.length) : rtk (ts ++ us) j = rtk ts j := by
  unfold rtk
  rw [List.getElem?_append_left h]
theorem rtk_up {ts us : List Tk} {m j : Nat} (h : j < us.length) : rtk (ts ++ us.map (Tk.up m)) (ts.length + j) = ⟨(rtk us j).k, (rtk us j).x, (rtk us j).p + m⟩ := by
  have h1 : us[j]? = some us[j] := List.getElem?_eq_getElem h
  have h2 : (ts ++ us.map (Tk.up m))[ts.length + j]? = some (us[j].up m) := by
    rw [List.getElem?_append_right (by omega), Nat.add_sub_cancel_left, List.getElem?_map, h1]; rfl
  rw [rtk_at h2, rtk_at h1]
  show (⟨_, _, ((us[j].at_ + m : Nat) : Int)⟩ : Rt) = _
  rw [Int.natCast_add]; rfl
set_option maxHeartbeats 6400000 in
set_option maxRecDepth 100000 in
theorem blanks_any (s m : ByteArray) (hs : s.size ≤ 4611686018427387903) (hm : m.size ≤ 4611686018427387903) (W : World) : Calls Try.prog 6 #[.string s, .string m] W (TrueEnd W) := by
  have KS := Lib.hid (fun w => shown_is w)
  have hz0 : (0 : Int) ≤ (s.size : Int) := Int.natCast_nonneg _
  have hz1 : (0 : Int) ≤ (m.size : Int) := Int.natCast_nonneg _
  by_cases hz : s.size + m.size ≤ 255
  · have e1 : ¬ (255 : Int) < (s.size : Int) + (m.size : Int) := by omega
    obtain ⟨ts, e, hR, hL, -⟩ := Lex_any s (by omega)
    obtain ⟨us, f, hR2, hL2, -⟩ := Lex_any m (by omega)
    have hsz2 : (s ++ (⟨#[32]⟩ : ByteArray) ++ m).size ≤ 256 := by
      rw [ByteArray.size_append, ByteArray.size_append, show (⟨#[32]⟩ : ByteArray).size = 1 from rfl]; omega
    have hsz3 : (s ++ (⟨#[32]⟩ : ByteArray)).size ≤ 256 := by
      rw [ByteArray.size_append, show (⟨#[32]⟩ : ByteArray).size = 1 from rfl]; omega
    have hn1 : ts.length ≤ 256 := by have := hR.span.2; simp at this; omega
    have hn2 : us.length ≤ 256 := by have := hR2.span.2; simp at this; omega
    cases e with
    | some q =>
      have hB := Lib.hid (fun w => lex_is (s ++ (⟨#[32]⟩ : ByteArray) ++ m) hsz2 ts (some q) (by rw [catblank]; exact hR.err_blank rfl _) w)
      replace hL := Lib.hid hL
      cases f with
      | some q2 =>
        replace hL2 := Lib.hid hL2
        clear hR hR2
        go_enter Try.func6, Try.ntmps6
        go_wp2_with fail
        refine (KS.out _).mono ?_
        rintro e w1 ⟨rfl, hb1⟩
        go_wp2_with fail
        refine (hL.out _).mono ?_
        rintro e w2 ⟨rfl, hb2⟩
        have hb3 := hb1.trans (hb2.mono hb1.size)
        clear hb1 hb2
        go_wp2_with fail
        refine (hL2.out _).mono ?_
        rintro e w3 ⟨rfl, hb2⟩
        have hb4 := hb3.trans (hb2.mono hb3.size)
        clear hb3 hb2
        go_wp2_with fail
        refine (hB.out _).mono ?_
        rintro e w4 ⟨rfl, hb2⟩
        have hb5 := hb4.trans (hb2.mono hb4.size)
        clear hb4 hb2
        go_wp2_with fail
        go_ret
        exact ⟨rfl, hb5⟩
      | none =>
        replace hL2 := Lib.hid hL2
        clear hR hR2
        go_enter Try.func6, Try.ntmps6
        go_wp2_with fail
        refine (KS.out _).mono ?_
        rintro e w1 ⟨rfl, hb1⟩
        go_wp2_with fail
        refine (hL.out _).mono ?_
        rintro e w2 ⟨rfl, hb2⟩
        have hb3 := hb1.trans (hb2.mono hb1.size)
        clear hb1 hb2
        go_wp2_with fail
        refine (hL2.out _).mono ?_
        rintro e w3 ⟨a, c, rfl, hcap, hqq, hb2⟩
        have hb4 := hb3.trans (hb2.mono hb3.size)
        clear hb3 hb2 hqq hcap
        go_wp2_with fail
        refine (hB.out _).mono ?_
        rintro e w4 ⟨rfl, hb2⟩
        have hb5 := hb4.trans (hb2.mono hb4.size)
        clear hb4 hb2
        go_wp2_with fail
        go_ret
        exact ⟨rfl, hb5⟩
    | none =>
      have hup := hR2.up (s.size + 1)
      rw [Nat.zero_add] at hup
      have hRR : Run numB (s.data.toList ++ 32 :: m.data.toList) 0 (ts ++ us.map (Tk.up (s.size + 1))) (f.map (· + (s.size + 1))) :=
        hR.app_blank rfl (by rw [Nat.zero_add, show s.data.toList.length = s.size by simp]; exact hup)
      have hB := Lib.hid (fun w => lex_is (s ++ (⟨#[32]⟩ : ByteArray) ++ m) hsz2 _ _ (by rw [catblank]; exact hRR) w)
      replace hL := Lib.hid hL
      cases f with
      | some q2 =>
        have hq2 : (q2 : Int) + (s.size : Int) + 1 = ((q2 + (s.size + 1) : Nat) : Int) := by omega
        have hq3 : q2 < m.size := by have := (hR2.err_at rfl).2.1; simpa using this
        have hB2 : ∀ w, Calls Try.prog 9 #[.string (s ++ (⟨#[32]⟩ : ByteArray) ++ m)] w fun e w' => e = .returned (.tuple #[.slice none 0 0, .int .i64 ((q2 : Int) + (s.size : Int) + 1), .int .i64 2]) ∧ Below w.heap.size w w' := fun w => by
          rw [hq2]; exact hB.out w
        replace hB2 := Lib.hid hB2
        replace hL2 := Lib.hid hL2
        clear hR hR2 hup hRR hB hq2
        go_enter Try.func6, Try.ntmps6
        go_wp2_with fail
        refine (KS.out _).mono ?_
        rintro e w1 ⟨rfl, hb1⟩
        go_wp2_with fail
        refine (hL.out _).mono ?_
        rintro e w2 ⟨a, c, rfl, hcap, hqq, hb2⟩
        have hb3 := hb1.trans (hb2.mono hb1.size)
        clear hb1 hb2 hqq hcap
        go_wp2_with fail
        refine (hL2.out _).mono ?_
        rintro e w3 ⟨rfl, hb2⟩
        have hb4 := hb3.trans (hb2.mono hb3.size)
        clear hb3 hb2
        go_wp2_with fail
        refine (hB2.out _).mono ?_
        rintro e w4 ⟨rfl, hb2⟩
        have hb5 := hb4.trans (hb2.mono hb4.size)
        clear hb4 hb2
        go_wp2_with fail
        go_ret
        exact ⟨rfl, hb5⟩
      | none =>
        have hlen : (ts ++ us.map (Tk.up (s.size + 1))).length = ts.length + us.length := by simp
        have hB2 : ∀ w, Calls Try.prog 9 #[.string (s ++ (⟨#[32]⟩ : ByteArray) ++ m)] w fun e w' => ∃ a c, e = .returned (.tuple #[.slice a (ts.length + us.length) c, .int .i64 0, .int .i64 0]) ∧ ts.length + us.length ≤ c ∧ Qs w' a (ts.length + us.length) (rtk (ts ++ us.map (Tk.up (s.size + 1)))) ∧ Below w.heap.size w w' := fun w => by
          rw [← hlen]; exact hB.out w
        have HF := Lib.hid (fun j (h : j < us.length) => (show rtk (ts ++ us.map (Tk.up (s.size + 1))) (ts.length + j) = ⟨(rtk us j).k, (rtk us j).x, (rtk us j).p + (s.size : Int) + 1⟩ by
          rw [rtk_up (ts := ts) (us := us) (m := s.size + 1) h, Int.natCast_add, Int.add_assoc]; rfl))
        have HP := Lib.hid (fun j (h : j < us.length) => hR2.place j h)
        rw [show m.data.toList.length = m.size by simp] at HP
        have HG := Lib.hid (fun j (h : j < ts.length) => rtk_app (ts := ts) (us := us.map (Tk.up (s.size + 1))) h)
        replace hB2 := Lib.hid hB2
        replace hL2 := Lib.hid hL2
        clear hR hR2 hup hRR hB hlen
        generalize rtk (ts ++ us.map (Tk.up (s.size + 1))) = F at *
        have hL' := Lib.hid (fun w => (show Calls Try.prog 9 #[.string s] w (fun e w' => ∃ a c, e = .returned (.tuple #[.slice a ts.length c, .int .i64 0, .int .i64 0]) ∧ ts.length ≤ c ∧ Qs w' a ts.length (rtk ts) ∧ Below w.heap.size w w') from hL.out w))
        have hL2' := Lib.hid (fun w => (show Calls Try.prog 9 #[.string m] w (fun e w' => ∃ a c, e = .returned (.tuple #[.slice a us.length c, .int .i64 0, .int .i64 0]) ∧ us.length ≤ c ∧ Qs w' a us.length (rtk us) ∧ Below w.heap.size w w') from hL2.out w))
        clear hL hL2
        generalize rtk ts = G at *
        generalize rtk us = H at *
        generalize ts.length = n1 at *
        generalize us.length = n2 at *
        go_enter Try.func6, Try.ntmps6
        go_wp2_with fail
        refine (KS.out _).mono ?_
        rintro e w1 ⟨rfl, hb1⟩
        go_wp2_with fail
        refine (hL'.out _).mono ?_
        rintro e w2 ⟨a, c, rfl, hcap1, hqa, hb2⟩
        have hb3 := hb1.trans (hb2.mono hb1.size)
        clear hb1 hb2
        go_wp2_with fail
        refine (hL2'.out _).mono ?_
        rintro e w3 ⟨a2, c2, rfl, hcap2, hqb, hb2⟩
        have hb4 := hb3.trans (hb2.mono hb3.size)
        replace hqa := hqa.below hb2
        clear hb3 hb2
        go_wp2_with fail
        refine (hB2.out _).mono ?_
        rintro e w4 ⟨a3, c3, rfl, hcap3, hqc, hb2⟩
        have hb5 := hb4.trans (hb2.mono hb4.size)
        replace hqa := Lib.hid (hqa.below hb2)
        replace hqb := Lib.hid (hqb.below hb2)
        replace hqc := Lib.hid hqc
        clear hb4 hb2 hL' hL2' hB2
        go_wp2_with fail
        go_loopw [15] (fun iv wr => ∃ k : Nat, iv = .int .i64 k ∧ k ≤ n2 ∧ Below w4.heap.size w4 wr) (fun iv _ => n2 - (intOf iv).toNat)
        case atStart => exact ⟨0, rfl, by omega, Below.refl _ _⟩
        case round =>
          obtain ⟨k, rfl, hk, hb⟩ := hrel
          by_cases hlt : k < n2
          · have e2 : (k : Int) < (n2 : Int) := by omega
            obtain ⟨g1, o1, rfl, hc1⟩ := (hqc.out.below hb) (by omega)
            obtain ⟨g2, o2, rfl, hc2⟩ := (hqb.out.below hb) (by omega)
            have hc1k := hc1 (n1 + k) (by omega)
            have hc2k := hc2 k hlt
            rw [HF.out k hlt] at hc1k
            obtain ⟨x0, x1, x2⟩ := hc1k
            obtain ⟨y0, y1, y2⟩ := hc2k
            clear hc1 hc2
            have hpk := HP.out k hlt
            generalize H k = r at *
            obtain ⟨rk, rx, rp⟩ := r
            have hpk2 : 0 ≤ rp ∧ rp ≤ (m.size : Int) := hpk
            clear hpk
            have bl := (Below.refl wr.heap.size wr).alloc (Nat.le_refl _) (.cells #[.int .i64 rk, .string rx, .int .i64 (rp + (s.size : Int) + 1)] 25)
            have z0 := (bl.cell (p := ⟨g2, o2 + k * 3, none⟩) (World.block_lt_of_cell? wr _ y0)).trans y0
            have z1 := (bl.cell (p := ⟨g2, o2 + k * 3 + 1, none⟩) (World.block_lt_of_cell? wr _ y1)).trans y1
            have z2 := (bl.cell (p := ⟨g2, o2 + k * 3 + 2, none⟩) (World.block_lt_of_cell? wr _ y2)).trans y2
            have hb6 := hb.alloc hb.size (.cells #[.int .i64 rk, .string rx, .int .i64 (rp + (s.size : Int) + 1)] 25)
            have q1 : IntKind.i64.wrap (rp + (s.size : Int)) = rp + (s.size : Int) := IntWalk.i64_in _ (by omega)
            have q2 : IntKind.i64.wrap (rp + (s.size : Int) + 1) = rp + (s.size : Int) + 1 := IntWalk.i64_in _ (by omega)
            clear bl
            go_wp2_with fail
            go_quiet (fail)
            clear q1 q2
            go_wp2_with fail
            refine ⟨⟨k + 1, by go_num, by omega, below_drewN hb6 nq⟩, by simp [intOf]; omega⟩
          · have e2 : ¬ (k : Int) < (n2 : Int) := by omega
            have KT := Lib.hid (Toks_is a3 a n1 c3 c F wr ((hqc.out.less (by omega)).below hb) ((hqa.out.same (fun j hj => (HG.out j hj).symm)).below hb) (by omega))
            go_wp2_with fail
            refine KT.out.mono ?_
            rintro e w5 ⟨rfl, hq⟩
            have hb7 := hb5.trans ((hb.trans (hq.mono hb.size)).mono hb5.size)
            clear hq
            go_wp2_with fail
            go_ret
            exact ⟨rfl, hb7⟩
  · have e1 : (255 : Int) < (s.size : Int) + (m.size : Int) := by omega
    go_enter Try.func6, Try.ntmps6
    go_wp2_with fail
    refine (KS.out _).mono ?_
    rintro e w1 ⟨rfl, hb1⟩
    go_wp2_with fail
    go_ret
    exact ⟨rfl, hb1⟩
end Go.Proofs.Ytpmndcnjmocidaa

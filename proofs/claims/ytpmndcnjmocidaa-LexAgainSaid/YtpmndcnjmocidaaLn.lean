/-
  LexAgain at every text.
-/
import Derived.Test.YtpmndcnjmocidaaLm
namespace Go.Proofs.Ytpmndcnjmocidaa
open Go.RowKit

theorem placed_at {s : List UInt8} : ∀ {ts : List Tk} {q : Nat}, Placed s q ts → ∀ j (h : j < ts.length),
    q ≤ ts[j].at_ ∧ ts[j].at_ + ts[j].text.length ≤ s.length ∧ ts[j].text ≠ [] ∧ (s.drop ts[j].at_).take ts[j].text.length = ts[j].text ∧ 1 ≤ ts[j].kind ∧ ts[j].kind ≤ 6
    ∧ ∀ h2 : j + 1 < ts.length, ts[j].at_ + ts[j].text.length ≤ ts[j + 1].at_
  | t :: ts, q, hp, 0, h => by
    refine ⟨hp.1.1, hp.1.2.1, hp.1.2.2.1, hp.1.2.2.2.1, hp.1.2.2.2.2.1, hp.1.2.2.2.2.2, fun h2 => ?_⟩
    exact (placed_at hp.2 0 (by simpa using h2)).1
  | t :: ts, q, hp, j + 1, h => by
    have h1 : j < ts.length := by simpa using h
    obtain ⟨a, b, c, d, e, f, g⟩ := placed_at hp.2 j h1
    refine ⟨?_, b, c, d, e, f, fun h2 => g (by simpa using h2)⟩
    have := hp.1.1
    exact Nat.le_trans (Nat.le_trans this (Nat.le_add_right _ _)) a
/-- What a line's part is, in memory. -/
structure PartAt (s : ByteArray) (n : Nat) (f : Nat → Rt) (j : Nat) (k : Int) (x : ByteArray) (p : Nat) : Prop where
  eq : f j = ⟨k, x, p⟩
  fit : p + x.size ≤ s.size
  ne : 1 ≤ x.size
  ext : s.extract p (p + x.size) = x
  k1 : 1 ≤ k
  k6 : k ≤ 6
theorem part_at {N : List UInt8 → Bool} {s : ByteArray} {ts : List Tk} {e : Option Nat} (h : Run N s.data.toList 0 ts e) (j : Nat) (hj : j < ts.length) :
    PartAt s ts.length (rtk ts) j (ts[j].kind : Nat) (tx ts[j].text) ts[j].at_ := by
  obtain ⟨a, b, c, d, e, f, g⟩ := placed_at (h.placed (s := s.data.toList) rfl) j hj
  have hl : s.data.toList.length = s.size := by simp
  refine ⟨rtk_at (List.getElem?_eq_getElem hj), ?_, ?_, ?_, by omega, by omega⟩
  · rw [tx_size, ← hl]; exact b
  · rw [tx_size]; exact List.length_pos_iff.2 c
  · exact extract_eq _ _ _ _ (by rw [Nat.add_sub_cancel_left, tx_size]; exact d)
/-- Where part j begins at the earliest. -/
def endAt (ts : List Tk) : Nat → Nat
  | 0 => 0
  | j + 1 => match ts[j]? with | some t => t.at_ + t.text.length | none => 0
theorem endAt_le {N : List UInt8 → Bool} {s : ByteArray} {ts : List Tk} {e : Option Nat} (h : Run N s.data.toList 0 ts e) (j : Nat) (hj : j < ts.length) : endAt ts j ≤ ts[j].at_ := by
  cases j with
  | zero => exact Nat.zero_le _
  | succ j =>
    have := (placed_at (h.placed (s := s.data.toList) rfl) j (by omega)).2.2.2.2.2.2 hj
    show (match ts[j]? with | some t => t.at_ + t.text.length | none => 0) ≤ _
    rw [List.getElem?_eq_getElem (by omega)]
    exact this
theorem endAt_succ {ts : List Tk} {j : Nat} (hj : j < ts.length) : endAt ts (j + 1) = ts[j].at_ + (tx ts[j].text).size := by
  show (match ts[j]? with | some t => t.at_ + t.text.length | none => 0) = _
  rw [List.getElem?_eq_getElem hj]; rfl
theorem jl_rtk (ts : List Tk) : jl (rtk ts) ts.length = ts.map Tk.text := by
  refine List.ext_getElem (by simp [jl, xsF]) fun j h1 h2 => ?_
  have hj : j < ts.length := by simpa using h2
  simp only [jl, xsF, List.getElem_map, List.getElem_range]
  rw [rtk_at (List.getElem?_eq_getElem hj)]
  rfl
theorem same_kx {ts us : List Tk} (h1 : us.map Tk.kind = ts.map Tk.kind) (h2 : us.map Tk.text = ts.map Tk.text) (j : Nat) (hj : j < ts.length) : (rtk us j).k = (rtk ts j).k ∧ (rtk us j).x = (rtk ts j).x := by
  have hl : us.length = ts.length := by have := congrArg List.length h1; simpa using this
  have hu : j < us.length := by omega
  rw [rtk_at (List.getElem?_eq_getElem hj), rtk_at (List.getElem?_eq_getElem hu)]
  have e1 : (us.map Tk.kind)[j]'(by simpa using hu) = (ts.map Tk.kind)[j]'(by simpa using hj) := by simp only [h1]
  have e2 : (us.map Tk.text)[j]'(by simpa using hu) = (ts.map Tk.text)[j]'(by simpa using hj) := by simp only [h2]
  simp only [List.getElem_map] at e1 e2
  exact ⟨by show (us[j].kind : Int) = ts[j].kind; rw [e1], by show tx us[j].text = tx ts[j].text; rw [e2]⟩
set_option maxHeartbeats 6400000 in
set_option maxRecDepth 100000 in
theorem again_any (s : ByteArray) (hs : s.size ≤ 9223372036854775807) (W : World) : Calls Try.prog 4 #[.string s] W (TrueEnd W) := by
  have KS := Lib.hid (fun w => shown_is w)
  have hz0 : (0 : Int) ≤ (s.size : Int) := Int.natCast_nonneg _
  by_cases hz : s.size ≤ 256
  · obtain ⟨ts, e, hR, hL, -⟩ := Lex_any s hz
    cases e with
    | some q =>
      have hq := (hR.err_at rfl).2.1
      have hq2 : q < s.size := by simpa using hq
      have e2 : (0 : Int) ≤ (q : Int) := Int.natCast_nonneg _
      have e3 : decide (q ≤ s.size) = true := decide_eq_true (by omega)
      replace hL := Lib.hid hL
      clear hR hq
      go_enter Try.func4, Try.ntmps4
      go_wp2_with fail
      refine (KS.out _).mono ?_
      rintro e w1 ⟨rfl, hb1⟩
      go_wp2_with fail
      refine (hL.out _).mono ?_
      rintro e w2 ⟨rfl, hb2⟩
      have hb3 := hb1.trans (hb2.mono hb1.size)
      clear hb1 hb2
      go_wp2_with fail
      go_ret
      exact ⟨rfl, hb3⟩
    | none =>
      have hn1 : ts.length ≤ 256 := by have := hR.span.2; simp at this; omega
      have hL' := Lib.hid (fun w => (show Calls Try.prog 9 #[.string s] w (fun e w' => ∃ a c, e = .returned (.tuple #[.slice a ts.length c, .int .i64 0, .int .i64 0]) ∧ ts.length ≤ c ∧ Qs w' a ts.length (rtk ts) ∧ Below w.heap.size w w') from hL w))
      have HP := Lib.hid (fun j h => part_at hR j h)
      have HE := Lib.hid (fun j h => endAt_le hR j h)
      have HE2 := Lib.hid (fun j h => endAt_succ (ts := ts) (j := j) h)
      have HRR := Lib.hid hR
      clear hR hL
      go_enter Try.func4, Try.ntmps4
      go_wp2_with fail
      refine (KS.out _).mono ?_
      rintro e w1 ⟨rfl, hb1⟩
      go_wp2_with fail
      refine (hL'.out _).mono ?_
      rintro e w2 ⟨a, c, rfl, hcap, hqa, hb2⟩
      have hb3 := hb1.trans (hb2.mono hb1.size)
      replace hqa := Lib.hid hqa
      clear hb1 hb2 hL'
      go_wp2_with fail
      go_loopw [7, 8] (fun ev iv wr => ∃ k : Nat, iv = .int .i64 k ∧ k ≤ ts.length ∧ ev = .int .i64 (endAt ts k) ∧ Below w2.heap.size w2 wr) (fun _ iv _ => ts.length - (intOf iv).toNat)
      case atStart => exact ⟨0, rfl, by omega, rfl, Below.refl _ _⟩
      case round =>
        obtain ⟨k, rfl, hk, rfl, hb⟩ := hrel
        by_cases hlt : k < ts.length
        · have e2 : (k : Int) < (ts.length : Int) := by omega
          obtain ⟨g1, o1, rfl, hc1⟩ := (hqa.out.below hb) (by omega)
          obtain ⟨x0, x1, x2⟩ := hc1 k hlt
          have hp := HP.out k hlt
          have he := HE.out k hlt
          have he2 := HE2.out k hlt
          rw [hp.eq] at x0 x1 x2
          obtain ⟨-, u1, u2, u3, u4, u5⟩ := hp
          have HE3 := Lib.hid he2
          clear hc1 he2
          generalize ts[k].at_ = p at *
          generalize tx ts[k].text = x at *
          generalize (ts[k].kind : Int) = kd at *
          generalize endAt ts k = ek at *
          have d1 : decide ((p : Int) < (ek : Int)) = false := decide_eq_false (by omega)
          have d2 : decide (p < ek) = false := decide_eq_false (by omega)
          have d3 : decide ((s.size : Int) < (p : Int) + (x.size : Int)) = false := decide_eq_false (by omega)
          have d4 : x.toList.isEmpty = false := by
            rw [str_tl]
            cases hx : x.data.toList with
            | nil =>
              have : x.data.toList.length = x.size := by simp
              rw [hx] at this; simp at this; omega
            | cons a r => rfl
          have d5 : decide (kd < 1) = false := decide_eq_false (by omega)
          have d6 : decide (6 < kd) = false := decide_eq_false (by omega)
          have d7 : ((p : Int) + (x.size : Int)).toNat = p + x.size := by omega
          have d8 : (0 : Int) ≤ (p : Int) + (x.size : Int) := by omega
          have d9 : IntKind.i64.wrap ((p : Int) + (x.size : Int)) = (p : Int) + (x.size : Int) := IntWalk.i64_in _ (by omega)
          go_wp2_with fail
          go_quiet (fail)
          have bq := below_drewN hb nq
          have y1 : (wr.drewN nq).cell? ⟨g1, o1 + k * 3 + 1, none⟩ = some (.string x) := x1
          have y2 : (wr.drewN nq).cell? ⟨g1, o1 + k * 3 + 2, none⟩ = some (.int .i64 p) := x2
          clear x0 x1 x2 d1 d2 d3 d4 d5 d6 hb
          generalize wr.drewN nq = w5 at *
          go_wp2_with fail
          go_quiet (fail)
          have bq2 := below_drewN bq nq
          clear y1 y2 d7 d8 d9
          go_wp2_with fail
          refine ⟨⟨k + 1, by go_num, by omega, by rw [HE3.out]; go_num, bq2⟩, by simp [intOf]; omega⟩
        · have e2 : ¬ (k : Int) < (ts.length : Int) := by omega
          obtain rfl : k = ts.length := by omega
          obtain ⟨us, hU, hk1, hk2⟩ := HRR.out.again rfl 0
          have hlen : us.length = ts.length := by have := congrArg List.length hk1; simpa using this
          have hsp : (joinT (ts.map Tk.text)).length ≤ 512 := by
            have h1 := joinT_len (ts.map Tk.text)
            have h2 := HRR.out.span.1
            have h3 : s.data.toList.length = s.size := by simp
            omega
          have KJ := Join_is a ts.length c (rtk ts) wr (hqa.out.below hb) (by omega) (by rw [jl_rtk]; omega)
          rw [jl_rtk] at KJ
          have HK := Lib.hid (fun j hj => same_kx hk1 hk2 j hj)
          generalize hJ : joinT (ts.map Tk.text) = J at *
          replace KJ := Lib.hid (show Calls Try.prog 16 #[.slice a ts.length c] wr (fun e w' => e = .returned (.string (tx J)) ∧ Below wr.heap.size wr w') from KJ)
          have hbW := hb3.trans (hb.mono hb3.size)
          by_cases hj : J.length ≤ 256
          · have KX := fun w => lex_is (tx J) hj us none hU w
            have KX' := Lib.hid (fun w => (show Calls Try.prog 9 #[.string (tx J)] w (fun e w' => ∃ a c, e = .returned (.tuple #[.slice a ts.length c, .int .i64 0, .int .i64 0]) ∧ ts.length ≤ c ∧ Qs w' a ts.length (rtk us) ∧ Below w.heap.size w w') from by
              have := KX w
              rw [← hlen]; exact this))
            have hqb := Lib.hid (hqa.out.below hb)
            clear KX hU hk1 hk2 hlen hsp hb hb3 hqa HP HE HE2 HRR hJ
            generalize tx J = tj at *
            generalize rtk us = F at *
            generalize rtk ts = G at *
            generalize ts.length = n at *
            go_wp2_with fail
            refine KJ.out.mono ?_
            rintro e w3 ⟨rfl, hb4⟩
            have hb5 := hbW.trans (hb4.mono hbW.size)
            replace hqb := hqb.out.below hb4
            clear KJ hbW hb4
            go_wp2_with fail
            refine (KX'.out _).mono ?_
            rintro e w4 ⟨a2, c2, rfl, hcap2, hqc, hb6⟩
            have hb7 := hb5.trans (hb6.mono hb5.size)
            replace hqb := Lib.hid (hqb.below hb6)
            replace hqc := Lib.hid hqc
            clear KX' hb5 hb6
            go_wp2_with fail
            go_loopw [12] (fun iv wr => ∃ k : Nat, iv = .int .i64 k ∧ k ≤ n ∧ Below w4.heap.size w4 wr) (fun iv _ => n - (intOf iv).toNat)
            case atStart => exact ⟨0, rfl, by omega, Below.refl _ _⟩
            case round =>
              obtain ⟨k, rfl, hk, hb⟩ := hrel
              by_cases hlt : k < n
              · have e2 : (k : Int) < (n : Int) := by omega
                obtain ⟨g1, o1, rfl, hc1⟩ := (hqb.out.below hb) (by omega)
                obtain ⟨g2, o2, rfl, hc2⟩ := (hqc.out.below hb) (by omega)
                obtain ⟨x0, x1, x2⟩ := hc1 k hlt
                obtain ⟨y0, y1, y2⟩ := hc2 k hlt
                rw [(HK.out k hlt).1] at y0
                rw [(HK.out k hlt).2] at y1
                clear hc1 hc2 x2 y2
                generalize (G k).k = rk at *
                generalize (G k).x = rx at *
                go_wp2_with fail
                go_quiet (fail)
                have bq := below_drewN hb nq
                clear x0 x1 y0 y1
                go_wp2_with fail
                refine ⟨⟨k + 1, by go_num, by omega, bq⟩, by simp [intOf]; omega⟩
              · have e2 : ¬ (k : Int) < (n : Int) := by omega
                have hb8 := hb7.trans (hb.mono hb7.size)
                go_wp2_with fail
                go_ret
                exact ⟨rfl, hb8⟩
          · have KX := Lib.hid (fun w => big_is (tx J) (by rw [tx_size]; omega) (by rw [tx_size]; omega) w)
            clear hU hk1 hk2 hlen hsp hb hb3 hqa HP HE HE2 HRR hJ hj
            generalize tx J = tj at *
            go_wp2_with fail
            refine KJ.out.mono ?_
            rintro e w3 ⟨rfl, hb4⟩
            have hb5 := hbW.trans (hb4.mono hbW.size)
            clear KJ hbW hb4
            go_wp2_with fail
            refine (KX.out _).mono ?_
            rintro e w4 ⟨rfl, hb6⟩
            have hb7 := hb5.trans (hb6.mono hb5.size)
            clear hb5 hb6
            go_wp2_with fail
            go_ret
            exact ⟨rfl, hb7⟩
  · have hL := Lib.hid (fun w => big_is s (by omega) hs w)
    go_enter Try.func4, Try.ntmps4
    go_wp2_with fail
    refine (KS.out _).mono ?_
    rintro e w1 ⟨rfl, hb1⟩
    go_wp2_with fail
    refine (hL.out _).mono ?_
    rintro e w2 ⟨rfl, hb2⟩
    have hb3 := hb1.trans (hb2.mono hb1.size)
    clear hb1 hb2
    go_wp2_with fail
    go_ret
    exact ⟨rfl, hb3⟩
end Go.Proofs.Ytpmndcnjmocidaa

/-
  LexBack at every text.
-/
import Derived.Test.YtpmndcnjmocidaaLj
namespace Go.Proofs.Ytpmndcnjmocidaa
open Go.RowKit

theorem dig_cls : ∀ c : UInt8, (48 ≤ c.toNat ∧ c.toNat ≤ 57) → cls c = 1 ∧ (moreL 1).contains c = true ∧ c ≠ 95 ∧ c ≠ 45 := all_u8 (by decide +kernel)
theorem may_fig {l : List UInt8} (h : mayL l = true) : AllDig (figs l) ∧ figs l ≠ [] := by
  unfold mayL at h
  simp only [Bool.and_eq_true, decide_eq_true_eq] at h
  exact ⟨allDigB.1 h.1.2, fun h2 => by rw [h2] at h; simp at h⟩
/-- A number as a part. -/
theorem lit_part {l : List UInt8} (h : mayL l = true) : ∃ c t, swapL l = c :: t ∧ cls c = 1 ∧ (∀ x ∈ t, (moreL 1).contains x = true) ∧ numB (c :: t) = true ∧ numT (c :: t) = l := by
  obtain ⟨hd, hne⟩ := may_fig h
  cases l with
  | nil => exact absurd h (by decide)
  | cons c r =>
    by_cases hc : c = 45
    · subst hc
      rw [figs_neg] at hd hne
      refine ⟨95, r, rfl, by decide, fun x hx => (dig_cls x (hd x hx)).2.1, ?_, ?_⟩
      · show (!((95 :: r).head? == some 45) && mayL (45 :: r)) = true
        rw [h]; rfl
      · unfold numT numB
        rw [show swapN (95 :: r) = 45 :: r from rfl, h]; rfl
    · have hf : figs (c :: r) = c :: r := figs_pos (fun h2 => hc (Option.some.inj h2))
      rw [hf] at hd
      obtain ⟨h1, -, h3, -⟩ := dig_cls c (hd c List.mem_cons_self)
      have hs : swapL (c :: r) = c :: r := if_neg hc
      have hn : swapN (c :: r) = c :: r := if_neg h3
      have hb : numB (c :: r) = true := by
        unfold numB
        rw [hn, h, show ((c :: r).head? == some 45) = false from beq_false_of_ne (fun h2 => hc (Option.some.inj h2))]; rfl
      refine ⟨c, r, hs, h1, fun x hx => (dig_cls x (hd x (List.mem_cons_of_mem _ hx))).2.1, hb, ?_⟩
      unfold numT
      rw [hb, hn]; rfl
def PairS (t : ByteArray) (v : Bool) (w : World) (e : Ending) (w' : World) : Prop := e = .returned (.tuple #[.string t, .bool v]) ∧ w = w'
set_option maxHeartbeats 3200000 in
theorem back_any (s : ByteArray) (hm : s.size ≤ 9223372036854775807) (W : World) : Calls Try.prog 5 #[.string s] W (TrueEnd W) := by
  have KS := Lib.hid (fun w => shown_is w)
  by_cases hz : s.size ≤ 200
  · have e1 : ¬ (200 : Int) < (s.size : Int) := by omega
    have hl : s.data.toList.length ≤ 200 := by simpa using hz
    have KL := fun w => (show Calls Try.prog 13 #[.string (tx s.data.toList)] w (PairS (tx (litT s.data.toList)) (mayL s.data.toList) w) from Literal_is s.data.toList (by omega) w)
    have KM := fun w => May_tx s.data.toList (by omega) _ rfl w
    rw [tx_back] at KL KM
    rcases hb : mayL s.data.toList with _ | _
    · rw [hb] at KL KM
      rw [show litT s.data.toList = [] by unfold litT; rw [hb]; rfl] at KL
      replace KL := Lib.hid KL
      replace KM := Lib.hid KM
      have he := tx_empty []
      rw [show ([] : List UInt8).isEmpty = true from rfl] at he
      clear hb hl
      generalize tx [] = t0 at *
      go_enter Try.func5, Try.ntmps5
      go_wp2_with fail
      refine (KS.out _).mono ?_
      rintro e w1 ⟨rfl, hb1⟩
      go_wp2_with fail
      refine (KL.out _).mono ?_
      rintro e w2 ⟨rfl, rfl⟩
      go_wp2_with fail
      refine (KM.out _).mono ?_
      rintro e w2 ⟨rfl, rfl⟩
      go_wp2_with fail
      go_ret
      exact ⟨rfl, hb1⟩
    · obtain ⟨c, t, hs, h1, ht, hn, hT⟩ := lit_part hb
      rw [hb] at KL KM
      rw [show litT s.data.toList = c :: t by unfold litT; rw [hb, hs]; rfl] at KL
      have hlen : t.length + 1 ≤ 200 := by
        have : (swapL s.data.toList).length = s.data.toList.length := by
          generalize s.data.toList = m
          cases m with
          | nil => rfl
          | cons d r =>
            show (if d = 45 then 95 :: r else d :: r).length = _
            split <;> rfl
        rw [hs] at this
        simp at this
        omega
      have KN := fun w => (show Calls Try.prog 11 #[.string (tx (c :: t))] w (PairS (tx (numT (c :: t))) (numB (c :: t)) w) from Number_is (c :: t) (by simp; omega) w)
      rw [hn, hT, tx_back] at KN
      have hq : (⟨#[32]⟩ : ByteArray) ++ tx (c :: t) = tx (32 :: c :: t) := tx_cat [32] (c :: t)
      have KX := fun w => lex_is (tx (32 :: c :: t)) (by rw [tx_size]; simp; omega) [⟨1, c :: t, 1⟩] none (by
        rw [tx_list]
        have := Run.part (N := numB) (r := []) (p := 1) h1 (by omega) (by omega) ht (.nil 1) (fun _ => hn) (.nil _)
        rw [List.append_nil] at this
        exact .blank cls_blank this) w
      rw [← hq] at KX
      have hzt : (tx (c :: t)).size ≤ 200 := by rw [tx_size]; simp; omega
      have HR := Lib.hid (rtk_at (ts := [⟨1, c :: t, 1⟩]) (j := 0) rfl)
      replace KL := Lib.hid KL
      replace KM := Lib.hid KM
      replace KN := Lib.hid KN
      replace KX := Lib.hid KX
      clear hb hl hs h1 ht hn hT hlen hq
      generalize hlst : [(⟨1, c :: t, 1⟩ : Tk)] = lst at *
      have hlen1 : lst.length = 1 := by rw [← hlst]; rfl
      generalize tx (c :: t) = tt at *
      clear hlst
      go_enter Try.func5, Try.ntmps5
      go_wp2_with fail
      refine (KS.out _).mono ?_
      rintro e w1 ⟨rfl, hb1⟩
      go_wp2_with fail
      refine (KL.out _).mono ?_
      rintro e w2 ⟨rfl, rfl⟩
      go_wp2_with fail
      refine (KM.out _).mono ?_
      rintro e w2 ⟨rfl, rfl⟩
      go_wp2_with fail
      refine (KN.out _).mono ?_
      rintro e w2 ⟨rfl, rfl⟩
      go_wp2_with fail
      refine (KX.out _).mono ?_
      rintro e w2 ⟨a, cc, rfl, hcap, hq, hb2⟩
      clear hcap
      rw [hlen1] at hq ⊢
      obtain ⟨g, off, rfl, hc⟩ := hq (by omega)
      have hc0 := hc 0 (by omega)
      rw [HR.out] at hc0
      have a0 : w2.cell? ⟨g, off, none⟩ = some (.int .i64 1) := hc0.1
      have a1 : w2.cell? ⟨g, off + 1, none⟩ = some (.string tt) := hc0.2.1
      have a2 : w2.cell? ⟨g, off + 2, none⟩ = some (.int .i64 1) := hc0.2.2
      have hb3 := hb1.trans (hb2.mono hb1.size)
      clear hc hc0 hq hb1 hb2
      go_wp2_with fail
      go_ret
      exact ⟨rfl, hb3⟩
  · have e1 : (200 : Int) < (s.size : Int) := by omega
    go_enter Try.func5, Try.ntmps5
    go_wp2_with fail
    refine (KS.out _).mono ?_
    rintro e w1 ⟨rfl, hb1⟩
    go_wp2_with fail
    go_ret
    exact ⟨rfl, hb1⟩
end Go.Proofs.Ytpmndcnjmocidaa

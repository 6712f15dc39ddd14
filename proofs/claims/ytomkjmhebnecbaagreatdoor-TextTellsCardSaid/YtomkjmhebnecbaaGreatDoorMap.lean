import Derived.Test.YtomkjmhebnecbaaGreatDoorMan
import Derived.Test.YtomkjmhebnecbaaGreatDoorMao
/-
  A number as a part is a word, and is read as it was; so with any two arrays' texts: they are the same just if the arrays are. (All but the numbers' own texts imports nothing of the program.)
-/
namespace Go.Proofs.YtomkjmhebnecbaaGreatDoor
set_option linter.unusedVariables false
set_option linter.unusedSimpArgs false

theorem dig_word : ∀ c : UInt8, (48 ≤ c.toNat ∧ c.toNat ≤ 57) → (c ≠ 32 ∧ c ≠ 44 ∧ c ≠ 35 ∧ c ≠ 33) ∧ c ≠ 95 ∧ c ≠ 45 := all_u8 (by decide +kernel)
theorem mayL_figs {l : List UInt8} (h : mayL l = true) : AllDig (figs l) ∧ figs l ≠ [] := by
  unfold mayL at h
  simp only [Bool.and_eq_true, decide_eq_true_eq] at h
  exact ⟨allDigB.1 h.1.2, fun h2 => by rw [h2] at h; simp at h⟩
theorem swap_word {l : List UInt8} (h : mayL l = true) : Wd (swapL l) ∧ numB (swapL l) = true ∧ numT (swapL l) = l := by
  obtain ⟨hd, hne⟩ := mayL_figs h
  cases l with
  | nil => exact absurd h (by decide)
  | cons c r =>
    by_cases hc : c = 45
    · subst hc
      rw [figs_neg] at hd hne
      refine ⟨⟨by simp [swapL], fun x hx => ?_⟩, ?_, ?_⟩
      · rcases List.mem_cons.1 (show x ∈ 95 :: r from hx) with rfl | hx
        · decide
        · exact (dig_word x (hd x hx)).1
      · show (!((95 :: r).head? == some 45) && mayL (45 :: r)) = true
        rw [h]; rfl
      · show numT (95 :: r) = _
        unfold numT numB
        rw [show swapN (95 :: r) = 45 :: r from rfl, h]; rfl
    · have hf : figs (c :: r) = c :: r := figs_pos (fun h2 => hc (Option.some.inj h2))
      rw [hf] at hd
      have h3 := (dig_word c (hd c List.mem_cons_self)).2.1
      have hs : swapL (c :: r) = c :: r := if_neg hc
      have hn : swapN (c :: r) = c :: r := if_neg h3
      have hb : numB (c :: r) = true := by
        unfold numB
        rw [hn, h, show ((c :: r).head? == some 45) = false from beq_false_of_ne (fun h2 => hc (Option.some.inj h2))]; rfl
      rw [hs]
      refine ⟨⟨by simp, fun x hx => (dig_word x (hd x hx)).1⟩, hb, ?_⟩
      unfold numT
      rw [hb, hn]; rfl
theorem lit_word {l : List UInt8} (h : mayL l = true) : Wd (litT l) ∧ numB (litT l) = true ∧ numT (litT l) = l := by
  rw [show litT l = swapL l from if_pos h]
  exact swap_word h
/-- What an array must be, so that its text tells it. -/
structure Arr (fo : Int → List UInt8) (fi : List UInt8 → Int) (l : List Int) (es : List (List UInt8)) : Prop where
  el : ∀ e ∈ es, mayL e = true
  h0 : l = [] → es.length = 1
  h1 : ∀ x, l = [x] → x = ((es.length : Nat) : Int)
  h2 : ∀ x ∈ l, 2 ≤ l.length → mayL (fo x) = true ∧ fi (fo x) = x
theorem Arr.read {fo : Int → List UInt8} {fi : List UInt8 → Int} {l : List Int} {es : List (List UInt8)} (h : Arr fo fi l es) : gsT numT fi (arrT litT fo l es) = (l, es) :=
  gs_arr (P := fun e => mayL e = true) (fun e he => (lit_word he).1) (fun e he => (lit_word he).2.2) h.el h.h0 h.h1 h.h2
theorem Arr.inj {fo : Int → List UInt8} {fi : List UInt8 → Int} {l m : List Int} {es fs : List (List UInt8)} (h : Arr fo fi l es) (g : Arr fo fi m fs) (e : arrT litT fo l es = arrT litT fo m fs) : l = m ∧ es = fs := by
  have h1 := h.read
  rw [e, g.read] at h1
  injection h1 with h1 h2
  exact ⟨h1.symm, h2.symm⟩
end Go.Proofs.YtomkjmhebnecbaaGreatDoor

import Derived.Test.YtogphdflgcdiiaaDoorMah
namespace Go.Proofs.YtogphdflgcdiiaaDoor
set_option linter.unusedVariables false
set_option linter.unusedSimpArgs false
open Go.RowKit

/-! ### takeOut: the guess, and what it is worth. A: the n + 1 parts; V: the divisor of n parts, whose last one is at least half of the base. -/
theorem guess_lo {A V N v q P : Nat} (hN : A < (N + 1) * P) (hV : v * P ≤ V) (hv : 0 < v) (hq : q = N / v) : A < (q + 1) * V := by
  have h1 : N + 1 ≤ (q + 1) * v := by
    have := Nat.lt_div_mul_add hv (a := N)
    rw [← hq] at this
    rw [Nat.add_mul, Nat.one_mul]; omega
  have h2 : (N + 1) * P ≤ (q + 1) * v * P := Nat.mul_le_mul_right _ h1
  have h3 : (q + 1) * v * P ≤ (q + 1) * V := by rw [Nat.mul_assoc]; exact Nat.mul_le_mul_left _ hV
  omega
theorem guess_hi {A V N v q P : Nat} (hN : N * P ≤ A) (hV : V < (v + 1) * P) (hq : q = N / v) : q * V ≤ A + q * P := by
  have h1 : q * v ≤ N := by rw [hq]; exact Nat.div_mul_le_self _ _
  have h2 : q * V ≤ q * ((v + 1) * P) := Nat.mul_le_mul_left _ (by omega)
  have h3 : q * ((v + 1) * P) = q * v * P + q * P := by rw [Nat.add_mul, Nat.mul_add, Nat.one_mul, Nat.mul_assoc]
  have h4 : q * v * P ≤ N * P := Nat.mul_le_mul_right _ h1
  omega
theorem guess_le {N v q : Nat} (hN : N < 1000000000000000000) (hv : 500000000 ≤ v) (hq : q = N / v) : q ≤ 2000000000 := by
  rw [hq]
  have : N / v ≤ N / 500000000 := Nat.div_le_div_left hv (by decide)
  omega
/-- Behind lower: either all went, or it was once too much at most. -/
structure TkInv (A V P : Nat) (t : Nat) (below : Bool) (R : Nat) : Prop where
  lo : A < (t + 1) * V
  no : below = false → t * V ≤ A ∧ R + t * V = A
  yes : below = true → A < t * V ∧ R + t * V = A + P
theorem TkInv.start {A V P q c R : Nat} (hlo : A < (q + 1) * V) (he : R + q * V = A + P * c) (hR : R < P) (hhi : q * V ≤ A + P) (hP : 0 < P) : TkInv A V P q (decide (0 < c)) R ∧ c ≤ 1 := by
  have hc : c ≤ 1 := by
    rcases Nat.lt_or_ge 1 c with h | h
    · have : P * 2 ≤ P * c := Nat.mul_le_mul_left _ h
      omega
    · exact h
  have : c = 0 ∨ c = 1 := by omega
  rcases this with rfl | rfl
  · exact ⟨⟨hlo, fun _ => ⟨by omega, by omega⟩, fun h => by simp at h⟩, hc⟩
  · exact ⟨⟨hlo, fun h => by simp at h, fun _ => ⟨by omega, by omega⟩⟩, hc⟩
theorem TkInv.next {A V P t R c R' : Nat} (h : TkInv A V P t true R) (he : R' + P * c = R + V) (hc : c ≤ 1) (hA : A < P) (hR' : R' < P) : 1 ≤ t ∧ TkInv A V P (t - 1) (!decide (0 < c)) R' := by
  obtain ⟨h1, h2⟩ := h.yes rfl
  have ht : 1 ≤ t := by
    rcases Nat.eq_zero_or_pos t with h0 | h0
    · subst h0; omega
    · exact h0
  refine ⟨ht, ?_⟩
  obtain ⟨s, rfl⟩ : ∃ s, t = s + 1 := ⟨t - 1, by omega⟩
  rw [Nat.add_sub_cancel]
  have h3 : (s + 1) * V = s * V + V := by rw [Nat.add_mul, Nat.one_mul]
  rw [h3] at h1 h2
  have : c = 0 ∨ c = 1 := by omega
  rcases this with rfl | rfl
  · refine ⟨by rw [h3]; omega, fun h => by simp at h, fun _ => ⟨?_, by omega⟩⟩
    omega
  · exact ⟨by rw [h3]; omega, fun _ => ⟨by omega, by omega⟩, fun h => by simp at h⟩
theorem TkInv.fin {A V P t R : Nat} (h : TkInv A V P t false R) : t = A / V ∧ R = A % V := by
  obtain ⟨h1, h2⟩ := h.no rfl
  have h3 := h.lo
  rw [Nat.add_mul, Nat.one_mul] at h3
  have hV : 0 < V := by omega
  have e : A = R + V * t := by rw [Nat.mul_comm]; omega
  have hR : R < V := by omega
  constructor
  · rw [e, Nat.add_mul_div_left _ _ hV, Nat.div_eq_of_lt hR, Nat.zero_add]
  · rw [e, Nat.add_mul_mod_self_left, Nat.mod_eq_of_lt hR]

/-- The two parts at the head of n + 1. -/
theorem top_two {F : Nat → Nat} {o n : Nat} (hF : ∀ j, o ≤ j → j < o + (n + 2) → F j < 1000000000) :
    (F (o + (n + 1)) * 1000000000 + F (o + n)) * 1000000000 ^ n ≤ vf F o (n + 2) ∧ vf F o (n + 2) < (F (o + (n + 1)) * 1000000000 + F (o + n) + 1) * 1000000000 ^ n := by
  have h1 : vf F o n < 1000000000 ^ n := vf_lt fun j a b => hF j a (by omega)
  have e : vf F o (n + 2) = vf F o n + (F (o + (n + 1)) * 1000000000 + F (o + n)) * 1000000000 ^ n := by
    show vf F o n + 1000000000 ^ n * F (o + n) + 1000000000 ^ (n + 1) * F (o + (n + 1)) = _
    rw [Nat.pow_succ, Nat.add_mul, Nat.mul_comm (F (o + n))]
    have : 1000000000 ^ n * 1000000000 * F (o + (n + 1)) = F (o + (n + 1)) * 1000000000 * 1000000000 ^ n := by
      rw [Nat.mul_comm (F (o + (n + 1)) * 1000000000), Nat.mul_assoc, Nat.mul_comm 1000000000 (F _)]
    omega
  rw [e, Nat.add_mul (F (o + (n + 1)) * 1000000000 + F (o + n)) 1]
  omega
theorem top_one {m : List Nat} {n : Nat} (om : Ok m) (hn : m.length = n + 1) : m.getD n 0 * 1000000000 ^ n ≤ val m ∧ val m < (m.getD n 0 + 1) * 1000000000 ^ n := by
  have h1 : val (m.take n) < 1000000000 ^ n := by
    have := val_lt (ok_take om n)
    rwa [List.length_take, Nat.min_eq_left (by omega)] at this
  have e := val_take_succ m n
  rw [List.take_of_length_le (by omega), Nat.mul_comm] at e
  rw [e, Nat.add_mul]
  omega
end Go.Proofs.YtogphdflgcdiiaaDoor
namespace Go.Proofs.YtogphdflgcdiiaaDoor
set_option linter.unusedVariables false
set_option linter.unusedSimpArgs false
open Go.RowKit

theorem two_int (a b v : Nat) : (((a * 1000000000 + b) / v : Nat) : Int) = ((a : Int) * 1000000000 + (b : Int)) / (v : Int) := quo_int a b v

def TkPost (w : World) (g o N n : Nat) (F : Nat → Nat) (V : Nat) (e : Ending) (w' : World) : Prop :=
  ∃ F', e = .returned (.int .u32 (vf F o (n + 2) / V : Nat)) ∧ (∀ j, j < o ∨ o + (n + 2) ≤ j → F' j = F j) ∧ (∀ j, o ≤ j → j < o + (n + 2) → F' j < 1000000000) ∧ vf F' o (n + 2) = vf F o (n + 2) % V ∧ Rw w' g N F' ∧ Only g w w'

theorem lower_len (g o n ca N : Nat) (F : Nat → Nat) (B : Option Addr) (m : List Nat) (ml cb : Nat) (q : Nat) (w : World) (hlen : m.length = ml) (hR : Rw w g N F) (hF : ∀ j, o ≤ j → j < o + n → F j < 1000000000) (hn : o + n ≤ N) (hN : N ≤ maxLen)
    (hB : Sz w B m) (hO : Off B g) (om : Ok m) (hm : ml ≤ maxLen) (hq : q ≤ 2000000000) :
    Calls Tryd.prog 78 #[.slice (some ⟨g, o, none⟩) n ca, .slice B ml cb, .int .u64 q] w fun e w' => ∃ c F', e = .returned (.bool (decide (0 < c))) ∧ LowerInv F m q o n c F' ∧ Rw w' g N F' ∧ Only g w w' := by
  subst hlen; exact lower_any g o n ca N F B m cb q w hR hF hn hN hB hO om hm hq
theorem raise_len (g o n ca N : Nat) (F : Nat → Nat) (B : Option Addr) (m : List Nat) (ml cb : Nat) (w : World) (hlen : m.length = ml) (hR : Rw w g N F) (hF : ∀ j, o ≤ j → j < o + n → F j < 1000000000) (hn : o + n ≤ N) (hN : N ≤ maxLen)
    (hB : Sz w B m) (hO : Off B g) (om : Ok m) (hm : ml ≤ maxLen) :
    Calls Tryd.prog 77 #[.slice (some ⟨g, o, none⟩) n ca, .slice B ml cb] w fun e w' => ∃ c F', e = .returned (.bool (decide (0 < c))) ∧ RaiseInv F m o n c F' ∧ Rw w' g N F' ∧ Only g w w' := by
  subst hlen; exact raise_any g o n ca N F B m cb w hR hF hn hN hB hO om hm
structure TkFacts (A V P q : Nat) : Prop where
  lo : A < (q + 1) * V
  hi : q * V ≤ A + P
  lt : A < P
  pos : 0 < P
  few : A < 1000000000 * V
set_option maxRecDepth 10000 in
set_option maxHeartbeats 1600000 in
theorem takeOut_any (g o ca N n : Nat) (F : Nat → Nat) (B : Option Addr) (m : List Nat) (d : Nat) (w : World) (hR : Rw w g N F) (hF : ∀ j, o ≤ j → j < o + (n + 2) → F j < 1000000000) (hn : o + (n + 2) ≤ N) (hN : N ≤ 2000)
    (hB : Sz w B m) (hO : Off B g) (om : Ok m) (hm : m.length = n + 1) (hv : 500000000 ≤ m.getD n 0) (hlt : vf F o (n + 2) < 1000000000 * val m) :
    Calls Tryd.prog 89 #[.slice (some ⟨g, o, none⟩) (n + 2) ca, .slice B (n + 1) d] w (TkPost w g o N n F (val m)) := by
  obtain ⟨b, o', rfl, hlt', hcell'⟩ := hB.at_ (by rintro rfl; simp at hm)
  have hcm := hcell' n (by omega)
  have em : m.getD n 0 = m[n] := by rw [List.getD_eq_getElem?_getD, List.getElem?_eq_getElem (by omega)]; rfl
  have hc1 := hR.cell (i := o + (n + 1)) (by omega)
  have hc0 := hR.cell (i := o + n) (by omega)
  have f1 := hF (o + (n + 1)) (by omega) (by omega)
  have f0 := hF (o + n) (by omega) (by omega)
  obtain ⟨t1, t2⟩ := top_two hF
  obtain ⟨m1, m2⟩ := top_one om hm
  rw [em] at hv m1 m2
  obtain ⟨q, hq⟩ : ∃ q, q = (F (o + (n + 1)) * 1000000000 + F (o + n)) / m[n] := ⟨_, rfl⟩
  have hq0 := guess_le (by omega) hv hq
  have hlo := guess_lo t2 m1 (by omega) hq
  have hhi := guess_hi t1 m2 hq
  have hq2 : ((F (o + (n + 1)) : Int) * 1000000000 + (F (o + n) : Int)) / (m[n] : Int) = (q : Int) := by rw [hq, two_int]
  have hP : vf F o (n + 2) < 1000000000 ^ (n + 2) := vf_lt hF
  have hP2 : q * 1000000000 ^ n ≤ 1000000000 ^ (n + 2) := by
    rw [Nat.pow_succ, Nat.pow_succ, Nat.mul_assoc, Nat.mul_comm]
    exact Nat.mul_le_mul_left _ (by omega)
  have hVP : 0 < 1000000000 ^ (n + 2) := Nat.pow_pos (by decide)
  have HL : TkFacts (vf F o (n + 2)) (val m) (1000000000 ^ (n + 2)) q := ⟨hlo, by omega, hP, hVP, hlt⟩
  clear hlo hhi t1 t2 m1 m2 hP hP2 hVP hlt hq em hcell'
  go_enter Tryd.func89, Tryd.ntmps89
  go_wp2_with fail
  have x1 : IntKind.i64.wrap ((n : Int) + 1) = (n : Int) + 1 := IntWalk.i64_in _ (by omega)
  have x2 : ((n : Int) + 1).toNat = n + 1 := by omega
  have x3 : (n : Int) + 1 < (n : Int) + 2 := by omega
  have x4 : (0 : Int) ≤ (n : Int) + 1 := by omega
  have x5 : (n : Int) < (n : Int) + 2 := by omega
  have x7 : (n : Int) < (n : Int) + 1 := by omega
  have x8 : IntKind.u64.wrap ((F (o + (n + 1)) : Int) * 1000000000) = (F (o + (n + 1)) : Int) * 1000000000 := IntWalk.u64_in _ (by omega)
  have x9 : IntKind.u64.wrap ((F (o + (n + 1)) : Int) * 1000000000 + (F (o + n) : Int)) = (F (o + (n + 1)) : Int) * 1000000000 + (F (o + n) : Int) := IntWalk.u64_in _ (by omega)
  have x10 : IntKind.u64.wrap (((F (o + (n + 1)) : Int) * 1000000000 + (F (o + n) : Int)).tdiv (m[n] : Int)) = (q : Int) := by rw [IntWalk.u64_quo _ _ (by omega), hq2]
  have x11 : IntKind.u64.wrap (F (o + (n + 1)) : Int) = (F (o + (n + 1)) : Int) := IntWalk.u64_in _ (by omega)
  have x12 : IntKind.u64.wrap (F (o + n) : Int) = (F (o + n) : Int) := IntWalk.u64_in _ (by omega)
  have x13 : IntKind.u64.wrap (m[n] : Int) = (m[n] : Int) := IntWalk.u64_in _ (by have := ok_get om (show n < m.length by omega); omega)
  go_quiet (fail)
  clear x1 x2 x3 x4 x5 x7 x8 x9 x10 x11 x12 x13
  go_wp2_with fail
  refine (lower_len g o (n + 2) ca N F _ m _ d q _ hm (hR.drewN _) hF (by omega) (by unfold maxLen; omega) (hB.drawn ⟨_, rfl⟩) hO om (by unfold maxLen; omega) hq0).mono ?_
  rintro e w2 ⟨c2, F2, rfl, hI, hR2, hO2⟩
  go_wp2_with fail
  have hst : TkInv (vf F o (n + 2)) (val m) (1000000000 ^ (n + 2)) q (decide (0 < c2)) (vf F2 o (n + 2)) := by
    have e := hI.eq
    rw [List.take_of_length_le (by omega)] at e
    exact (TkInv.start HL.lo e (vf_lt hI.ok) HL.hi HL.pos).1
  have ho2 : Only g w w2 := ((Only.refl g w).drewN nq).trans hO2
  have hout := hI.out
  have hok := hI.ok
  generalize decide (0 < c2) = bl at hst ⊢
  clear hI hO2 hq2 hcm hc1 hc0 f1 f0 hF hR
  go_loopw [6, 7] (fun tv bv wr => ∃ (t : Nat) (bl : Bool) (F' : Nat → Nat), tv = .int .u64 t ∧ t ≤ 2000000000 ∧ bv = .bool bl ∧ TkInv (vf F o (n + 2)) (val m) (1000000000 ^ (n + 2)) t bl (vf F' o (n + 2)) ∧ (∀ j, j < o ∨ o + (n + 2) ≤ j → F' j = F j) ∧ (∀ j, o ≤ j → j < o + (n + 2) → F' j < 1000000000) ∧ Rw wr g N F' ∧ Only g w wr) (fun tv _ _ => (intOf tv).toNat)
  case atStart => exact ⟨q, bl, F2, rfl, hq0, rfl, hst, hout, hok, hR2, ho2⟩
  case round =>
    clear hst ho2 hout hok hR2
    obtain ⟨t, bl, F', rfl, ht, rfl, hI, hout, hok, hR', hW⟩ := hrel
    cases bl
    · obtain ⟨e1, e2⟩ := hI.fin
      have ht2 : t < 1000000000 := by
        rw [e1]; exact Nat.div_lt_of_lt_mul (by rw [Nat.mul_comm]; exact HL.few)
      have HE := Lib.hid e1
      clear e1
      go_wp2_with fail
      go_ret
      exact ⟨F', ret_int (by rw [HE.out]), hout, hok, e2, hR', hW⟩
    · go_wp2_with fail
      refine (raise_len g o (n + 2) ca N F' _ m _ d _ hm hR' hok (by omega) (by unfold maxLen; omega) (hB.only hO hW) hO om (by unfold maxLen; omega)).mono ?_
      rintro e w3 ⟨c3, F3, rfl, hJ, hR3, hO3⟩
      have he := hJ.eq
      rw [List.take_of_length_le (by omega)] at he
      obtain ⟨h1, h2⟩ := hI.next he hJ.le HL.lt (vf_lt hJ.ok)
      have hout3 : ∀ j, j < o ∨ o + (n + 2) ≤ j → F3 j = F j := fun j hj => (hJ.out j hj).trans (hout j hj)
      have hok3 := hJ.ok
      have hW3 := hW.trans hO3
      have hb3 : (!decide (0 < c3)) = (!decide (0 < c3)) := rfl
      generalize decide (0 < c3) = b3 at h2 ⊢
      clear hI hout hok hR' hW he hJ hO3 hb3
      go_wp2_with fail
      go_roundw
      case rel => exact ⟨t - 1, !b3, F3, by go_num, by omega, rfl, h2, hout3, hok3, hR3, hW3⟩
      case measure => simp [intOf]; omega
end Go.Proofs.YtogphdflgcdiiaaDoor

import Derived.Test.YtpledghphljfkaaDoorMaf
/-
  container/heap's Push and Pop over whatever row of places a type keeps, by the contracts of its methods. 
-/
namespace Go.Proofs.YtpledghphljfkaaDoor
set_option linter.unusedVariables false
set_option linter.unusedSimpArgs false
open Go.RowKit

structure HpLs (f : Nat → Int) (T : TypeId) (p : Value) (HS : (Nat → Nat) → Nat → World → Prop) : Prop extends HpIs f T p HS where
  mlen : ∀ w, (method 260 T p "Len").run Tryd.prog w = .ok (40, p) w
  len : ∀ w a n, HS a n w → Calls Tryd.prog 40 #[p] w fun e w' => e = .returned (.int .i64 (n : Int)) ∧ HS a n w'
structure HpPu (f : Nat → Int) (T : TypeId) (p : Value) (HS : (Nat → Nat) → Nat → World → Prop) (M : Nat) : Prop extends HpLs f T p HS where
  mpush : ∀ w, (method 260 T p "Push").run Tryd.prog w = .ok (113, p) w
  push : ∀ w a n, HS a n w → n < M → Calls Tryd.prog 113 #[p, .iface 3 (.int .i64 (n : Int))] w fun e w' => e = .returned (.tuple #[]) ∧ ∃ b, HS b (n + 1) w' ∧ b n = n ∧ ∀ k, k < n → b k = a k
structure HpPo (f : Nat → Int) (T : TypeId) (p : Value) (HS : (Nat → Nat) → Nat → World → Prop) : Prop extends HpLs f T p HS where
  mpop : ∀ w, (method 260 T p "Pop").run Tryd.prog w = .ok (112, p) w
  pop : ∀ w a n, HS a (n + 1) w → Calls Tryd.prog 112 #[p] w fun e w' => e = .returned (.iface 3 (.int .i64 (a n : Int))) ∧ HS a n w'
/-- A heap of the places below n. -/
structure Hpn (f : Nat → Int) (a : Nat → Nat) (n : Nat) : Prop where
  hp : HP f a n 0
  inj : Inj a n
  con : ∀ v, Con a n v ↔ v < n
theorem Con.snoc {a b : Nat → Nat} {n v : Nat} (h1 : b n = v) (h2 : ∀ k, k < n → b k = a k) (x : Nat) : Con b (n + 1) x ↔ Con a n x ∨ x = v := by
  constructor
  · rintro ⟨k, hk, rfl⟩
    by_cases e : k = n
    · subst e; exact .inr h1
    · exact .inl ⟨k, by omega, (h2 k (by omega)).symm⟩
  · rintro (⟨k, hk, rfl⟩ | rfl)
    · exact ⟨k, by omega, h2 k hk⟩
    · exact ⟨n, by omega, h1⟩
theorem Inj.snoc {a b : Nat → Nat} {n v : Nat} (h1 : b n = v) (h2 : ∀ k, k < n → b k = a k) (hi : Inj a n) (hv : ¬ Con a n v) : Inj b (n + 1) := by
  intro i j h3 h4 he
  by_cases e1 : i = n <;> by_cases e2 : j = n
  · omega
  · exact absurd ⟨j, by omega, by rw [← h2 j (by omega), ← he, e1, h1]⟩ hv
  · exact absurd ⟨i, by omega, by rw [← h2 i (by omega), he, e2, h1]⟩ hv
  · exact hi i j (by omega) (by omega) (by rw [← h2 i (by omega), ← h2 j (by omega)]; exact he)
set_option maxRecDepth 100000 in
theorem hpush_is {f : Nat → Int} {T : TypeId} {p : Value} {HS : (Nat → Nat) → Nat → World → Prop} {M : Nat} (H : HpPu f T p HS M) {a : Nat → Nat} {n : Nat} {W : World} (hS : HS a n W) (hn : n < M) (hM : M ≤ 99999) (hP : Hpn f a n) :
    Calls Tryd.prog 39 #[.iface T p, .iface 3 (.int .i64 (n : Int))] W fun e w' => e = .returned (.tuple #[]) ∧ ∃ b, HS b (n + 1) w' ∧ Hpn f b (n + 1) := by
  have K1 := Lib.hid (H.push W a n hS hn)
  have KN := Lib.hid H.len
  have KU := Lib.hid (fun (b : Nat → Nat) w (hs : HS b (n + 1) w) (hu : Un f b (n + 1) n) => hup_is H.toHpIs hs (by omega) (by omega) hu)
  have m1 := H.mpush
  have m2 := H.mlen
  clear H
  go_enter Tryd.func39, Tryd.ntmps39
  go_wp2_with fail
  refine K1.out.mono ?_
  rintro e w1 ⟨rfl, b, hs, h1, h2⟩
  have K2 := Lib.hid (KN.out w1 b (n + 1) hs)
  have hu := Un.start hP.hp h2
  have hcon := Con.snoc h1 h2
  have hinj := Inj.snoc h1 h2 hP.inj (fun h => by have := (hP.con n).1 h; omega)
  clear hs K1 h1 h2
  go_wp2_with fail
  refine K2.out.mono ?_
  rintro e w2 ⟨rfl, hs⟩
  have K3 := Lib.hid (KU.out b w2 hs hu)
  clear hs hu
  go_wp2_with fail
  refine K3.out.mono ?_
  rintro e w3 ⟨rfl, c, hs3, h3, h4, h5⟩
  go_wp2_with fail
  go_end0
  exact ⟨rfl, c, hs3, h3, h4 hinj, fun v => (h5 v).trans ((hcon v).trans (by rw [hP.con v]; omega))⟩
set_option maxRecDepth 100000 in
theorem hpop_is {f : Nat → Int} {T : TypeId} {p : Value} {HS : (Nat → Nat) → Nat → World → Prop} (H : HpPo f T p HS) {a : Nat → Nat} {n : Nat} {W : World} (hS : HS a (n + 1) W) (hn : n < 100000) (hP : HP f a (n + 1) 0) :
    Calls Tryd.prog 41 #[.iface T p] W fun e w' => e = .returned (.iface 3 (.int .i64 (a 0 : Int))) ∧ ∃ b, HS b n w' ∧ HP f b n 0 ∧ (Inj a (n + 1) → Inj b n) ∧ ∀ v, Con b n v ↔ Con (swp a 0 n) n v := by
  have K1 := Lib.hid (H.len W a (n + 1) hS)
  have K2 := Lib.hid (fun w (hs : HS a (n + 1) w) => H.swap w a (n + 1) 0 n hs (by omega) (by omega))
  have K3 := Lib.hid (fun w (hs : HS (swp a 0 n) (n + 1) w) => hdn_is H.toHpIs (n := n) (i0 := 0) hs (by omega) (by omega) (by omega) (Dn.popped hP))
  have K4 := Lib.hid H.pop
  have m1 := H.mlen
  have m2 := H.ms
  have m3 := H.mpop
  clear H
  go_enter Tryd.func41, Tryd.ntmps41
  go_wp2_with fail
  refine K1.out.mono ?_
  rintro e w1 ⟨rfl, hs⟩
  have K5 := Lib.hid (K2.out w1 hs)
  clear hs
  go_wp2_with fail
  refine K5.out.mono ?_
  rintro e w2 ⟨rfl, hs⟩
  have K6 := Lib.hid (K3.out w2 hs)
  clear hs
  go_wp2_with fail
  refine K6.out.mono ?_
  rintro e w3 ⟨⟨c, rfl⟩, b, hs, h1, h2, h3, h4⟩
  have K7 := Lib.hid (K4.out w3 b n hs)
  have hb : b n = a 0 := (h2 n (Nat.le_refl _)).trans swp_r
  rw [hb] at K7
  clear hs
  go_wp2_with fail
  refine K7.out.mono ?_
  rintro e w4 ⟨rfl, hs4⟩
  go_wp2_with fail
  go_ret
  exact ⟨rfl, b, hs4, h1, fun hi => h3 (by
    intro i j hi1 hj1 he
    exact (hi.swp (i := 0) (j := n) (by omega) (by omega)) i j (by omega) (by omega) he), h4⟩
end Go.Proofs.YtpledghphljfkaaDoor

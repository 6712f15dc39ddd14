import Derived.Test.YtogphdflgcdiiaaDoorMbe
import Derived.Test.YtogphdflgcdiiaaDoorMbb
namespace Go.Proofs.YtogphdflgcdiiaaDoor
set_option linter.unusedVariables false
set_option linter.unusedSimpArgs false
open Go.RowKit

theorem divided_any (x y : Int) (A B : Option Addr) (l m : List Nat) (c d : Nat) (w : World) (hA : Sz w A l) (hB : Sz w B m) (ol : Ok l) (om : Ok m) (nl : Norm l) (nm : Norm m) (hv : val l = x.natAbs) (hv' : val m = y.natAbs) (hl : l.length ≤ 50) (hm : m.length ≤ 50) (hy : y ≠ 0) :
    Calls Tryd.prog 58 #[.agg #[.int .i64 x.sign, .slice A l.length c], .agg #[.int .i64 y.sign, .slice B m.length d]] w (DivPost x y w) := by
  by_cases h0 : x.sign * ((x.natAbs % y.natAbs : Nat) : Int) = 0
  · exact divided_eq x y A B l m c d w hA hB ol om nl nm hv hv' hl hm hy (.inl h0)
  · by_cases h1 : (x.sign * ((x.natAbs % y.natAbs : Nat) : Int)).sign = y.sign
    · exact divided_eq x y A B l m c d w hA hB ol om nl nm hv hv' hl hm hy (.inr h1)
    · exact divided_ne x y A B l m c d w hA hB ol om nl nm hv hv' hl hm hy h0 h1
theorem fq_abs (x y : Int) (hy : y ≠ 0) : (fq x y).natAbs ≤ x.natAbs := by
  unfold fq
  have key : ∀ a b : Int, 0 < b → (a / b).natAbs ≤ a.natAbs := by
    intro a b hb
    have h1 := Int.mul_ediv_add_emod a b
    have h2 := Int.emod_nonneg a (show b ≠ 0 by omega)
    have h3 := Int.emod_lt_of_pos a hb
    rcases Int.lt_or_le a 0 with ha | ha
    · have h4 : a / b < 0 := Int.ediv_neg_of_neg_of_pos ha hb
      have h8 : a * b ≤ a := by
        have h9 : 0 ≤ (-a) * (b - 1) := Int.mul_nonneg (by omega) (by omega)
        have h10 : (-a) * (b - 1) = a - a * b := by rw [Int.mul_sub, Int.mul_one, Int.neg_mul]; omega
        omega
      have h5 : a ≤ a / b := Int.le_ediv_of_mul_le hb h8
      omega
    · have h4 : 0 ≤ a / b := Int.ediv_nonneg ha (by omega)
      have h5 : a / b ≤ a := Int.ediv_le_self _ ha
      omega
  split
  · rename_i h; exact key x y h
  · have := key (-x) (-y) (by omega)
    omega
theorem fr_abs (x y : Int) (hy : y ≠ 0) : (fr x y).natAbs ≤ y.natAbs := by
  obtain ⟨h1, h2⟩ := fr_bd (x := x) hy
  rcases Int.lt_trichotomy y 0 with h | h | h
  · have := h2 h; omega
  · exact absurd h hy
  · have := h1 h; omega
set_option maxRecDepth 10000 in
set_option maxHeartbeats 800000 in
theorem div_does (x y : Int) (hx : x.natAbs < lim) (hy : y.natAbs < lim) (h0 : y ≠ 0) : DoesYes 56 x y (toldR (fq x y)) (toldE (fq x y)) := by
  intro A B l m c d w hA hB ol om nl nm hv hv' htab
  have l1 := vals_len nl hv hx
  have l2 := vals_len nm hv' hy
  have hD := fun w1 h1 h2 => divided_any x y A B l m c d w1 h1 h2 ol om nl nm hv hv' (by omega) (by omega) h0
  have hs0 : (y.sign == 0) = false := beq_eq_false_iff_ne.2 fun h => h0 (Int.eq_zero_of_sign_eq_zero h)
  have hZ := isZero_any y.sign false hs0
  have hl : (fq x y).natAbs < lim := Nat.lt_of_le_of_lt (fq_abs x y h0) hx
  obtain ⟨q, hq⟩ : ∃ q, q = x.sign := ⟨_, rfl⟩
  obtain ⟨q', hq'⟩ : ∃ q, q = y.sign := ⟨_, rfl⟩
  obtain ⟨q1, hq1⟩ : ∃ q, q = (fq x y).sign := ⟨_, rfl⟩
  obtain ⟨q2, hq2⟩ : ∃ q, q = (fr x y).sign := ⟨_, rfl⟩
  rw [← hq, ← hq'] at hD ⊢
  rw [← hq'] at hZ
  have HD := Lib.hid hD
  have HZ := Lib.hid hZ
  have HQ := Lib.hid (And.intro hq1 hq2)
  have HL := Lib.hid hl
  clear hD hZ hs0 hq hq' hq1 hq2 hx hy hl
  go_enter Tryd.func56, Tryd.ntmps56
  go_wp2_with fail
  have hN1 := (Nb.new w q A l.length c).alloc (.cells #[.int .i64 q', .slice B m.length d] 46)
  have hM1 := Nb.new (w.alloc (.cells #[.int .i64 q, .slice A l.length c] 46)) q' B m.length d
  rw [show (w.alloc (.cells #[.int .i64 q, .slice A l.length c] 46)).heap.size = w.heap.size + 1 by simp] at hM1
  have hW : Below w.heap.size w ((w.alloc (.cells #[.int .i64 q, .slice A l.length c] 46)).alloc (.cells #[.int .i64 q', .slice B m.length d] 46)) := ((Below.refl _ _).alloc (Nat.le_refl _) _).alloc (by simp) _
  generalize ((w.alloc (.cells #[.int .i64 q, .slice A l.length c] 46)).alloc (.cells #[.int .i64 q', .slice B m.length d] 46)) = W at hN1 hM1 hW ⊢
  have k0 := hN1.c0
  have k1 := hN1.c1
  have k2 := hM1.c0
  have k3 := hM1.c1
  refine (HZ.out _).mono ?_
  rintro e W1 ⟨rfl, rfl⟩
  go_wp2_with fail
  refine (HD.out _ (hA.below hW) (hB.below hW)).mono ?_
  rintro e w2 ⟨_, _, rfl, ⟨P1, m1, c1, rfl, hS1, ok1, nm1, hv1⟩, ⟨P2, m2, c2, rfl, hS2, ok2, nm2, hv2⟩, hb2⟩
  rw [← HQ.out.1, ← HQ.out.2]
  have hb := hW.trans (hb2.mono hW.size)
  have hWB : Below w2.heap.size w2 ((w2.alloc (.cells #[.int .i64 q1, .slice P1 m1.length c1] 46)).alloc (.cells #[.int .i64 q2, .slice P2 m2.length c2] 46)) := ((Below.refl _ _).alloc (Nat.le_refl _) _).alloc (by simp) _
  have hbb := hb.trans (hWB.mono hb.size)
  go_wp2_with fail
  refine (told_to HQ.out.1 P1 m1 c1 _ (hS1.below hWB) ok1 nm1 hv1 (Nat.le_trans (vals_len nm1 hv1 HL.out) (by decide)) (htab.below hbb)).mono ?_
  rintro e w3 ⟨rfl, hb3⟩
  go_wp2_with fail
  go_ret2
  exact ⟨rfl, hbb.trans (hb3.mono hbb.size)⟩
set_option maxRecDepth 10000 in
theorem div_zero (x : Int) : DoesYes 56 x 0 ⟨#[]⟩ 5 := by
  intro A B l m c d w hA hB ol om nl nm hv hv' htab
  have hZ := isZero_any 0 true rfl
  have HZ := Lib.hid hZ
  rw [Int.sign_zero]
  generalize x.sign = q
  clear hZ hv hv'
  go_enter Tryd.func56, Tryd.ntmps56
  go_wp2_with fail
  refine (HZ.out _).mono ?_
  rintro e W1 ⟨rfl, rfl⟩
  go_wp2_with fail
  go_ret2
  exact ⟨rfl, ((Below.refl _ _).alloc (Nat.le_refl _) _).alloc (by simp) _⟩
set_option maxRecDepth 10000 in
set_option maxHeartbeats 800000 in
theorem mod_does (x y : Int) (hx : x.natAbs < lim) (hy : y.natAbs < lim) (h0 : y ≠ 0) : DoesYes 59 x y (toldR (fr x y)) (toldE (fr x y)) := by
  intro A B l m c d w hA hB ol om nl nm hv hv' htab
  have l1 := vals_len nl hv hx
  have l2 := vals_len nm hv' hy
  have hD := fun w1 h1 h2 => divided_any x y A B l m c d w1 h1 h2 ol om nl nm hv hv' (by omega) (by omega) h0
  have hs0 : (y.sign == 0) = false := beq_eq_false_iff_ne.2 fun h => h0 (Int.eq_zero_of_sign_eq_zero h)
  have hZ := isZero_any y.sign false hs0
  have hl : (fr x y).natAbs < lim := Nat.lt_of_le_of_lt (fr_abs x y h0) hy
  obtain ⟨q, hq⟩ : ∃ q, q = x.sign := ⟨_, rfl⟩
  obtain ⟨q', hq'⟩ : ∃ q, q = y.sign := ⟨_, rfl⟩
  obtain ⟨q1, hq1⟩ : ∃ q, q = (fq x y).sign := ⟨_, rfl⟩
  obtain ⟨q2, hq2⟩ : ∃ q, q = (fr x y).sign := ⟨_, rfl⟩
  rw [← hq, ← hq'] at hD ⊢
  rw [← hq'] at hZ
  have HD := Lib.hid hD
  have HZ := Lib.hid hZ
  have HQ := Lib.hid (And.intro hq1 hq2)
  have HL := Lib.hid hl
  clear hD hZ hs0 hq hq' hq1 hq2 hx hy hl
  go_enter Tryd.func59, Tryd.ntmps59
  go_wp2_with fail
  have hN1 := (Nb.new w q A l.length c).alloc (.cells #[.int .i64 q', .slice B m.length d] 46)
  have hM1 := Nb.new (w.alloc (.cells #[.int .i64 q, .slice A l.length c] 46)) q' B m.length d
  rw [show (w.alloc (.cells #[.int .i64 q, .slice A l.length c] 46)).heap.size = w.heap.size + 1 by simp] at hM1
  have hW : Below w.heap.size w ((w.alloc (.cells #[.int .i64 q, .slice A l.length c] 46)).alloc (.cells #[.int .i64 q', .slice B m.length d] 46)) := ((Below.refl _ _).alloc (Nat.le_refl _) _).alloc (by simp) _
  generalize ((w.alloc (.cells #[.int .i64 q, .slice A l.length c] 46)).alloc (.cells #[.int .i64 q', .slice B m.length d] 46)) = W at hN1 hM1 hW ⊢
  have k0 := hN1.c0
  have k1 := hN1.c1
  have k2 := hM1.c0
  have k3 := hM1.c1
  refine (HZ.out _).mono ?_
  rintro e W1 ⟨rfl, rfl⟩
  go_wp2_with fail
  refine (HD.out _ (hA.below hW) (hB.below hW)).mono ?_
  rintro e w2 ⟨_, _, rfl, ⟨P1, m1, c1, rfl, hS1, ok1, nm1, hv1⟩, ⟨P2, m2, c2, rfl, hS2, ok2, nm2, hv2⟩, hb2⟩
  rw [← HQ.out.1, ← HQ.out.2]
  have hb := hW.trans (hb2.mono hW.size)
  have hWB : Below w2.heap.size w2 ((w2.alloc (.cells #[.int .i64 q1, .slice P1 m1.length c1] 46)).alloc (.cells #[.int .i64 q2, .slice P2 m2.length c2] 46)) := ((Below.refl _ _).alloc (Nat.le_refl _) _).alloc (by simp) _
  have hbb := hb.trans (hWB.mono hb.size)
  go_wp2_with fail
  refine (told_to HQ.out.2 P2 m2 c2 _ (hS2.below hWB) ok2 nm2 hv2 (Nat.le_trans (vals_len nm2 hv2 HL.out) (by decide)) (htab.below hbb)).mono ?_
  rintro e w3 ⟨rfl, hb3⟩
  go_wp2_with fail
  go_ret2
  exact ⟨rfl, hbb.trans (hb3.mono hbb.size)⟩
set_option maxRecDepth 10000 in
theorem mod_zero (x : Int) : DoesYes 59 x 0 ⟨#[]⟩ 5 := by
  intro A B l m c d w hA hB ol om nl nm hv hv' htab
  have hZ := isZero_any 0 true rfl
  have HZ := Lib.hid hZ
  rw [Int.sign_zero]
  generalize x.sign = q
  clear hZ hv hv'
  go_enter Tryd.func59, Tryd.ntmps59
  go_wp2_with fail
  refine (HZ.out _).mono ?_
  rintro e W1 ⟨rfl, rfl⟩
  go_wp2_with fail
  go_ret2
  exact ⟨rfl, ((Below.refl _ _).alloc (Nat.le_refl _) _).alloc (by simp) _⟩
set_option maxRecDepth 10000 in
theorem Div_yes (x y : Int) (w : World) (hx : x.natAbs < lim) (hy : y.natAbs < lim) (h0 : y ≠ 0) (htab : Tab w) : Calls Tryd.prog 28 #[.string (S x), .string (S y)] w (OpPost (fq x y) w) := by
  have hT := together_yes 56 (enters_of Tryd.func56 (by kernel_rfl) rfl) x y _ _ w hx hy htab (div_does x y hx hy h0)
  have HT := Lib.hid hT
  obtain ⟨r, hr⟩ : ∃ r, r = toldR (fq x y) := ⟨_, rfl⟩
  obtain ⟨ec, hec⟩ : ∃ r, r = toldE (fq x y) := ⟨_, rfl⟩
  rw [← hr, ← hec] at HT
  have HE := Lib.hid (And.intro hr hec)
  clear hT hr hec hx hy
  go_enter Tryd.func28, Tryd.ntmps28
  go_wp2_with fail
  refine HT.out.mono ?_
  rintro e w1 ⟨rfl, hb⟩
  go_wp2_with fail
  go_ret2
  exact ⟨by rw [← HE.out.1, ← HE.out.2]; rfl, hb⟩
set_option maxRecDepth 10000 in
theorem Div_no (s t : ByteArray) (w : World) (hs : s.size ≤ maxLen) (ht : t.size ≤ maxLen) (h : (mayL s.data.toList && mayL t.data.toList) = false) : Calls Tryd.prog 28 #[.string s, .string t] w (ArgNo w) := by
  have hT := fun fv => together_no fv s t w hs ht h
  have HT := Lib.hid hT
  clear hT h
  go_enter Tryd.func28, Tryd.ntmps28
  go_wp2_with fail
  refine (HT.out _).mono ?_
  rintro e w1 ⟨rfl, hb⟩
  go_wp2_with fail
  go_ret2
  exact ⟨rfl, hb⟩
set_option maxRecDepth 10000 in
theorem Div_zero (x : Int) (w : World) (hx : x.natAbs < lim) (htab : Tab w) : Calls Tryd.prog 28 #[.string (S x), .string (S 0)] w fun e w' => e = .returned (.tuple #[.string ⟨#[]⟩, .int .i64 5]) ∧ Below w.heap.size w w' := by
  have hT := together_yes 56 (enters_of Tryd.func56 (by kernel_rfl) rfl) x 0 _ _ w hx (by exact lim_pos) htab (div_zero x)
  have HT := Lib.hid hT
  clear hT hx
  go_enter Tryd.func28, Tryd.ntmps28
  go_wp2_with fail
  refine HT.out.mono ?_
  rintro e w1 ⟨rfl, hb⟩
  go_wp2_with fail
  go_ret2
  exact ⟨rfl, hb⟩
set_option maxRecDepth 10000 in
theorem Mod_yes (x y : Int) (w : World) (hx : x.natAbs < lim) (hy : y.natAbs < lim) (h0 : y ≠ 0) (htab : Tab w) : Calls Tryd.prog 29 #[.string (S x), .string (S y)] w (OpPost (fr x y) w) := by
  have hT := together_yes 59 (enters_of Tryd.func59 (by kernel_rfl) rfl) x y _ _ w hx hy htab (mod_does x y hx hy h0)
  have HT := Lib.hid hT
  obtain ⟨r, hr⟩ : ∃ r, r = toldR (fr x y) := ⟨_, rfl⟩
  obtain ⟨ec, hec⟩ : ∃ r, r = toldE (fr x y) := ⟨_, rfl⟩
  rw [← hr, ← hec] at HT
  have HE := Lib.hid (And.intro hr hec)
  clear hT hr hec hx hy
  go_enter Tryd.func29, Tryd.ntmps29
  go_wp2_with fail
  refine HT.out.mono ?_
  rintro e w1 ⟨rfl, hb⟩
  go_wp2_with fail
  go_ret2
  exact ⟨by rw [← HE.out.1, ← HE.out.2]; rfl, hb⟩
set_option maxRecDepth 10000 in
theorem Mod_no (s t : ByteArray) (w : World) (hs : s.size ≤ maxLen) (ht : t.size ≤ maxLen) (h : (mayL s.data.toList && mayL t.data.toList) = false) : Calls Tryd.prog 29 #[.string s, .string t] w (ArgNo w) := by
  have hT := fun fv => together_no fv s t w hs ht h
  have HT := Lib.hid hT
  clear hT h
  go_enter Tryd.func29, Tryd.ntmps29
  go_wp2_with fail
  refine (HT.out _).mono ?_
  rintro e w1 ⟨rfl, hb⟩
  go_wp2_with fail
  go_ret2
  exact ⟨rfl, hb⟩
set_option maxRecDepth 10000 in
theorem Mod_zero (x : Int) (w : World) (hx : x.natAbs < lim) (htab : Tab w) : Calls Tryd.prog 29 #[.string (S x), .string (S 0)] w fun e w' => e = .returned (.tuple #[.string ⟨#[]⟩, .int .i64 5]) ∧ Below w.heap.size w w' := by
  have hT := together_yes 59 (enters_of Tryd.func59 (by kernel_rfl) rfl) x 0 _ _ w hx (by exact lim_pos) htab (mod_zero x)
  have HT := Lib.hid hT
  clear hT hx
  go_enter Tryd.func29, Tryd.ntmps29
  go_wp2_with fail
  refine HT.out.mono ?_
  rintro e w1 ⟨rfl, hb⟩
  go_wp2_with fail
  go_ret2
  exact ⟨rfl, hb⟩
end Go.Proofs.YtogphdflgcdiiaaDoor

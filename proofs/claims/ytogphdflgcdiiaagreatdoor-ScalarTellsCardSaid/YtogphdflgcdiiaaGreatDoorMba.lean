import Derived.Test.YtogphdflgcdiiaaGreatDoorMaz
namespace Go.Proofs.YtogphdflgcdiiaaGreatDoor
set_option linter.unusedVariables false
set_option linter.unusedSimpArgs false
open Go.RowKit

def toldR (z : Int) : ByteArray := if z.natAbs < lim then S z else ⟨#[]⟩
def toldE (z : Int) : Int := if z.natAbs < lim then 0 else 8
theorem told_tuple (z : Int) : told z = .tuple #[.string (toldR z), .int .i64 (toldE z)] := by
  unfold told toldR toldE; split <;> rfl
theorem told_to {z q : Int} (hq : q = z.sign) (A : Option Addr) (l : List Nat) (c : Nat) (w : World) (hA : Sz w A l) (ol : Ok l) (nl : Norm l) (hv : val l = z.natAbs) (hl : l.length ≤ 1000) (htab : Tab w) :
    Calls Tryz.prog 59 #[.agg #[.int .i64 q, .slice A l.length c]] w fun e w' => e = .returned (.tuple #[.string (toldR z), .int .i64 (toldE z)]) ∧ Below w.heap.size w w' := by
  subst hq
  have h := told_any z A l c w hA ol nl hv hl htab
  rwa [told_tuple] at h
theorem lim12 {n : Nat} (h : n < lim) : n < 1000000000 ^ 12 := Nat.lt_of_lt_of_le h lim_lt
theorem add_lim {x y : Int} (hx : x.natAbs < lim) (hy : y.natAbs < lim) : (x + y).natAbs < 1000000000 ^ 24 := by
  have h1 := lim12 hx
  have h2 := lim12 hy
  have h3 : 1000000000 ^ 12 + 1000000000 ^ 12 ≤ 1000000000 ^ 24 := by decide
  have : (x + y).natAbs ≤ x.natAbs + y.natAbs := by omega
  omega
theorem mul_lim {x y : Int} (hx : x.natAbs < lim) (hy : y.natAbs < lim) : (x * y).natAbs < 1000000000 ^ 24 := by
  rw [Int.natAbs_mul]
  rw [show (24 : Nat) = 12 + 12 from rfl, Nat.pow_add]
  exact Nat.mul_lt_mul_of_lt_of_le (lim12 hx) (Nat.le_of_lt (lim12 hy)) (Nat.pow_pos (by decide))

set_option maxRecDepth 10000 in
set_option maxHeartbeats 800000 in
theorem add_does (x y : Int) (hx : x.natAbs < lim) (hy : y.natAbs < lim) : DoesYes 57 x y (toldR (x + y)) (toldE (x + y)) := by
  intro A B l m c d w hA hB ol om nl nm hv hv' htab
  have hP := plus_any x y A B l m c d
  obtain ⟨q, hq⟩ : ∃ q, q = x.sign := ⟨_, rfl⟩
  obtain ⟨q', hq'⟩ : ∃ q, q = y.sign := ⟨_, rfl⟩
  obtain ⟨q3, hq3⟩ : ∃ q, q = (x + y).sign := ⟨_, rfl⟩
  have l1 := vals_len nl hv hx
  have l2 := vals_len nm hv' hy
  have hl := add_lim hx hy
  rw [← hq, ← hq'] at hP ⊢
  have HP := Lib.hid hP
  have HQ := Lib.hid (And.intro hq3 hl)
  clear hP hq hq' hq3 hx hy hl
  go_enter Tryz.func57, Tryz.ntmps57
  go_wp2_with fail
  have hW : Below w.heap.size w ((w.alloc (.cells #[.int .i64 q, .slice A l.length c] 60)).alloc (.cells #[.int .i64 q', .slice B m.length d] 60)) := ((Below.refl _ _).alloc (Nat.le_refl _) _).alloc (by simp) _
  refine (HP.out _ (hA.below hW) (hB.below hW) ol om nl nm hv hv' (by omega) (by omega)).mono ?_
  rintro e w1 ⟨_, rfl, ⟨P, l3, c3, rfl, h3, ok3, nm3, hv3⟩, hb3⟩
  rw [← HQ.out.1]
  have hb := hW.trans (hb3.mono (by simp; omega))
  go_wp2_with fail
  refine (told_to HQ.out.1 P l3 c3 _ h3 ok3 nm3 hv3 (Nat.le_trans (len_of_val nm3 hv3 HQ.out.2) (by decide)) (htab.below hb)).mono ?_
  rintro e w2 ⟨rfl, hb4⟩
  go_wp2_with fail
  go_ret2
  exact ⟨rfl, hb.trans (hb4.mono hb.size)⟩
set_option maxRecDepth 10000 in
set_option maxHeartbeats 800000 in
theorem mul_does (x y : Int) (hx : x.natAbs < lim) (hy : y.natAbs < lim) : DoesYes 62 x y (toldR (x * y)) (toldE (x * y)) := by
  intro A B l m c d w hA hB ol om nl nm hv hv' htab
  have hP := times_any x y A B l m c d
  obtain ⟨q, hq⟩ : ∃ q, q = x.sign := ⟨_, rfl⟩
  obtain ⟨q', hq'⟩ : ∃ q, q = y.sign := ⟨_, rfl⟩
  obtain ⟨q3, hq3⟩ : ∃ q, q = (x * y).sign := ⟨_, rfl⟩
  have l1 := vals_len nl hv hx
  have l2 := vals_len nm hv' hy
  have hl := mul_lim hx hy
  rw [← hq, ← hq'] at hP ⊢
  have HP := Lib.hid hP
  have HQ := Lib.hid (And.intro hq3 hl)
  clear hP hq hq' hq3 hx hy hl
  go_enter Tryz.func62, Tryz.ntmps62
  go_wp2_with fail
  have hW : Below w.heap.size w ((w.alloc (.cells #[.int .i64 q, .slice A l.length c] 60)).alloc (.cells #[.int .i64 q', .slice B m.length d] 60)) := ((Below.refl _ _).alloc (Nat.le_refl _) _).alloc (by simp) _
  refine (HP.out _ (hA.below hW) (hB.below hW) ol om nl nm hv hv' (by omega) (by omega)).mono ?_
  rintro e w1 ⟨_, rfl, ⟨P, l3, c3, rfl, h3, ok3, nm3, hv3⟩, hb3⟩
  rw [← HQ.out.1]
  have hb := hW.trans (hb3.mono (by simp; omega))
  go_wp2_with fail
  refine (told_to HQ.out.1 P l3 c3 _ h3 ok3 nm3 hv3 (Nat.le_trans (len_of_val nm3 hv3 HQ.out.2) (by decide)) (htab.below hb)).mono ?_
  rintro e w2 ⟨rfl, hb4⟩
  go_wp2_with fail
  go_ret2
  exact ⟨rfl, hb.trans (hb4.mono hb.size)⟩
set_option maxRecDepth 10000 in
set_option maxHeartbeats 800000 in
theorem sub_does (x y : Int) (hx : x.natAbs < lim) (hy : y.natAbs < lim) : DoesYes 60 x y (toldR (x - y)) (toldE (x - y)) := by
  intro A B l m c d w hA hB ol om nl nm hv hv' htab
  have hN := negated_any y B m d
  obtain ⟨q, hq⟩ : ∃ q, q = x.sign := ⟨_, rfl⟩
  obtain ⟨q', hq'⟩ : ∃ q, q = y.sign := ⟨_, rfl⟩
  obtain ⟨q2, hq2⟩ : ∃ q, q = (-y).sign := ⟨_, rfl⟩
  obtain ⟨q3, hq3⟩ : ∃ q, q = (x - y).sign := ⟨_, rfl⟩
  have l1 := vals_len nl hv hx
  have l2 := vals_len nm hv' hy
  have hl : (x + -y).natAbs < 1000000000 ^ 24 := add_lim hx (by omega : (-y).natAbs < lim)
  rw [← Int.sub_eq_add_neg] at hl
  have hP := fun B' m' d' => plus_any x (-y) A B' l m' c d'
  rw [← Int.sub_eq_add_neg, ← hq, ← hq2] at hP
  rw [← hq'] at hN
  rw [← hq, ← hq'] at ⊢
  have HP := Lib.hid hP
  have HN := Lib.hid hN
  have HQ := Lib.hid (And.intro hq3 hl)
  have HQ2 := Lib.hid (And.intro hq2 hy)
  clear hP hN hq hq' hq3 hq2 hx hy hl
  go_enter Tryz.func60, Tryz.ntmps60
  go_wp2_with fail
  have hN1 := (Nb.new w q A l.length c).alloc (.cells #[.int .i64 q', .slice B m.length d] 60)
  have hM1 := Nb.new (w.alloc (.cells #[.int .i64 q, .slice A l.length c] 60)) q' B m.length d
  rw [show (w.alloc (.cells #[.int .i64 q, .slice A l.length c] 60)).heap.size = w.heap.size + 1 by simp] at hM1
  have hW : Below w.heap.size w ((w.alloc (.cells #[.int .i64 q, .slice A l.length c] 60)).alloc (.cells #[.int .i64 q', .slice B m.length d] 60)) := ((Below.refl _ _).alloc (Nat.le_refl _) _).alloc (by simp) _
  generalize ((w.alloc (.cells #[.int .i64 q, .slice A l.length c] 60)).alloc (.cells #[.int .i64 q', .slice B m.length d] 60)) = W at hN1 hM1 hW ⊢
  have hAW := hA.below hW
  have hBW := hB.below hW
  have k0 := hN1.c0
  have k1 := hN1.c1
  have k2 := hM1.c0
  have k3 := hM1.c1
  have d0 : W.drew.cell? ⟨w.heap.size, 0, none⟩ = some (.int .i64 q) := k0
  have d1 : W.drew.cell? ⟨w.heap.size, 1, none⟩ = some (.slice A l.length c) := k1
  have d2 : W.drew.cell? ⟨w.heap.size + 1, 0, none⟩ = some (.int .i64 q') := k2
  have d3 : W.drew.cell? ⟨w.heap.size + 1, 1, none⟩ = some (.slice B m.length d) := k3
  go_region_held3 (fun w' => w'.cell? ⟨w.heap.size, 0, none⟩ = some (.int .i64 q) ∧ w'.cell? ⟨w.heap.size, 1, none⟩ = some (.slice A l.length c) ∧ w'.cell? ⟨w.heap.size + 1, 0, none⟩ = some (.int .i64 q') ∧ w'.cell? ⟨w.heap.size + 1, 1, none⟩ = some (.slice B m.length d))
    (first | with_reducible exact ⟨d0, d1, d2, d3⟩ | with_reducible exact ⟨hN2.c0, hN2.c1, hM2.c0, hM2.c1⟩ | with_reducible exact ⟨hN3.c0, hN3.c1, hM3.c0, hM3.c1⟩ | with_reducible exact ⟨hN4.c0, hN4.c1, hM4.c0, hM4.c1⟩ | fail)
    (first
      | (go_at_call 61; refine (HN.out _ (by exact hBW) om nm hv').mono ?_; rintro e w1 ⟨_, rfl, ⟨P1, l1', c1, rfl, h1, ok1, nm1, hv1⟩, hb1⟩; rw [← HQ2.out.1]; have hb1 := undrew hb1; have hN2 := hN1.below hb1 hN1.lt; have hM2 := hM1.below hb1 hM1.lt; have hb2 := hW.trans (hb1.mono hW.size); have hA2 := hAW.below hb1; have l3 := vals_len nm1 (n := y.natAbs) (by rw [hv1]; omega) HQ2.out.2)
      | (go_at_call 58; refine (HP.out _ _ _ _ (by exact hA2) h1 ol ok1 nl nm1 hv hv1 (by omega) (by omega)).mono ?_; rintro e w3 ⟨_, rfl, ⟨P, l4, c3, rfl, h3, ok3, nm3, hv3⟩, hb3⟩; rw [← HQ.out.1]; have hN3 := hN2.below hb3 hN2.lt; have hM3 := hM2.below hb3 hM2.lt; have hb := hb2.trans (hb3.mono hb2.size))
      | (go_at_call 59; refine (told_to HQ.out.1 P l4 c3 _ h3 ok3 nm3 hv3 (Nat.le_trans (len_of_val nm3 hv3 HQ.out.2) (by decide)) (htab.below hb)).mono ?_; rintro e w5 ⟨rfl, hb4⟩; have hN4 := hN3.below hb4 hN3.lt; have hM4 := hM3.below hb4 hM3.lt; have hbf := hb.trans (hb4.mono hb.size)))
  go_wp2_with fail
  go_ret2
  exact ⟨rfl, hbf⟩
end Go.Proofs.YtogphdflgcdiiaaGreatDoor

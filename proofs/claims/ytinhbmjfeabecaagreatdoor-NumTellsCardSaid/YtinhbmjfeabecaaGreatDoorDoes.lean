import Derived.Test.YtinhbmjfeabecaaGreatDoorTog2
namespace Go.Proofs.YtinhbmjfeabecaaGreatDoor
open Go.RowKit

def toldR (z : Int) : ByteArray := if z.natAbs < lim then S z else ⟨#[]⟩
def toldE (z : Int) : Int := if z.natAbs < lim then 0 else 8
theorem told_tuple (z : Int) : told z = .tuple #[.string (toldR z), .int .i64 (toldE z)] := by
  unfold told toldR toldE; split <;> rfl
theorem told_to {z q : Int} (hq : q = z.sign) (A : Option Addr) (l : List Nat) (c : Nat) (w : World) (hA : Sz w A l) (ol : Ok l) (nl : Norm l) (hv : val l = z.natAbs) (hl : l.length ≤ 1000) (htab : Tab w) :
    Calls Tryz.prog 37 #[.agg #[.int .i64 q, .slice A l.length c]] w fun e w' => e = .returned (.tuple #[.string (toldR z), .int .i64 (toldE z)]) ∧ Below w.heap.size w w' := by
  subst hq
  have h := told_any z A l c w hA ol nl hv hl htab
  rwa [told_tuple] at h
theorem lim12 {n : Nat} (h : n < lim) : n < 1000000000 ^ 12 := Nat.lt_of_lt_of_le h lim_lt
theorem add_lim {x y : Int} (hx : x.natAbs < lim) (hy : y.natAbs < lim) : (x + y).natAbs < 1000000000 ^ 24 := by
  have h1 := lim12 hx
  have h2 := lim12 hy
  have h3 : 1000000000 ^ 12 + 1000000000 ^ 12 ≤ 1000000000 ^ 24 := by decide
  have : (x + y).natAbs ≤ x.natAbs + y.natAbs := by omega
  omega
theorem mul_lim {x y : Int} (hx : x.natAbs < lim) (hy : y.natAbs < lim) : (x * y).natAbs < 1000000000 ^ 24 := by
  rw [Int.natAbs_mul]
  rw [show (24 : Nat) = 12 + 12 from rfl, Nat.pow_add]
  exact Nat.mul_lt_mul_of_lt_of_le (lim12 hx) (Nat.le_of_lt (lim12 hy)) (Nat.pow_pos (by decide))

set_option maxRecDepth 10000 in
set_option maxHeartbeats 800000 in
theorem mul_does (x y : Int) (hx : x.natAbs < lim) (hy : y.natAbs < lim) : DoesYes 39 x y (toldR (x * y)) (toldE (x * y)) := by
  intro A B l m c d w hA hB ol om nl nm hv hv' htab
  have hP := times_any x y A B l m c d
  obtain ⟨q, hq⟩ : ∃ q, q = x.sign := ⟨_, rfl⟩
  obtain ⟨q', hq'⟩ : ∃ q, q = y.sign := ⟨_, rfl⟩
  obtain ⟨q3, hq3⟩ : ∃ q, q = (x * y).sign := ⟨_, rfl⟩
  have l1 := vals_len nl hv hx
  have l2 := vals_len nm hv' hy
  have hl := mul_lim hx hy
  rw [← hq, ← hq'] at hP ⊢
  have HP := Lib.hid hP
  have HQ := Lib.hid (And.intro hq3 hl)
  clear hP hq hq' hq3 hx hy hl
  go_enter Tryz.func39, Tryz.ntmps39
  go_wp2_with fail
  have hW : Below w.heap.size w ((w.alloc (.cells #[.int .i64 q, .slice A l.length c] 44)).alloc (.cells #[.int .i64 q', .slice B m.length d] 44)) := ((Below.refl _ _).alloc (Nat.le_refl _) _).alloc (by simp) _
  refine (HP.out _ (hA.below hW) (hB.below hW) ol om nl nm hv hv' (by omega) (by omega)).mono ?_
  rintro e w1 ⟨_, rfl, ⟨P, l3, c3, rfl, h3, ok3, nm3, hv3⟩, hb3⟩
  rw [← HQ.out.1]
  have hb := hW.trans (hb3.mono (by simp; omega))
  go_wp2_with fail
  refine (told_to HQ.out.1 P l3 c3 _ h3 ok3 nm3 hv3 (Nat.le_trans (len_of_val nm3 hv3 HQ.out.2) (by decide)) (htab.below hb)).mono ?_
  rintro e w2 ⟨rfl, hb4⟩
  go_wp2_with fail
  go_ret2
  exact ⟨rfl, hb.trans (hb4.mono hb.size)⟩
end Go.Proofs.YtinhbmjfeabecaaGreatDoor

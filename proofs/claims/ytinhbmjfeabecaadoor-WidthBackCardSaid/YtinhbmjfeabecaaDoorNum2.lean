import Derived.Test.YtinhbmjfeabecaaDoorNum
namespace Go.Proofs.YtinhbmjfeabecaaDoor
open Go.RowKit

def lim : Nat := 10 ^ 100
theorem lim_pos : 0 < lim := by unfold lim; exact Nat.pow_pos (by decide)
theorem digs_lim (n : Nat) : (Lib.decDigits n).length ≤ 100 ↔ n < lim := by unfold lim; exact decDigits_len_le (by decide)
/-- What is told of a number. -/
def told (x : Int) : Value := if x.natAbs < lim then .tuple #[.string (S x), .int .i64 0] else .tuple #[.string ⟨#[]⟩, .int .i64 8]
theorem told_yes {x : Int} (h : x.natAbs < lim) : told x = .tuple #[.string (S x), .int .i64 0] := by unfold told; rw [if_pos h]
theorem told_no {x : Int} (h : ¬ x.natAbs < lim) : told x = .tuple #[.string ⟨#[]⟩, .int .i64 8] := by unfold told; rw [if_neg h]

set_option maxRecDepth 10000 in
set_option maxHeartbeats 800000 in
theorem told_any (x : Int) (A : Option Addr) (l : List Nat) (c : Nat) (w : World) (hA : Sz w A l) (ol : Ok l) (nl : Norm l) (hv : val l = x.natAbs) (hl : l.length ≤ 1000) (htab : Tab w) :
    Calls Tryd.prog 40 #[.agg #[.int .i64 x.sign, .slice A l.length c]] w fun e w' => e = .returned (told x) ∧ Below w.heap.size w w' := by
  have hf := fun (w1 : World) (h1 : Below w.heap.size w w1) => figures_any A l c w1 (hA.below h1) ol nl hl (htab.below h1)
  have ht := fun (w1 : World) (h1 : Below w.heap.size w w1) => text_any x A l c w1 (hA.below h1) ol nl hv hl (htab.below h1)
  rw [hv] at hf
  obtain ⟨t, hts⟩ : ∃ t : ByteArray, t = ⟨(Lib.decDigits x.natAbs).toArray⟩ := ⟨_, rfl⟩
  have hsz : t.size = (Lib.decDigits x.natAbs).length := by rw [hts]; simp [ByteArray.size]
  rw [← hts] at hf
  obtain ⟨sg, hsg⟩ : ∃ sg, sg = x.sign := ⟨_, rfl⟩
  rw [← hsg] at ht ⊢
  have HF := Lib.hid hf
  have HT := Lib.hid ht
  by_cases hlim : x.natAbs < lim
  · have h1 : t.size ≤ 100 := by rw [hsz]; exact (digs_lim _).2 hlim
    have HE := Lib.hid (told_yes hlim)
    clear hf ht hts hsz hv hsg hlim
    go_enter Tryd.func40, Tryd.ntmps40
    go_wp2_with fail
    refine (HF.out _ ((Below.refl _ _).alloc (Nat.le_refl _) _)).mono ?_
    rintro e w1 ⟨rfl, hb⟩
    have hb1 : Below w.heap.size w w1 := ((Below.refl _ _).alloc (Nat.le_refl _) _).trans (hb.mono (by simp))
    have hc0 := hb.cell (p := ⟨w.heap.size, 0, none⟩) (by simp)
    have hc1 := hb.cell (p := ⟨w.heap.size, 1, none⟩) (by simp)
    clear hb
    go_wp2_with fail
    refine (HT.out _ hb1).mono ?_
    rintro e w2 ⟨rfl, hb2⟩
    go_wp2_with fail
    go_ret2
    exact ⟨by rw [HE.out]; rfl, hb1.trans (hb2.mono hb1.size)⟩
  · have h1 : ¬ t.size ≤ 100 := by rw [hsz]; exact fun h => hlim ((digs_lim _).1 h)
    have HE := Lib.hid (told_no hlim)
    clear hf ht hts hsz hv hsg hlim
    go_enter Tryd.func40, Tryd.ntmps40
    go_wp2_with fail
    refine (HF.out _ ((Below.refl _ _).alloc (Nat.le_refl _) _)).mono ?_
    rintro e w1 ⟨rfl, hb⟩
    have hb1 : Below w.heap.size w w1 := ((Below.refl _ _).alloc (Nat.le_refl _) _).trans (hb.mono (by simp))
    clear hb
    go_wp2_with fail
    go_ret2
    exact ⟨by rw [HE.out]; rfl, hb1⟩
theorem sign_neg_ (x : Int) : (-x).sign = -x.sign := Int.sign_neg x
theorem cmp_signs (x y : Int) (h : cmpI x.sign y.sign ≠ 0) : cmpI x.sign y.sign = cmpI x y := by
  unfold cmpI at *
  rcases Int.lt_trichotomy x 0 with hx | hx | hx <;> rcases Int.lt_trichotomy y 0 with hy | hy | hy
  all_goals first
    | rw [Int.sign_eq_neg_one_of_neg hx] at *
    | rw [Int.sign_eq_one_of_pos hx] at *
    | (rw [hx] at *; rw [Int.sign_zero] at *)
  all_goals first
    | rw [Int.sign_eq_neg_one_of_neg hy] at *
    | rw [Int.sign_eq_one_of_pos hy] at *
    | (rw [hy] at *; rw [Int.sign_zero] at *)
  all_goals first
    | (exfalso; exact h (by decide))
    | (rw [if_pos (by decide), if_pos (by omega)])
    | (rw [if_neg (by decide), if_pos (by decide), if_neg (by omega), if_pos (by omega)])
end Go.Proofs.YtinhbmjfeabecaaDoor

import Derived.Test.YtogphdflgcdiiaaGreatDoorMaq
namespace Go.Proofs.YtogphdflgcdiiaaGreatDoor
set_option linter.unusedVariables false
set_option linter.unusedSimpArgs false
open Go.RowKit

/-- A number in memory: its sign, and its size. -/
def NumV (w : World) (v : Value) (x : Int) : Prop := ∃ A l c, v = .agg #[.int .i64 x.sign, .slice A l.length c] ∧ Sz w A l ∧ Ok l ∧ Norm l ∧ val l = x.natAbs
theorem NumV.below {w w' : World} {v : Value} {x : Int} (h : NumV w v x) (hb : Below w.heap.size w w') : NumV w' v x := by
  obtain ⟨A, l, c, e, h1, h2⟩ := h
  exact ⟨A, l, c, e, h1.below hb, h2⟩
theorem NumV.conv {w : World} {v : Value} {x y : Int} (h : NumV w v x) (e : x = y) : NumV w v y := e ▸ h
theorem sign_mul_val {s : Int} {n : Nat} (hs : s = 1 ∨ s = -1) : (s * (n : Int)).sign = (if n = 0 then 0 else s) ∧ (s * (n : Int)).natAbs = n := by
  rcases hs with rfl | rfl
  · rw [Int.one_mul]
    constructor
    · split
      · rename_i h; subst h; rfl
      · exact Int.sign_eq_one_of_pos (by omega)
    · omega
  · rw [show (-1 : Int) * (n : Int) = -(n : Int) by omega]
    constructor
    · split
      · rename_i h; subst h; rfl
      · exact Int.sign_eq_neg_one_of_neg (by omega)
    · omega
def MadePost (x : Int) (w : World) (e : Ending) (w' : World) : Prop := ∃ v, e = .returned v ∧ NumV w' v x ∧ Below w.heap.size w w'
theorem made_any (s : Int) (A : Option Addr) (l : List Nat) (c : Nat) (w : World) (hA : Sz w A l) (ol : Ok l) (nl : Norm l) (hs : s = 1 ∨ s = -1 ∨ l = []) (hl : l.length ≤ 1000) :
    Calls Tryz.prog 80 #[.int .i64 s, .slice A l.length c] w (MadePost (s * (val l : Int)) w) := by
  by_cases hne : l = []
  · subst hne
    have hz : (((([] : List Nat).length : Nat) : Int) == 0) = true := by rfl
    go_enter Tryz.func80, Tryz.ntmps80
    go_wp2_with fail
    exact bodyPost_ret (v := .agg #[.int .i64 0, .slice none 0 0]) (by simp [results, Tryz.results80, go_sem]) rfl ⟨_, rfl, ⟨none, [], 0, by rw [val_nil]; simp, .inl ⟨rfl, rfl⟩, ok_nil, norm_nil, by rw [val_nil]; simp⟩, (Below.refl _ _).alloc (Nat.le_refl _) _⟩
  · have h1 : 1 ≤ l.length := List.length_pos_iff.2 hne
    have hz : (((l.length : Nat) : Int) == 0) = false := by simp; omega
    have hs2 : s = 1 ∨ s = -1 := hs.elim .inl fun h => h.elim .inr fun h => absurd h hne
    obtain ⟨e1, e2⟩ := sign_mul_val (n := val l) hs2
    rw [if_neg (fun h => hne ((norm_val_zero nl).1 h))] at e1
    go_enter Tryz.func80, Tryz.ntmps80
    go_wp2_with fail
    exact bodyPost_ret (v := .agg #[.int .i64 s, .slice A l.length c]) (by simp [results, Tryz.results80, go_sem]) rfl ⟨_, rfl, ⟨A, l, c, by rw [e1], hA.below ((Below.refl _ _).alloc (Nat.le_refl _) _), ol, nl, e2.symm⟩, (Below.refl _ _).alloc (Nat.le_refl _) _⟩

/-- A number's text. -/
def S (x : Int) : ByteArray := ⟨(Lib.itoa x).toArray⟩
theorem S_pos {n : Nat} {x : Int} (h : x.natAbs = n) (h0 : 0 ≤ x) : S x = ⟨(Lib.decDigits n).toArray⟩ := by
  unfold S Lib.itoa; rw [if_neg (by omega), show x.toNat = n by omega]
theorem S_neg {n : Nat} {x : Int} (h : x.natAbs = n) (h0 : x < 0) : S x = ⟨(45 :: Lib.decDigits n).toArray⟩ := by
  unfold S Lib.itoa; rw [if_pos h0, h]
theorem cat_hyphen (l : List UInt8) : (⟨#[45]⟩ : ByteArray) ++ ⟨l.toArray⟩ = ⟨(45 :: l).toArray⟩ := by
  apply ByteArray.ext; simp [ByteArray.data_append]
theorem sign_nn {x : Int} (h : 0 ≤ x) : decide (x.sign < 0) = false := by
  rcases Int.lt_or_eq_of_le h with h | h
  · rw [Int.sign_eq_one_of_pos h]; rfl
  · subst h; rfl
theorem digs_le0 {l : List Nat} (ol : Ok l) (hl : l.length ≤ 1000) : (Lib.decDigits (val l)).length ≤ 9000 := by
  by_cases hne : l = []
  · subst hne; rw [val_nil, decDigits_small (by omega)]; simp
  · have := digs_le ol hne 0
    rw [List.drop_zero] at this; omega
theorem isBelow_any (s : Int) (b : Bool) (hb : decide (s < 0) = b) (w : World) : Calls Tryz.prog 91 #[.int .i64 s] w fun e w' => e = .returned (.bool b) ∧ w = w' := by
  subst hb
  by_cases h : s < 0
  · go_enter Tryz.func91, Tryz.ntmps91
    go_wp2_with fail
    go_ret
    exact ⟨by simp [h], rfl⟩
  · go_enter Tryz.func91, Tryz.ntmps91
    go_wp2_with fail
    go_ret
    exact ⟨by simp [h], rfl⟩
theorem isZero_any (s : Int) (b : Bool) (hb : (s == 0) = b) (w : World) : Calls Tryz.prog 65 #[.int .i64 s] w fun e w' => e = .returned (.bool b) ∧ w = w' := by
  go_enter Tryz.func65, Tryz.ntmps65
  go_wp2_with fail
  go_ret
  exact ⟨rfl, rfl⟩
set_option maxRecDepth 10000 in
set_option maxHeartbeats 800000 in
theorem text_any (x : Int) (A : Option Addr) (l : List Nat) (c : Nat) (w : World) (hA : Sz w A l) (ol : Ok l) (nl : Norm l) (hv : val l = x.natAbs) (hl : l.length ≤ 1000) (htab : Tab w) :
    Calls Tryz.prog 77 #[.agg #[.int .i64 x.sign, .slice A l.length c]] w fun e w' => e = .returned (.string (S x)) ∧ Below w.heap.size w w' := by
  have hf := fun (w1 : World) (h1 : Below w.heap.size w w1) => figures_any A l c w1 (hA.below h1) ol nl hl (htab.below h1)
  have HF := Lib.hid hf
  clear hf
  by_cases h0 : x < 0
  · have hs : x.sign = -1 := Int.sign_eq_neg_one_of_neg h0
    rw [hs]
    have HS := Lib.hid (S_neg rfl h0)
    have hdl := digs_le0 ol hl
    rw [hv] at HF hdl
    clear hs hv
    go_enter Tryz.func77, Tryz.ntmps77
    go_wp2_with fail
    refine (isBelow_any _ true rfl _).mono ?_
    rintro e w1 ⟨rfl, rfl⟩
    go_wp2_with fail
    refine (HF.out _ ((Below.refl _ _).alloc (Nat.le_refl _) _)).mono ?_
    rintro e w1 ⟨rfl, hb⟩
    go_wp2_with fail
    go_ret
    exact ⟨ret_str (by rw [HS.out, ← cat_hyphen]; rfl), ((Below.refl _ _).alloc (Nat.le_refl _) _).trans (hb.mono (by simp))⟩
  · have hs := sign_nn (x := x) (by omega)
    have HS := Lib.hid (S_pos rfl (by omega : 0 ≤ x))
    rw [hv] at HF
    have HB := Lib.hid (isBelow_any _ _ hs)
    clear hs hv
    go_enter Tryz.func77, Tryz.ntmps77
    go_wp2_with fail
    refine (HB.out _).mono ?_
    rintro e w1 ⟨rfl, rfl⟩
    go_wp2_with fail
    refine (HF.out _ ((Below.refl _ _).alloc (Nat.le_refl _) _)).mono ?_
    rintro e w1 ⟨rfl, hb⟩
    go_wp2_with fail
    go_ret
    exact ⟨ret_str HS.out.symm, ((Below.refl _ _).alloc (Nat.le_refl _) _).trans (hb.mono (by simp))⟩
end Go.Proofs.YtogphdflgcdiiaaGreatDoor
namespace Go.Proofs.YtogphdflgcdiiaaGreatDoor
set_option linter.unusedVariables false
set_option linter.unusedSimpArgs false
open Go.RowKit

def lim : Nat := 10 ^ 100
theorem lim_pos : 0 < lim := by unfold lim; exact Nat.pow_pos (by decide)
theorem digs_lim (n : Nat) : (Lib.decDigits n).length ≤ 100 ↔ n < lim := by unfold lim; exact decDigits_len_le (by decide)
/-- What is told of a number. -/
def told (x : Int) : Value := if x.natAbs < lim then .tuple #[.string (S x), .int .i64 0] else .tuple #[.string ⟨#[]⟩, .int .i64 8]
theorem told_yes {x : Int} (h : x.natAbs < lim) : told x = .tuple #[.string (S x), .int .i64 0] := by unfold told; rw [if_pos h]
theorem told_no {x : Int} (h : ¬ x.natAbs < lim) : told x = .tuple #[.string ⟨#[]⟩, .int .i64 8] := by unfold told; rw [if_neg h]

set_option maxRecDepth 10000 in
set_option maxHeartbeats 800000 in
theorem told_any (x : Int) (A : Option Addr) (l : List Nat) (c : Nat) (w : World) (hA : Sz w A l) (ol : Ok l) (nl : Norm l) (hv : val l = x.natAbs) (hl : l.length ≤ 1000) (htab : Tab w) :
    Calls Tryz.prog 59 #[.agg #[.int .i64 x.sign, .slice A l.length c]] w fun e w' => e = .returned (told x) ∧ Below w.heap.size w w' := by
  have hf := fun (w1 : World) (h1 : Below w.heap.size w w1) => figures_any A l c w1 (hA.below h1) ol nl hl (htab.below h1)
  have ht := fun (w1 : World) (h1 : Below w.heap.size w w1) => text_any x A l c w1 (hA.below h1) ol nl hv hl (htab.below h1)
  rw [hv] at hf
  obtain ⟨t, hts⟩ : ∃ t : ByteArray, t = ⟨(Lib.decDigits x.natAbs).toArray⟩ := ⟨_, rfl⟩
  have hsz : t.size = (Lib.decDigits x.natAbs).length := by rw [hts]; simp [ByteArray.size]
  rw [← hts] at hf
  obtain ⟨sg, hsg⟩ : ∃ sg, sg = x.sign := ⟨_, rfl⟩
  rw [← hsg] at ht ⊢
  have HF := Lib.hid hf
  have HT := Lib.hid ht
  by_cases hlim : x.natAbs < lim
  · have h1 : t.size ≤ 100 := by rw [hsz]; exact (digs_lim _).2 hlim
    have HE := Lib.hid (told_yes hlim)
    clear hf ht hts hsz hv hsg hlim
    go_enter Tryz.func59, Tryz.ntmps59
    go_wp2_with fail
    refine (HF.out _ ((Below.refl _ _).alloc (Nat.le_refl _) _)).mono ?_
    rintro e w1 ⟨rfl, hb⟩
    have hb1 : Below w.heap.size w w1 := ((Below.refl _ _).alloc (Nat.le_refl _) _).trans (hb.mono (by simp))
    have hc0 := hb.cell (p := ⟨w.heap.size, 0, none⟩) (by simp)
    have hc1 := hb.cell (p := ⟨w.heap.size, 1, none⟩) (by simp)
    clear hb
    go_wp2_with fail
    refine (HT.out _ hb1).mono ?_
    rintro e w2 ⟨rfl, hb2⟩
    go_wp2_with fail
    go_ret2
    exact ⟨by rw [HE.out]; rfl, hb1.trans (hb2.mono hb1.size)⟩
  · have h1 : ¬ t.size ≤ 100 := by rw [hsz]; exact fun h => hlim ((digs_lim _).1 h)
    have HE := Lib.hid (told_no hlim)
    clear hf ht hts hsz hv hsg hlim
    go_enter Tryz.func59, Tryz.ntmps59
    go_wp2_with fail
    refine (HF.out _ ((Below.refl _ _).alloc (Nat.le_refl _) _)).mono ?_
    rintro e w1 ⟨rfl, hb⟩
    have hb1 : Below w.heap.size w w1 := ((Below.refl _ _).alloc (Nat.le_refl _) _).trans (hb.mono (by simp))
    clear hb
    go_wp2_with fail
    go_ret2
    exact ⟨by rw [HE.out]; rfl, hb1⟩
theorem sign_neg_ (x : Int) : (-x).sign = -x.sign := Int.sign_neg x
theorem negated_any (x : Int) (A : Option Addr) (l : List Nat) (c : Nat) (w : World) (hA : Sz w A l) (ol : Ok l) (nl : Norm l) (hv : val l = x.natAbs) :
    Calls Tryz.prog 61 #[.agg #[.int .i64 x.sign, .slice A l.length c]] w (MadePost (-x) w) := by
  have h1 : -1 ≤ x.sign ∧ x.sign ≤ 1 := by
    rcases Int.lt_trichotomy x 0 with h | h | h
    · rw [Int.sign_eq_neg_one_of_neg h]; omega
    · subst h; simp
    · rw [Int.sign_eq_one_of_pos h]; omega
  have h2 := sign_neg_ x
  obtain ⟨sg, hsg⟩ : ∃ sg, sg = x.sign := ⟨_, rfl⟩
  rw [← hsg] at h1 h2 ⊢
  have H2 := Lib.hid h2
  clear h2 hsg
  go_enter Tryz.func61, Tryz.ntmps61
  go_wp2_with fail
  have hb : Below w.heap.size w ((w.alloc (.cells #[.int .i64 sg, .slice A l.length c] 60)).alloc (.cells #[.int .i64 (-sg), .slice A l.length c] 60)) := ((Below.refl _ _).alloc (Nat.le_refl _) _).alloc (by simp) _
  exact bodyPost_ret (v := .agg #[.int .i64 (-sg), .slice A l.length c]) (by simp [results, Tryz.results61, go_sem]) rfl ⟨_, rfl, ⟨A, l, c, by rw [H2.out], hA.below hb, ol, nl, by rw [hv]; omega⟩, hb⟩

theorem cmp_signs (x y : Int) (h : cmpI x.sign y.sign ≠ 0) : cmpI x.sign y.sign = cmpI x y := by
  unfold cmpI at *
  rcases Int.lt_trichotomy x 0 with hx | hx | hx <;> rcases Int.lt_trichotomy y 0 with hy | hy | hy
  all_goals first
    | rw [Int.sign_eq_neg_one_of_neg hx] at *
    | rw [Int.sign_eq_one_of_pos hx] at *
    | (rw [hx] at *; rw [Int.sign_zero] at *)
  all_goals first
    | rw [Int.sign_eq_neg_one_of_neg hy] at *
    | rw [Int.sign_eq_one_of_pos hy] at *
    | (rw [hy] at *; rw [Int.sign_zero] at *)
  all_goals first
    | (exfalso; exact h (by decide))
    | (rw [if_pos (by decide), if_pos (by omega)])
    | (rw [if_neg (by decide), if_pos (by decide), if_neg (by omega), if_pos (by omega)])
end Go.Proofs.YtogphdflgcdiiaaGreatDoor

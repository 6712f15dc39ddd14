import Derived.Test.YtlhbejeninjmoaaGreatDoorMaj
import Derived.Test.YtlhbejeninjmoaaGreatDoorMai
import Derived.Deep.RegionWith
namespace Go.Proofs.YtlhbejeninjmoaaGreatDoor
set_option linter.unusedVariables false
set_option linter.unusedSimpArgs false
open Go.RowKit

def OpPost (z : Int) (w : World) (e : Ending) (w' : World) : Prop := e = .returned (.tuple #[.string (toldR z), .int .i64 (toldE z)]) ∧ Below w.heap.size w w'
set_option maxRecDepth 10000 in
theorem Add_yes (x y : Int) (w : World) (hx : x.natAbs < lim) (hy : y.natAbs < lim) (htab : Tab w) : Calls Tryz.prog 64 #[.string (S x), .string (S y)] w (OpPost (x + y) w) := by
  have hT := together_yes 92 (enters_of Tryz.func92 (by kernel_rfl) rfl) x y _ _ w hx hy htab (add_does x y hx hy)
  have HT := Lib.hid hT
  obtain ⟨r, hr⟩ : ∃ r, r = toldR (x + y) := ⟨_, rfl⟩
  obtain ⟨ec, hec⟩ : ∃ r, r = toldE (x + y) := ⟨_, rfl⟩
  rw [← hr, ← hec] at HT
  have HE := Lib.hid (And.intro hr hec)
  clear hT hr hec hx hy
  go_enter Tryz.func64, Tryz.ntmps64
  go_wp2_with fail
  refine HT.out.mono ?_
  rintro e w1 ⟨rfl, hb⟩
  go_wp2_with fail
  go_ret2
  exact ⟨by rw [← HE.out.1, ← HE.out.2]; rfl, hb⟩
set_option maxRecDepth 10000 in
theorem Add_no (s t : ByteArray) (w : World) (hs : s.size ≤ maxLen) (ht : t.size ≤ maxLen) (h : (mayL s.data.toList && mayL t.data.toList) = false) : Calls Tryz.prog 64 #[.string s, .string t] w (ArgNo w) := by
  have hT := fun fv => together_no fv s t w hs ht h
  have HT := Lib.hid hT
  clear hT h
  go_enter Tryz.func64, Tryz.ntmps64
  go_wp2_with fail
  refine (HT.out _).mono ?_
  rintro e w1 ⟨rfl, hb⟩
  go_wp2_with fail
  go_ret2
  exact ⟨rfl, hb⟩
set_option maxRecDepth 10000 in
theorem Sub_yes (x y : Int) (w : World) (hx : x.natAbs < lim) (hy : y.natAbs < lim) (htab : Tab w) : Calls Tryz.prog 65 #[.string (S x), .string (S y)] w (OpPost (x - y) w) := by
  have hT := together_yes 95 (enters_of Tryz.func95 (by kernel_rfl) rfl) x y _ _ w hx hy htab (sub_does x y hx hy)
  have HT := Lib.hid hT
  obtain ⟨r, hr⟩ : ∃ r, r = toldR (x - y) := ⟨_, rfl⟩
  obtain ⟨ec, hec⟩ : ∃ r, r = toldE (x - y) := ⟨_, rfl⟩
  rw [← hr, ← hec] at HT
  have HE := Lib.hid (And.intro hr hec)
  clear hT hr hec hx hy
  go_enter Tryz.func65, Tryz.ntmps65
  go_wp2_with fail
  refine HT.out.mono ?_
  rintro e w1 ⟨rfl, hb⟩
  go_wp2_with fail
  go_ret2
  exact ⟨by rw [← HE.out.1, ← HE.out.2]; rfl, hb⟩
set_option maxRecDepth 10000 in
theorem Sub_no (s t : ByteArray) (w : World) (hs : s.size ≤ maxLen) (ht : t.size ≤ maxLen) (h : (mayL s.data.toList && mayL t.data.toList) = false) : Calls Tryz.prog 65 #[.string s, .string t] w (ArgNo w) := by
  have hT := fun fv => together_no fv s t w hs ht h
  have HT := Lib.hid hT
  clear hT h
  go_enter Tryz.func65, Tryz.ntmps65
  go_wp2_with fail
  refine (HT.out _).mono ?_
  rintro e w1 ⟨rfl, hb⟩
  go_wp2_with fail
  go_ret2
  exact ⟨rfl, hb⟩
set_option maxRecDepth 10000 in
theorem Mul_yes (x y : Int) (w : World) (hx : x.natAbs < lim) (hy : y.natAbs < lim) (htab : Tab w) : Calls Tryz.prog 66 #[.string (S x), .string (S y)] w (OpPost (x * y) w) := by
  have hT := together_yes 97 (enters_of Tryz.func97 (by kernel_rfl) rfl) x y _ _ w hx hy htab (mul_does x y hx hy)
  have HT := Lib.hid hT
  obtain ⟨r, hr⟩ : ∃ r, r = toldR (x * y) := ⟨_, rfl⟩
  obtain ⟨ec, hec⟩ : ∃ r, r = toldE (x * y) := ⟨_, rfl⟩
  rw [← hr, ← hec] at HT
  have HE := Lib.hid (And.intro hr hec)
  clear hT hr hec hx hy
  go_enter Tryz.func66, Tryz.ntmps66
  go_wp2_with fail
  refine HT.out.mono ?_
  rintro e w1 ⟨rfl, hb⟩
  go_wp2_with fail
  go_ret2
  exact ⟨by rw [← HE.out.1, ← HE.out.2]; rfl, hb⟩
set_option maxRecDepth 10000 in
theorem Mul_no (s t : ByteArray) (w : World) (hs : s.size ≤ maxLen) (ht : t.size ≤ maxLen) (h : (mayL s.data.toList && mayL t.data.toList) = false) : Calls Tryz.prog 66 #[.string s, .string t] w (ArgNo w) := by
  have hT := fun fv => together_no fv s t w hs ht h
  have HT := Lib.hid hT
  clear hT h
  go_enter Tryz.func66, Tryz.ntmps66
  go_wp2_with fail
  refine (HT.out _).mono ?_
  rintro e w1 ⟨rfl, hb⟩
  go_wp2_with fail
  go_ret2
  exact ⟨rfl, hb⟩
set_option maxRecDepth 10000 in
set_option maxHeartbeats 800000 in
theorem Cmp_yes (x y : Int) (w : World) (hx : x.natAbs < lim) (hy : y.natAbs < lim) : Calls Tryz.prog 73 #[.string (S x), .string (S y)] w (CmpPost (cmpI x y) w) := by
  have hR := fun w => read_yes x w hx
  have hR' := fun w => read_yes y w hy
  have HR := Lib.hid hR
  have HR' := Lib.hid hR'
  obtain ⟨q, hq⟩ : ∃ q, q = x.sign := ⟨_, rfl⟩
  obtain ⟨q', hq'⟩ : ∃ q, q = y.sign := ⟨_, rfl⟩
  obtain ⟨z, hz⟩ : ∃ z, z = cmpI x y := ⟨_, rfl⟩
  have HQ := Lib.hid (And.intro hq hq')
  have hF := fun P P' l l' c c' w1 hA hB ol om nl nm (hv : val l = x.natAbs) (hv' : val l' = y.natAbs) => against_any x y P P' l l' c c' w1 hA hB ol om nl nm hv hv' (Nat.le_trans (vals_len nl hv hx) (by decide)) (Nat.le_trans (vals_len nm hv' hy) (by decide))
  rw [← hq, ← hq', ← hz] at hF
  have HF := Lib.hid hF
  have HZ := Lib.hid hz
  clear hR hR' hF hq hq' hx hy hz
  go_enter Tryz.func73, Tryz.ntmps73
  go_wp2_with fail
  refine (HR.out _).mono ?_
  rintro e w1 ⟨P, l, c, rfl, ⟨hP, ok, nm, hv⟩, hb⟩
  rw [← HQ.out.1]
  have hN := Nb.new w1 q P l.length c
  have hb1 := hb.alloc hb.size (.cells #[.int .i64 q, .slice P l.length c] 97)
  have hP1 := hP.below ((Below.refl _ _).alloc (Nat.le_refl _) (.cells #[.int .i64 q, .slice P l.length c] 97))
  go_wp2_with fail
  refine (HR'.out _).mono ?_
  rintro e w2 ⟨P', l', c', rfl, ⟨hP', ok', nm', hv'⟩, hb'⟩
  rw [← HQ.out.2]
  have hN2 := hN.below hb' hN.lt
  have hP2 := hP1.below hb'
  have hb2 := hb1.trans (hb'.mono hb1.size)
  have k0 := hN2.c0
  have k1 := hN2.c1
  have hb3 := hb2.alloc hb2.size (.cells #[.int .i64 q', .slice P' l'.length c'] 97)
  have hP3 := hP2.below ((Below.refl _ _).alloc (Nat.le_refl _) (.cells #[.int .i64 q', .slice P' l'.length c'] 97))
  have hP3' := hP'.below ((Below.refl _ _).alloc (Nat.le_refl _) (.cells #[.int .i64 q', .slice P' l'.length c'] 97))
  have hN3 := hN2.alloc (.cells #[.int .i64 q', .slice P' l'.length c'] 97)
  have m0 := hN3.c0
  have m1 := hN3.c1
  clear hN hN2 hb hb' hb1
  go_wp2_with fail
  refine (HF.out P P' l l' c c' _ hP3 hP3' ok ok' nm nm' hv hv').mono ?_
  rintro e w4 ⟨rfl, hb4⟩
  go_wp2_with fail
  go_ret
  exact ⟨ret_int HZ.out, hb3.trans (hb4.mono hb3.size)⟩
set_option maxRecDepth 10000 in
set_option maxHeartbeats 800000 in
theorem Cmp_no (s t : ByteArray) (w : World) (hs : s.size ≤ maxLen) (ht : t.size ≤ maxLen) (h : (mayL s.data.toList && mayL t.data.toList) = false) : Calls Tryz.prog 73 #[.string s, .string t] w (CmpPost 0 w) := by
  have hR := fun w => read_any s w hs
  have hR' := fun w => read_any t w ht
  obtain ⟨b1, hb1⟩ : ∃ b, b = mayL s.data.toList := ⟨_, rfl⟩
  obtain ⟨b2, hb2⟩ : ∃ b, b = mayL t.data.toList := ⟨_, rfl⟩
  rw [← hb1] at hR h
  rw [← hb2] at hR' h
  have HR := Lib.hid hR
  have HR' := Lib.hid hR'
  clear hR hR' hb1 hb2
  cases b1
  · clear h
    go_enter Tryz.func73, Tryz.ntmps73
    go_wp2_with fail
    refine (HR.out _).mono ?_
    rintro e w1 ⟨q, P, n, c, rfl, hb⟩
    have hb1 := hb.alloc hb.size (.cells #[.int .i64 q, .slice P n c] 97)
    go_wp2_with fail
    refine (HR'.out _).mono ?_
    rintro e w2 ⟨q', P', n', c', rfl, hb'⟩
    have hb2 := hb1.trans (hb'.mono hb1.size)
    go_wp2_with fail
    go_ret
    exact ⟨rfl, hb2.alloc hb2.size _⟩
  · have h2 : b2 = false := by simpa using h
    subst h2
    clear h
    go_enter Tryz.func73, Tryz.ntmps73
    go_wp2_with fail
    refine (HR.out _).mono ?_
    rintro e w1 ⟨q, P, n, c, rfl, hb⟩
    have hb1 := hb.alloc hb.size (.cells #[.int .i64 q, .slice P n c] 97)
    go_wp2_with fail
    refine (HR'.out _).mono ?_
    rintro e w2 ⟨q', P', n', c', rfl, hb'⟩
    have hb2 := hb1.trans (hb'.mono hb1.size)
    go_wp2_with fail
    go_ret
    exact ⟨rfl, hb2.alloc hb2.size _⟩
theorem Of_any (n : Int) (h0 : -9223372036854775808 ≤ n) (h1 : n ≤ 9223372036854775807) (w : World) (htab : Tab w) : Calls Tryz.prog 88 #[.int .i64 n] w fun e w' => e = .returned (.string (S n)) ∧ Below w.heap.size w w' := by
  have hF := Tryz.strconv_FormatInt_10 n h0 h1 w htab.is
  have HF := Lib.hid hF
  clear hF h0 h1
  go_enter Tryz.func88, Tryz.ntmps88
  go_wp2_with fail
  refine HF.out.mono ?_
  rintro e w1 ⟨rfl, k, os, rfl⟩
  go_wp2_with fail
  go_ret
  exact ⟨rfl, Lib.below_grow _ w (Nat.le_refl _) k os⟩
end Go.Proofs.YtlhbejeninjmoaaGreatDoor
namespace Go.Proofs.YtlhbejeninjmoaaGreatDoor
set_option linter.unusedVariables false
set_option linter.unusedSimpArgs false
open Go.RowKit

/-- What a text is: this number, or none. -/
def Is (s : ByteArray) : Option Int → Prop
  | some x => s = S x ∧ x.natAbs < lim
  | none => mayL s.data.toList = false ∧ s.size ≤ maxLen
theorem is_ex (s : ByteArray) (hs : s.size ≤ maxLen) : ∃ o, Is s o := by
  cases h : mayL s.data.toList
  · exact ⟨none, h, hs⟩
  · obtain ⟨x, hx, hl⟩ := mayL_is h
    refine ⟨some x, ?_, hl⟩
    obtain ⟨⟨d⟩⟩ := s
    show _ = (⟨(Lib.itoa x).toArray⟩ : ByteArray)
    have : d = Lib.itoa x := hx
    rw [this]
def T : Option Int → ByteArray
  | some x => S x
  | none => ⟨#[]⟩
theorem is_T {o : Option Int} (h : ∀ x, o = some x → x.natAbs < lim) : Is (T o) o := by
  cases o with
  | none => exact ⟨by rfl, Nat.zero_le _⟩
  | some x => exact ⟨rfl, h x rfl⟩
theorem Is.lt {s : ByteArray} {x : Int} (h : Is s (some x)) : x.natAbs < lim := h.2
theorem Is.bd {s : ByteArray} {o : Option Int} (h : Is s o) : ∀ x, o = some x → x.natAbs < lim := by
  intro x hx; subst hx; exact h.2
theorem Is.size {s : ByteArray} {o : Option Int} (h : Is s o) : s.size ≤ maxLen := by
  cases o with
  | none => exact h.2
  | some x => rw [h.1]; exact Nat.le_trans (S_size h.2) (by decide)
theorem Is.may {s : ByteArray} {o : Option Int} (h : Is s o) : mayL s.data.toList = o.isSome := by
  cases o with
  | none => exact h.1
  | some x => rw [h.1]; exact (mayL_itoa x).2 h.2
theorem S_inj {x y : Int} (h : S x = S y) : x = y := by
  apply itoa_inj
  have := congrArg (fun s : ByteArray => s.data.toList) h
  simpa [S] using this
def op (f : Int → Int → Int) : Option Int → Option Int → Option Int
  | some x, some y => if (f x y).natAbs < lim then some (f x y) else none
  | _, _ => none
def opE (f : Int → Int → Int) : Option Int → Option Int → Int
  | some x, some y => toldE (f x y)
  | _, _ => 1
theorem op_bd {f : Int → Int → Int} {o p : Option Int} : ∀ x, op f o p = some x → x.natAbs < lim := by
  intro x h
  cases o <;> cases p <;> simp only [op] at h
  · cases h
  · cases h
  · cases h
  · split at h
    · cases h; assumption
    · cases h
theorem op_told (f : Int → Int → Int) (x y : Int) : T (op f (some x) (some y)) = toldR (f x y) := by
  simp only [op, toldR]; split <;> rfl
theorem opE_zero {f : Int → Int → Int} {o p : Option Int} (h : opE f o p = 0) : ∃ x y, o = some x ∧ p = some y ∧ (f x y).natAbs < lim ∧ op f o p = some (f x y) := by
  cases o with
  | none => cases p <;> exact absurd h (show ¬ (1 : Int) = 0 by decide)
  | some x => ?_
  cases p with
  | none => exact absurd h (show ¬ (1 : Int) = 0 by decide)
  | some y => ?_
  simp only [opE] at h
  unfold toldE at h
  split at h
  · rename_i hl; exact ⟨x, y, rfl, rfl, hl, by simp only [op]; rw [if_pos hl]⟩
  · exact absurd h (by decide)
theorem opE_zero_of {f : Int → Int → Int} {x y : Int} (h : (f x y).natAbs < lim) : opE f (some x) (some y) = 0 := by
  simp only [opE, toldE]; rw [if_pos h]
def OptPost (r : Option Int) (ec : Int) (w : World) (e : Ending) (w' : World) : Prop := e = .returned (.tuple #[.string (T r), .int .i64 ec]) ∧ Below w.heap.size w w'
theorem OpPost.opt {f : Int → Int → Int} {x y : Int} {w : World} {e : Ending} {w' : World} (h : OpPost (f x y) w e w') : OptPost (op f (some x) (some y)) (opE f (some x) (some y)) w e w' := by
  unfold OptPost; rw [op_told]; exact h
theorem ArgNo.opt {f : Int → Int → Int} {o p : Option Int} {w : World} {e : Ending} {w' : World} (hn : (o.isSome && p.isSome) = false) (h : ArgNo w e w') : OptPost (op f o p) (opE f o p) w e w' := by
  cases o <;> cases p <;> first | exact h | exact absurd hn (by simp)
theorem two_no {s t : ByteArray} {o p : Option Int} (hs : Is s o) (ht : Is t p) (hn : (o.isSome && p.isSome) = false) : (mayL s.data.toList && mayL t.data.toList) = false := by rw [hs.may, ht.may]; exact hn

theorem Add_opt {s t : ByteArray} {o p : Option Int} (w : World) (hs : Is s o) (ht : Is t p) (htab : Tab w) : Calls Tryz.prog 64 #[.string s, .string t] w (OptPost (op (fun x y => x + y) o p) (opE (fun x y => x + y) o p) w) := by
  cases hn : (o.isSome && p.isSome)
  · exact (Add_no s t w hs.size ht.size (two_no hs ht hn)).mono fun e w' h => ArgNo.opt hn h
  · cases o <;> cases p <;> simp at hn
    rw [hs.1, ht.1]
    exact (Add_yes _ _ w hs.2 ht.2 htab).mono fun e w' h => OpPost.opt (f := fun x y => x + y) h
theorem Sub_opt {s t : ByteArray} {o p : Option Int} (w : World) (hs : Is s o) (ht : Is t p) (htab : Tab w) : Calls Tryz.prog 65 #[.string s, .string t] w (OptPost (op (fun x y => x - y) o p) (opE (fun x y => x - y) o p) w) := by
  cases hn : (o.isSome && p.isSome)
  · exact (Sub_no s t w hs.size ht.size (two_no hs ht hn)).mono fun e w' h => ArgNo.opt hn h
  · cases o <;> cases p <;> simp at hn
    rw [hs.1, ht.1]
    exact (Sub_yes _ _ w hs.2 ht.2 htab).mono fun e w' h => OpPost.opt (f := fun x y => x - y) h
theorem Mul_opt {s t : ByteArray} {o p : Option Int} (w : World) (hs : Is s o) (ht : Is t p) (htab : Tab w) : Calls Tryz.prog 66 #[.string s, .string t] w (OptPost (op (fun x y => x * y) o p) (opE (fun x y => x * y) o p) w) := by
  cases hn : (o.isSome && p.isSome)
  · exact (Mul_no s t w hs.size ht.size (two_no hs ht hn)).mono fun e w' h => ArgNo.opt hn h
  · cases o <;> cases p <;> simp at hn
    rw [hs.1, ht.1]
    exact (Mul_yes _ _ w hs.2 ht.2 htab).mono fun e w' h => OpPost.opt (f := fun x y => x * y) h
def cmpO : Option Int → Option Int → Int
  | some x, some y => cmpI x y
  | _, _ => 0
theorem Cmp_opt {s t : ByteArray} {o p : Option Int} (w : World) (hs : Is s o) (ht : Is t p) : Calls Tryz.prog 73 #[.string s, .string t] w (CmpPost (cmpO o p) w) := by
  cases hn : (o.isSome && p.isSome)
  · refine (Cmp_no s t w hs.size ht.size (two_no hs ht hn)).mono fun e w' h => ?_
    cases o <;> cases p <;> first | exact h | exact absurd hn (by simp)
  · cases o <;> cases p <;> simp at hn
    rw [hs.1, ht.1]
    exact Cmp_yes _ _ w hs.2 ht.2
def sgnO : Option Int → Int
  | some x => x.sign
  | none => 0
theorem Sign_opt {s : ByteArray} {o : Option Int} (w : World) (hs : Is s o) : Calls Tryz.prog 86 #[.string s] w (CmpPost (sgnO o) w) := by
  cases o with
  | none => exact sign_no s w hs.2 hs.1
  | some x => rw [hs.1]; exact sign_yes x w hs.2
theorem May_opt {s : ByteArray} {o : Option Int} (w : World) (hs : Is s o) : Calls Tryz.prog 43 #[.string s] w (MayPost o.isSome w) := by
  rw [← hs.may]; exact may_any s w hs.size
def negO : Option Int → Option Int
  | some x => some (-x)
  | none => none
theorem negO_bd {s : ByteArray} {o : Option Int} (h : Is s o) : ∀ x, negO o = some x → x.natAbs < lim := by
  intro x hx
  cases o with
  | none => cases hx
  | some y => cases hx; rw [Int.natAbs_neg]; exact h.2
theorem Neg_opt {s : ByteArray} {o : Option Int} (w : World) (hs : Is s o) (htab : Tab w) : Calls Tryz.prog 84 #[.string s] w fun e w' => e = .returned (.string (T (negO o))) ∧ Below w.heap.size w w' := by
  cases o with
  | none => exact neg_no s w hs.2 hs.1
  | some x => rw [hs.1]; exact neg_yes x w hs.2 htab
end Go.Proofs.YtlhbejeninjmoaaGreatDoor
namespace Go.Proofs.YtlhbejeninjmoaaGreatDoor
set_option linter.unusedVariables false
set_option linter.unusedSimpArgs false
open Go.RowKit

theorem Sz.drew_ {w : World} {A : Option Addr} {l : List Nat} (h : Sz w A l) : Sz w.drew A l := h
theorem B4.drew {w W : World} {s0 s1 s2 s3 : Int} {P0 P1 P2 P3 : Option Addr} {n0 n1 n2 n3 c0 c1 c2 c3 : Nat} (h : B4 w W s0 P0 n0 c0 s1 P1 n1 c1 s2 P2 n2 c2 s3 P3 n3 c3) : B4 w W.drew s0 P0 n0 c0 s1 P1 n1 c1 s2 P2 n2 c2 s3 P3 n3 c3 := ⟨h.a, h.b, h.r, h.t, h.bel.drew⟩
def DivPost (x y : Int) (w : World) (e : Ending) (w' : World) : Prop := ∃ v u, e = .returned (.tuple #[v, u]) ∧ NumV w' v (fq x y) ∧ NumV w' u (fr x y) ∧ Below w.heap.size w w'
theorem wrap_signs (x y : Int) : IntKind.i64.wrap (x.sign * y.sign) = x.sign * y.sign := by
  rcases sign_cases x with h | h | h <;> rcases sign_cases y with h' | h' | h' <;> first | (rw [h, h']; rfl) | (rw [h, h']; simp; rfl) | (subst h; simp; rfl) | (subst h'; simp; rfl)
theorem sgn_or (x y : Int) : x.sign * y.sign = 1 ∨ x.sign * y.sign = -1 ∨ (x = 0 ∨ y = 0) := by
  rcases sign_cases x with h | h | h <;> rcases sign_cases y with h' | h' | h'
  · rw [h, h']; exact .inl rfl
  · rw [h, h']; exact .inr (.inl rfl)
  · exact .inr (.inr (.inr h'))
  · rw [h, h']; exact .inr (.inl rfl)
  · rw [h, h']; exact .inl rfl
  · exact .inr (.inr (.inr h'))
  · exact .inr (.inr (.inl h))
  · exact .inr (.inr (.inl h))
  · exact .inr (.inr (.inl h))

set_option maxRecDepth 10000 in
set_option maxHeartbeats 800000 in
theorem divided_eq (x y : Int) (A B : Option Addr) (l m : List Nat) (c d : Nat) (w : World) (hA : Sz w A l) (hB : Sz w B m) (ol : Ok l) (om : Ok m) (nl : Norm l) (nm : Norm m) (hv : val l = x.natAbs) (hv' : val m = y.natAbs) (hl : l.length ≤ 50) (hm : m.length ≤ 50) (hy : y ≠ 0)
    (hcase : x.sign * ((x.natAbs % y.natAbs : Nat) : Int) = 0 ∨ (x.sign * ((x.natAbs % y.natAbs : Nat) : Int)).sign = y.sign) :
    Calls Tryz.prog 101 #[.agg #[.int .i64 x.sign, .slice A l.length c], .agg #[.int .i64 y.sign, .slice B m.length d]] w (DivPost x y w) := by
  have hcut := fun (w1 : World) hA1 hB1 => cut_any A B l m c d w1 hA1 hB1 ol om nl nm (by omega) (by omega) (by rintro rfl; rw [val_nil] at hv'; omega)
  rw [hv, hv'] at hcut
  have a1 := val_lt ol
  rw [hv] at a1
  have a2 := pow_le_100 a1 (by omega)
  have a3 := sum_lt_200 (b := 0) a2 (by omega)
  have hq := Nat.div_le_self x.natAbs y.natAbs
  have hr := Nat.mod_le x.natAbs y.natAbs
  obtain ⟨e1, e2⟩ := div_exact hy hcase
  have s1 : IntKind.i64.wrap (x.sign * y.sign) = 1 ∨ IntKind.i64.wrap (x.sign * y.sign) = -1 ∨ x.natAbs / y.natAbs = 0 := by
    rw [wrap_signs]
    exact cases3 (sgn_or x y) fun h => h.elim (fun h => by rw [h]; simp) (fun h => absurd h hy)
  have s2 : x.sign = 1 ∨ x.sign = -1 ∨ x.natAbs % y.natAbs = 0 := cases3 (sign_cases x) fun h => by rw [h]; simp
  obtain ⟨q1, hq1⟩ : ∃ q, q = (fq x y).sign := ⟨_, rfl⟩
  obtain ⟨q2, hq2⟩ : ∃ q, q = (fr x y).sign := ⟨_, rfl⟩
  have HM1 := Lib.hid (made_for (IntKind.i64.wrap (x.sign * y.sign)) (z := fq x y) (q := q1) (n := x.natAbs / y.natAbs) (by rw [wrap_signs]; exact e1.symm) hq1.symm s1 (by omega))
  have HM2 := Lib.hid (made_for x.sign (z := fr x y) (q := q2) (n := x.natAbs % y.natAbs) e2.symm hq2.symm s2 (by omega))
  have hc2 : q2 = 0 ∨ q2 = y.sign := by
    rw [hq2, e2]
    rcases hcase with h | h
    · rw [h]; exact .inl rfl
    · exact .inr h
  have HQ := Lib.hid (And.intro hq1 hq2)
  have H1 := Lib.hid hcut
  obtain ⟨sx, hsx⟩ : ∃ sx, sx = x.sign := ⟨_, rfl⟩
  obtain ⟨sy, hsy⟩ : ∃ sy, sy = y.sign := ⟨_, rfl⟩
  rw [← hsy] at hc2
  rw [← hsx, ← hsy] at HM1 ⊢
  rw [← hsx] at HM2
  obtain ⟨p, hp⟩ : ∃ p, IntKind.i64.wrap (sx * sy) = p := ⟨_, rfl⟩
  rw [hp] at HM1
  clear hcut a1 a2 a3 hq hr e1 e2 s1 s2 hq1 hq2 hsx hsy hcase hv hv'
  go_enter Tryz.func101, Tryz.ntmps101
  go_wp2_with fail
  have hbox := b4_new w sx A l.length c sy B m.length d
  generalize ((((w.alloc (.cells #[.int .i64 sx, .slice A l.length c] 97)).alloc (.cells #[.int .i64 sy, .slice B m.length d] 97)).alloc (.cells #[.int .i64 0, .slice none 0 0] 97)).alloc (.cells #[.int .i64 0, .slice none 0 0] 97)) = W3 at hbox ⊢
  refine (H1.out _ (hA.below hbox.bel) (hB.below hbox.bel)).mono ?_
  rintro e W4 ⟨_, _, rfl, ⟨Q, lq, qc, rfl, hQ, okq, nmq, hvq⟩, ⟨R, lr, rc, rfl, hR, okr, nmr, hvr⟩, hb4⟩
  have hbox0 := hbox.below hb4
  clear hbox hb4
  have k0 := hbox0.a.c0
  have k1 := hbox0.b.c0
  have k0' : W4.drew.cell? ⟨w.heap.size, 0, none⟩ = some (.int .i64 sx) := k0
  have k1' : W4.drew.cell? ⟨w.heap.size + 1, 0, none⟩ = some (.int .i64 sy) := k1
  go_wp2_with fail
  go_region_held3 (fun w' => w'.cell? ⟨w.heap.size, 0, none⟩ = some (.int .i64 sx) ∧ w'.cell? ⟨w.heap.size + 1, 0, none⟩ = some (.int .i64 sy))
    (first | with_reducible exact ⟨hbox0.a.c0, hbox0.b.c0⟩ | with_reducible exact ⟨k0', k1'⟩ | with_reducible exact ⟨hbox1.a.c0, hbox1.b.c0⟩ | with_reducible exact ⟨hbox2.a.c0, hbox2.b.c0⟩ | with_reducible exact ⟨(hbox2.set_r _ _ _ _).a.c0, (hbox2.set_r _ _ _ _).b.c0⟩ | with_reducible exact ⟨((hbox2.set_r _ _ _ _).set_t _ _ _ _).a.c0, ((hbox2.set_r _ _ _ _).set_t _ _ _ _).b.c0⟩ | fail)
    (first
      | (go_at_call_of 116 (Value.int .i64 p); refine (HM1.out _ Q lq qc (by exact hQ) okq nmq hvq).mono ?_; rintro e w5 ⟨P5, l5, c5, rfl, hP5, ok5, nm5, hv5, hb5⟩; (first | have hbox1 := hbox0.below (undrew hb5) | have hbox1 := hbox0.below hb5); (first | have hR1 := hR.below (undrew hb5) | have hR1 := hR.below hb5))
      | (go_at_call_of 116 (Value.int .i64 sx); refine (HM2.out _ R lr rc (by exact hR1) okr nmr hvr).mono ?_; rintro e w6 ⟨P6, l6, c6, rfl, hP6, ok6, nm6, hv6, hb6⟩; have hbox2 := hbox1.below hb6; have hP5' := hP5.below hb6; have y0 := hbox2.r.c0; have y1 := hbox2.r.c1; have y2 := hbox2.t.c0; have y3 := hbox2.t.c1; have f0 := hbox2.r.f 0; have f1 := hbox2.r.f 1; have f2 := hbox2.t.f 0; have f3 := hbox2.t.f 1))
  have hbox3 := (hbox2.set_r q1 P5 l5.length c5).set_t q2 P6 l6.length c6
  have hS5 := (hP5'.far hbox2.r.far (Only.two _ _ (.int .i64 q1) (.slice P5 l5.length c5))).far (hbox2.set_r q1 P5 l5.length c5).t.far (Only.two _ _ (.int .i64 q2) (.slice P6 l6.length c6))
  have hS6 := (hP6.far hbox2.r.far (Only.two _ _ (.int .i64 q1) (.slice P5 l5.length c5))).far (hbox2.set_r q1 P5 l5.length c5).t.far (Only.two _ _ (.int .i64 q2) (.slice P6 l6.length c6))
  generalize ((((w6.setCell ⟨w.heap.size + 1 + 1, 0, none⟩ (.int .i64 q1)).setCell ⟨w.heap.size + 1 + 1, 1, none⟩ (.slice P5 l5.length c5)).setCell ⟨w.heap.size + 1 + 1 + 1, 0, none⟩ (.int .i64 q2)).setCell ⟨w.heap.size + 1 + 1 + 1, 1, none⟩ (.slice P6 l6.length c6)) = W7 at hbox3 hS5 hS6 ⊢
  clear hbox0 hbox1 hbox2 hb5 hb6 y0 y1 y2 y3 f0 f1 f2 f3 k0 k1 k0' k1' hP5 hP5' hP6 hQ hR hR1 HM1 HM2 H1 hp
  have t0 := hbox3.t.c0
  have t1 := hbox3.t.c1
  have r0 := hbox3.r.c0
  have r1 := hbox3.r.c1
  have b0 := hbox3.b.c0
  have f0 := hbox3.r.f 0
  have f1 := hbox3.r.f 1
  have f2 := hbox3.t.f 0
  have f3 := hbox3.t.f 1
  have hbox4 := hbox3.drew
  have hbox5 := (hbox3.set_r q1 P5 l5.length c5).drew
  have hbox6 := ((hbox3.set_r q1 P5 l5.length c5).set_t q2 P6 l6.length c6).drew
  have hT5 : Sz ((((W7.setCell ⟨w.heap.size + 1 + 1, 0, none⟩ (.int .i64 q1)).setCell ⟨w.heap.size + 1 + 1, 1, none⟩ (.slice P5 l5.length c5)).setCell ⟨w.heap.size + 1 + 1 + 1, 0, none⟩ (.int .i64 q2)).setCell ⟨w.heap.size + 1 + 1 + 1, 1, none⟩ (.slice P6 l6.length c6)).drew P5 l5 :=
    Sz.drew_ ((hS5.far hbox3.r.far (Only.two _ _ (.int .i64 q1) (.slice P5 l5.length c5))).far (hbox3.set_r q1 P5 l5.length c5).t.far (Only.two _ _ (.int .i64 q2) (.slice P6 l6.length c6)))
  have hT6 : Sz ((((W7.setCell ⟨w.heap.size + 1 + 1, 0, none⟩ (.int .i64 q1)).setCell ⟨w.heap.size + 1 + 1, 1, none⟩ (.slice P5 l5.length c5)).setCell ⟨w.heap.size + 1 + 1 + 1, 0, none⟩ (.int .i64 q2)).setCell ⟨w.heap.size + 1 + 1 + 1, 1, none⟩ (.slice P6 l6.length c6)).drew P6 l6 :=
    Sz.drew_ ((hS6.far hbox3.r.far (Only.two _ _ (.int .i64 q1) (.slice P5 l5.length c5))).far (hbox3.set_r q1 P5 l5.length c5).t.far (Only.two _ _ (.int .i64 q2) (.slice P6 l6.length c6)))
  go_wp2_with fail
  by_cases h0 : q2 = 0
  · subst h0
    refine (isZero_any _ true rfl _).mono ?_
    rintro e W8 ⟨rfl, rfl⟩
    go_wp2_with fail
    go_region_held3 (fun w' => w'.cell? ⟨w.heap.size + 1 + 1, 0, none⟩ = some (.int .i64 q1) ∧ w'.cell? ⟨w.heap.size + 1 + 1, 1, none⟩ = some (.slice P5 l5.length c5) ∧ w'.cell? ⟨w.heap.size + 1 + 1 + 1, 0, none⟩ = some (.int .i64 0) ∧ w'.cell? ⟨w.heap.size + 1 + 1 + 1, 1, none⟩ = some (.slice P6 l6.length c6))
      (first | with_reducible exact ⟨hbox4.r.c0, hbox4.r.c1, hbox4.t.c0, hbox4.t.c1⟩ | with_reducible exact ⟨hbox5.r.c0, hbox5.r.c1, hbox5.t.c0, hbox5.t.c1⟩ | with_reducible exact ⟨hbox6.r.c0, hbox6.r.c1, hbox6.t.c0, hbox6.t.c1⟩ | fail) (fail)
    have z0 := hbox6.r.c0
    have z1 := hbox6.r.c1
    have z2 := hbox6.t.c0
    have z3 := hbox6.t.c1
    go_wp2_with fail
    exact bodyPost_ret (v := .tuple #[.agg #[.int .i64 q1, .slice P5 l5.length c5], .agg #[.int .i64 0, .slice P6 l6.length c6]]) (by simp [results, Tryz.results101, go_sem, z0, z1, z2, z3]) rfl ⟨_, _, rfl, ⟨P5, l5, c5, by rw [← HQ.out.1], hT5, ok5, nm5, hv5⟩, ⟨P6, l6, c6, by rw [← HQ.out.2], hT6, ok6, nm6, hv6⟩, hbox6.bel⟩
  · have h1 : q2 = sy := by rcases hc2 with h | h; exact absurd h h0; exact h
    refine (isZero_any _ false (beq_eq_false_iff_ne.2 h0) _).mono ?_
    rintro e W8 ⟨rfl, rfl⟩
    have hn : (q2 != sy) = false := by rw [h1]; simp
    clear h1 hc2
    go_wp2_with fail
    go_region_held3 (fun w' => w'.cell? ⟨w.heap.size + 1 + 1, 0, none⟩ = some (.int .i64 q1) ∧ w'.cell? ⟨w.heap.size + 1 + 1, 1, none⟩ = some (.slice P5 l5.length c5) ∧ w'.cell? ⟨w.heap.size + 1 + 1 + 1, 0, none⟩ = some (.int .i64 q2) ∧ w'.cell? ⟨w.heap.size + 1 + 1 + 1, 1, none⟩ = some (.slice P6 l6.length c6))
      (first | with_reducible exact ⟨hbox4.r.c0, hbox4.r.c1, hbox4.t.c0, hbox4.t.c1⟩ | with_reducible exact ⟨hbox5.r.c0, hbox5.r.c1, hbox5.t.c0, hbox5.t.c1⟩ | with_reducible exact ⟨hbox6.r.c0, hbox6.r.c1, hbox6.t.c0, hbox6.t.c1⟩ | fail) (fail)
    have z0 := hbox6.r.c0
    have z1 := hbox6.r.c1
    have z2 := hbox6.t.c0
    have z3 := hbox6.t.c1
    go_wp2_with fail
    exact bodyPost_ret (v := .tuple #[.agg #[.int .i64 q1, .slice P5 l5.length c5], .agg #[.int .i64 q2, .slice P6 l6.length c6]]) (by simp [results, Tryz.results101, go_sem, z0, z1, z2, z3]) rfl ⟨_, _, rfl, ⟨P5, l5, c5, by rw [← HQ.out.1], hT5, ok5, nm5, hv5⟩, ⟨P6, l6, c6, by rw [← HQ.out.2], hT6, ok6, nm6, hv6⟩, hbox6.bel⟩
end Go.Proofs.YtlhbejeninjmoaaGreatDoor

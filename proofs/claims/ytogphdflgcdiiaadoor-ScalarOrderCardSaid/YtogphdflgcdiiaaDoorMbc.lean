import Derived.Test.YtogphdflgcdiiaaDoorMbb
namespace Go.Proofs.YtogphdflgcdiiaaDoor
set_option linter.unusedVariables false
set_option linter.unusedSimpArgs false
open Go.RowKit

/-- What a text is: this number, or none. -/
def Is (s : ByteArray) : Option Int → Prop
  | some x => s = S x ∧ x.natAbs < lim
  | none => mayL s.data.toList = false ∧ s.size ≤ maxLen
theorem is_ex (s : ByteArray) (hs : s.size ≤ maxLen) : ∃ o, Is s o := by
  cases h : mayL s.data.toList
  · exact ⟨none, h, hs⟩
  · obtain ⟨x, hx, hl⟩ := mayL_is h
    refine ⟨some x, ?_, hl⟩
    obtain ⟨⟨d⟩⟩ := s
    show _ = (⟨(Lib.itoa x).toArray⟩ : ByteArray)
    have : d = Lib.itoa x := hx
    rw [this]
def T : Option Int → ByteArray
  | some x => S x
  | none => ⟨#[]⟩
theorem is_T {o : Option Int} (h : ∀ x, o = some x → x.natAbs < lim) : Is (T o) o := by
  cases o with
  | none => exact ⟨by rfl, Nat.zero_le _⟩
  | some x => exact ⟨rfl, h x rfl⟩
theorem Is.lt {s : ByteArray} {x : Int} (h : Is s (some x)) : x.natAbs < lim := h.2
theorem Is.bd {s : ByteArray} {o : Option Int} (h : Is s o) : ∀ x, o = some x → x.natAbs < lim := by
  intro x hx; subst hx; exact h.2
theorem Is.size {s : ByteArray} {o : Option Int} (h : Is s o) : s.size ≤ maxLen := by
  cases o with
  | none => exact h.2
  | some x => rw [h.1]; exact Nat.le_trans (S_size h.2) (by decide)
theorem Is.may {s : ByteArray} {o : Option Int} (h : Is s o) : mayL s.data.toList = o.isSome := by
  cases o with
  | none => exact h.1
  | some x => rw [h.1]; exact (mayL_itoa x).2 h.2
theorem S_inj {x y : Int} (h : S x = S y) : x = y := by
  apply itoa_inj
  have := congrArg (fun s : ByteArray => s.data.toList) h
  simpa [S] using this
def op (f : Int → Int → Int) : Option Int → Option Int → Option Int
  | some x, some y => if (f x y).natAbs < lim then some (f x y) else none
  | _, _ => none
def opE (f : Int → Int → Int) : Option Int → Option Int → Int
  | some x, some y => toldE (f x y)
  | _, _ => 1
theorem op_bd {f : Int → Int → Int} {o p : Option Int} : ∀ x, op f o p = some x → x.natAbs < lim := by
  intro x h
  cases o <;> cases p <;> simp only [op] at h
  · cases h
  · cases h
  · cases h
  · split at h
    · cases h; assumption
    · cases h
theorem op_told (f : Int → Int → Int) (x y : Int) : T (op f (some x) (some y)) = toldR (f x y) := by
  simp only [op, toldR]; split <;> rfl
theorem opE_zero {f : Int → Int → Int} {o p : Option Int} (h : opE f o p = 0) : ∃ x y, o = some x ∧ p = some y ∧ (f x y).natAbs < lim ∧ op f o p = some (f x y) := by
  cases o with
  | none => cases p <;> exact absurd h (show ¬ (1 : Int) = 0 by decide)
  | some x => ?_
  cases p with
  | none => exact absurd h (show ¬ (1 : Int) = 0 by decide)
  | some y => ?_
  simp only [opE] at h
  unfold toldE at h
  split at h
  · rename_i hl; exact ⟨x, y, rfl, rfl, hl, by simp only [op]; rw [if_pos hl]⟩
  · exact absurd h (by decide)
theorem opE_zero_of {f : Int → Int → Int} {x y : Int} (h : (f x y).natAbs < lim) : opE f (some x) (some y) = 0 := by
  simp only [opE, toldE]; rw [if_pos h]
def OptPost (r : Option Int) (ec : Int) (w : World) (e : Ending) (w' : World) : Prop := e = .returned (.tuple #[.string (T r), .int .i64 ec]) ∧ Below w.heap.size w w'
theorem OpPost.opt {f : Int → Int → Int} {x y : Int} {w : World} {e : Ending} {w' : World} (h : OpPost (f x y) w e w') : OptPost (op f (some x) (some y)) (opE f (some x) (some y)) w e w' := by
  unfold OptPost; rw [op_told]; exact h
theorem ArgNo.opt {f : Int → Int → Int} {o p : Option Int} {w : World} {e : Ending} {w' : World} (hn : (o.isSome && p.isSome) = false) (h : ArgNo w e w') : OptPost (op f o p) (opE f o p) w e w' := by
  cases o <;> cases p <;> first | exact h | exact absurd hn (by simp)
theorem two_no {s t : ByteArray} {o p : Option Int} (hs : Is s o) (ht : Is t p) (hn : (o.isSome && p.isSome) = false) : (mayL s.data.toList && mayL t.data.toList) = false := by rw [hs.may, ht.may]; exact hn

theorem Add_opt {s t : ByteArray} {o p : Option Int} (w : World) (hs : Is s o) (ht : Is t p) (htab : Tab w) : Calls Tryd.prog 25 #[.string s, .string t] w (OptPost (op (fun x y => x + y) o p) (opE (fun x y => x + y) o p) w) := by
  cases hn : (o.isSome && p.isSome)
  · exact (Add_no s t w hs.size ht.size (two_no hs ht hn)).mono fun e w' h => ArgNo.opt hn h
  · cases o <;> cases p <;> simp at hn
    rw [hs.1, ht.1]
    exact (Add_yes _ _ w hs.2 ht.2 htab).mono fun e w' h => OpPost.opt (f := fun x y => x + y) h
theorem Sub_opt {s t : ByteArray} {o p : Option Int} (w : World) (hs : Is s o) (ht : Is t p) (htab : Tab w) : Calls Tryd.prog 26 #[.string s, .string t] w (OptPost (op (fun x y => x - y) o p) (opE (fun x y => x - y) o p) w) := by
  cases hn : (o.isSome && p.isSome)
  · exact (Sub_no s t w hs.size ht.size (two_no hs ht hn)).mono fun e w' h => ArgNo.opt hn h
  · cases o <;> cases p <;> simp at hn
    rw [hs.1, ht.1]
    exact (Sub_yes _ _ w hs.2 ht.2 htab).mono fun e w' h => OpPost.opt (f := fun x y => x - y) h
theorem Mul_opt {s t : ByteArray} {o p : Option Int} (w : World) (hs : Is s o) (ht : Is t p) (htab : Tab w) : Calls Tryd.prog 27 #[.string s, .string t] w (OptPost (op (fun x y => x * y) o p) (opE (fun x y => x * y) o p) w) := by
  cases hn : (o.isSome && p.isSome)
  · exact (Mul_no s t w hs.size ht.size (two_no hs ht hn)).mono fun e w' h => ArgNo.opt hn h
  · cases o <;> cases p <;> simp at hn
    rw [hs.1, ht.1]
    exact (Mul_yes _ _ w hs.2 ht.2 htab).mono fun e w' h => OpPost.opt (f := fun x y => x * y) h
def cmpO : Option Int → Option Int → Int
  | some x, some y => cmpI x y
  | _, _ => 0
theorem Cmp_opt {s t : ByteArray} {o p : Option Int} (w : World) (hs : Is s o) (ht : Is t p) : Calls Tryd.prog 11 #[.string s, .string t] w (CmpPost (cmpO o p) w) := by
  cases hn : (o.isSome && p.isSome)
  · refine (Cmp_no s t w hs.size ht.size (two_no hs ht hn)).mono fun e w' h => ?_
    cases o <;> cases p <;> first | exact h | exact absurd hn (by simp)
  · cases o <;> cases p <;> simp at hn
    rw [hs.1, ht.1]
    exact Cmp_yes _ _ w hs.2 ht.2
def sgnO : Option Int → Int
  | some x => x.sign
  | none => 0
theorem Sign_opt {s : ByteArray} {o : Option Int} (w : World) (hs : Is s o) : Calls Tryd.prog 44 #[.string s] w (CmpPost (sgnO o) w) := by
  cases o with
  | none => exact sign_no s w hs.2 hs.1
  | some x => rw [hs.1]; exact sign_yes x w hs.2
theorem May_opt {s : ByteArray} {o : Option Int} (w : World) (hs : Is s o) : Calls Tryd.prog 9 #[.string s] w (MayPost o.isSome w) := by
  rw [← hs.may]; exact may_any s w hs.size
def negO : Option Int → Option Int
  | some x => some (-x)
  | none => none
theorem negO_bd {s : ByteArray} {o : Option Int} (h : Is s o) : ∀ x, negO o = some x → x.natAbs < lim := by
  intro x hx
  cases o with
  | none => cases hx
  | some y => cases hx; rw [Int.natAbs_neg]; exact h.2
theorem Neg_opt {s : ByteArray} {o : Option Int} (w : World) (hs : Is s o) (htab : Tab w) : Calls Tryd.prog 42 #[.string s] w fun e w' => e = .returned (.string (T (negO o))) ∧ Below w.heap.size w w' := by
  cases o with
  | none => exact neg_no s w hs.2 hs.1
  | some x => rw [hs.1]; exact neg_yes x w hs.2 htab
end Go.Proofs.YtogphdflgcdiiaaDoor

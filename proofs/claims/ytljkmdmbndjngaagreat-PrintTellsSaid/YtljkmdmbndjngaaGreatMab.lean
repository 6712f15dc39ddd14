import Derived.Test.YtljkmdmbndjngaaGreatMaa
/-
  What is read of lists of parts, plainly: elsewhere, with more behind; the trees that come of it. (Imports nothing of the program.)
-/
namespace Go.Proofs.YtljkmdmbndjngaaGreat
set_option linter.unusedVariables false
set_option linter.unusedSimpArgs false
variable {M : List UInt8 → List UInt8}

section
variable {f : Pk → Pk} (hk : ∀ q, (f q).k = q.k) (ht : ∀ q, (f q).t = q.t)
include hk in
theorem isK_map {k : Int} {ts : List Pk} : isK k (ts.map f) ↔ isK k ts := by
  cases ts with
  | nil => exact Iff.rfl
  | cons q r => show (f q).k = k ↔ q.k = k; rw [hk]
include hk ht in
theorem isMk_map {c : UInt8} {ts : List Pk} : isMk c (ts.map f) ↔ isMk c ts := by
  cases ts with
  | nil => exact Iff.rfl
  | cons q r => show (f q).k = 6 ∧ (f q).t = [c] ↔ q.k = 6 ∧ q.t = [c]; rw [hk, ht]
include hk ht in
theorem isVb_map {ts : List Pk} : isVb (ts.map f) ↔ isVb ts := by
  cases ts with
  | nil => exact Iff.rfl
  | cons q r => show (f q).k = 3 ∨ (f q).k = 4 ∨ ((f q).k = 6 ∧ (f q).t = [123]) ↔ q.k = 3 ∨ q.k = 4 ∨ (q.k = 6 ∧ q.t = [123]); rw [hk, ht]
include hk ht in
theorem nmL_map : ∀ ts : List Pk, nmL (ts.map f) = nmL ts
  | [] => rfl
  | q :: r => by
    show (if (f q).k = 1 then (f q).t :: nmL (r.map f) else []) = if q.k = 1 then q.t :: nmL r else []
    rw [hk, ht, nmL_map r]
include hk ht in
/-- The places of parts don't matter. -/
theorem Rd'.map {R : Rl} {ts r : List Pk} {x : Option (List Tn)} (h : Rd' M R ts x r) : Rd' M R (ts.map f) x (r.map f) := by
  induction h with
  | e_verb h h1 i => exact .e_verb ((isVb_map hk ht).2 h) i
  | e_bad h h1 i => exact .e_bad (fun g => h ((isVb_map hk ht).1 g)) i
  | e_term h h1 h2 i j => exact .e_term (fun g => h ((isVb_map hk ht).1 g)) i j
  | a_end h => exact .a_end (fun g => h ((isVb_map hk ht).1 g))
  | a_op h h1 i => exact .a_op ((isVb_map hk ht).2 h) i
  | o_bad h1 i => exact .o_bad i
  | o_is h1 h2 i j => exact .o_is i j
  | @v_one k q r r' x h h1 i =>
    rw [← ht q] at i
    exact .v_one (by rw [hk]; exact h) i
  | v_bad h h2 h1 i => exact .v_bad (by rw [hk]; exact h) (by rw [ht]; exact h2) i
  | @v_body k q r r' r2 B x h hq h1 h2 i j =>
    rw [← ht q] at j
    exact .v_body (by rw [hk]; exact h) (by rw [ht]; exact hq) i j
  | d_none h => exact .d_none (fun g => h ((isK_map hk).1 g))
  | d_is h h2 hc => exact .d_is (by rw [hk]; exact h) (by rw [ht]; exact h2) hc
  | d_bad h h2 => exact .d_bad (by rw [hk]; exact h) (by rw [ht]; exact h2)
  | t_bad h1 i => exact .t_bad i
  | t_is h1 h2 i j => exact .t_is i j
  | b_end h => exact .b_end (fun g => h ((isMk_map hk ht).1 g))
  | b_bad h h2 h1 i => exact .b_bad (by rw [hk]; exact h) (by rw [ht]; exact h2) i
  | b_is h h2 h1 h3 i j => exact .b_is (by rw [hk]; exact h) (by rw [ht]; exact h2) i j
  | @m_word q r h =>
    have := Rd'.m_word (M := M) (q := f q) (r := r.map f) (by rw [hk]; exact h)
    rw [ht] at this
    exact this
  | m_par h h2 h1 i => exact .m_par (by rw [hk]; exact h) (by rw [ht]; exact h2) i
  | m_bad h2 h6 h1 => exact .m_bad (fun g => h2 ((isK_map hk).1 g)) (fun g => h6 ((isMk_map hk ht).1 g)) (fun g => h1 ((isK_map hk).1 g))
  | @m_many ts h =>
    rw [List.map_drop]
    exact .m_many (by rw [nmL_map hk ht]; exact h)
  | @m_nums ts h h1 =>
    rw [List.map_drop, ← nmL_map hk ht ts]
    exact .m_nums (by rw [nmL_map hk ht]; exact h) (by rw [nmL_map hk ht]; exact h1)
  | c_bad h1 i => exact .c_bad i
  | c_not h1 h i => exact .c_not i (fun g => h ((isMk_map hk ht).1 g))
  | c_is h1 h h2 i => exact .c_is i (by rw [hk]; exact h) (by rw [ht]; exact h2)
include hk ht in
theorem Ln.map {ts r : List Pk} {x : Option (List Tn)} (h : Ln M ts x r) : Ln M (ts.map f) x (r.map f) := by
  cases h with
  | @assign q w r r' x h h2 h3 h1 =>
    have := Ln.assign (M := M) (q := f q) (w := f w) (by rw [hk]; exact h) (by rw [hk]; exact h2) (by rw [ht]; exact h3) (h1.map hk ht)
    rw [ht] at this
    exact this
  | defbad h h2 h3 h1 => exact .defbad (by rw [hk]; exact h) (by rw [hk]; exact h2) (by rw [ht]; exact h3) (fun g => h1 ((isMk_map hk ht).1 g))
  | @define q w b r r' x h h2 h3 h4 h5 h1 =>
    have := Ln.define (M := M) (q := f q) (w := f w) (b := f b) (by rw [hk]; exact h) (by rw [hk]; exact h2) (by rw [ht]; exact h3) (by rw [hk]; exact h4) (by rw [ht]; exact h5) (h1.map hk ht)
    rw [ht] at this
    exact this
  | idxbad h h2 h3 h1 => exact .idxbad (by rw [hk]; exact h) (by rw [hk]; exact h2) (by rw [ht]; exact h3) (h1.map hk ht)
  | @amend q w d r r1 r' I x h h2 h3 h1 h4 h5 h6 =>
    have := Ln.amend (M := M) (q := f q) (w := f w) (d := f d) (by rw [hk]; exact h) (by rw [hk]; exact h2) (by rw [ht]; exact h3) (h1.map hk ht) (by rw [hk]; exact h4) (by rw [ht]; exact h5) (h6.map hk ht)
    rw [ht] at this
    exact this
  | @ixbad q w r r1 r' I h h2 h3 h1 h4 h5 =>
    rw [← ht q] at h5
    exact .ixbad (by rw [hk]; exact h) (by rw [hk]; exact h2) (by rw [ht]; exact h3) (h1.map hk ht) (fun g => h4 ((isMk_map hk ht).1 g)) (h5.map hk ht)
  | @index q w r r1 r2 r' I L x h h2 h3 h1 h4 h5 h6 =>
    rw [← ht q] at h5
    exact .index (by rw [hk]; exact h) (by rw [hk]; exact h2) (by rw [ht]; exact h3) (h1.map hk ht) (fun g => h4 ((isMk_map hk ht).1 g)) (h5.map hk ht) (h6.map hk ht)
  | plain h1 h2 h =>
    refine .plain (fun g => h1 ?_) (fun g => h2 ?_) (h.map hk ht)
    · rw [← List.map_tail, isK_map hk, isMk_map hk ht, isMk_map hk ht] at g
      exact g
    · rw [← List.map_tail, isK_map hk, isMk_map hk ht] at g
      exact g
end

/-- What is left is what the list ends in. -/
theorem Rd'.suffix {R : Rl} {ts r : List Pk} {x : Option (List Tn)} (h : Rd' M R ts x r) : r <:+ ts := by
  induction h with
  | e_verb h h1 i => exact i
  | e_bad h h1 i => exact i
  | e_term h h1 h2 i j => exact j.trans i
  | a_end h => exact List.suffix_refl _
  | a_op h h1 i => exact i
  | o_bad h1 i => exact i
  | o_is h1 h2 i j => exact j.trans i
  | v_one h h1 i => exact i.trans (List.suffix_cons _ _)
  | v_bad h ht h1 i => exact i.trans (List.suffix_cons _ _)
  | v_body h ht h1 h2 i j => exact j.trans (i.trans (List.suffix_cons _ _))
  | d_none h => exact List.suffix_refl _
  | d_is h ht hc => exact List.suffix_cons _ _
  | d_bad h ht => exact List.suffix_refl _
  | t_bad h1 i => exact i
  | t_is h1 h2 i j => exact j.trans i
  | b_end h => exact List.suffix_refl _
  | b_bad h ht h1 i => exact i.trans (List.suffix_cons _ _)
  | b_is h ht h1 h2 i j => exact j.trans (i.trans (List.suffix_cons _ _))
  | m_word h => exact List.suffix_cons _ _
  | m_par h ht h1 i => exact i.trans (List.suffix_cons _ _)
  | m_bad h2 h6 h1 => exact List.suffix_refl _
  | m_many h => exact List.drop_suffix _ _
  | m_nums h h1 => exact List.drop_suffix _ _
  | c_bad h1 i => exact i
  | c_not h1 h i => exact i
  | c_is h1 h ht i => exact (List.suffix_cons _ _).trans i
theorem Ln.suffix {ts r : List Pk} {x : Option (List Tn)} (h : Ln M ts x r) : r <:+ ts := by
  have c2 : ∀ (q w : Pk) (l : List Pk), l <:+ q :: w :: l := fun q w l => (List.suffix_cons w l).trans (List.suffix_cons q _)
  cases h with
  | assign h h2 ht h1 => exact h1.suffix.trans (c2 _ _ _)
  | defbad h h2 ht h1 => exact c2 _ _ _
  | define h h2 ht h3 hb h1 => exact h1.suffix.trans ((List.suffix_cons _ _).trans (c2 _ _ _))
  | idxbad h h2 ht h1 => exact h1.suffix.trans (c2 _ _ _)
  | amend h h2 ht h1 h3 hd h4 => exact h4.suffix.trans ((List.suffix_cons _ _).trans (h1.suffix.trans (c2 _ _ _)))
  | ixbad h h2 ht h1 h3 h4 => exact h4.suffix.trans (h1.suffix.trans (c2 _ _ _))
  | index h h2 ht h1 h3 h4 h5 => exact h5.suffix.trans (h4.suffix.trans (h1.suffix.trans (c2 _ _ _)))
  | plain h1 h2 h => exact h.suffix

theorem isK_app {k : Int} {ts : List Pk} (h : ts ≠ []) (us : List Pk) : isK k (ts ++ us) ↔ isK k ts := by
  cases ts with
  | nil => exact absurd rfl h
  | cons q r => exact Iff.rfl
theorem isMk_app {c : UInt8} {ts : List Pk} (h : ts ≠ []) (us : List Pk) : isMk c (ts ++ us) ↔ isMk c ts := by
  cases ts with
  | nil => exact absurd rfl h
  | cons q r => exact Iff.rfl
theorem isVb_app {ts : List Pk} (h : ts ≠ []) (us : List Pk) : isVb (ts ++ us) ↔ isVb ts := by
  cases ts with
  | nil => exact absurd rfl h
  | cons q r => exact Iff.rfl
theorem isVb_more {ts : List Pk} (h : isVb ts) (us : List Pk) : isVb (ts ++ us) := by
  cases ts with
  | nil => exact h.elim
  | cons q r => exact h
/-- Nothing that an expression at its end goes on with. -/
structure Shut (us : List Pk) : Prop where
  v : ¬ isVb us
  a : ¬ isK 5 us
  b : ¬ isMk 91 us
  n : ¬ isK 1 us
theorem nmL_app {ts us : List Pk} (h : ts.drop (nmL ts).length ≠ [] ∨ ¬ isK 1 us) : nmL (ts ++ us) = nmL ts := by
  induction ts with
  | nil =>
    rcases h with h | h
    · exact absurd rfl h
    · cases us with
      | nil => rfl
      | cons q r => exact if_neg h
  | cons q r ih =>
    show (if q.k = 1 then q.t :: nmL (r ++ us) else []) = if q.k = 1 then q.t :: nmL r else []
    by_cases hq : q.k = 1
    · rw [if_pos hq, if_pos hq, ih]
      rcases h with h | h
      · left
        rw [show nmL (q :: r) = q.t :: nmL r from if_pos hq] at h
        exact h
      · exact .inr h
    · rw [if_neg hq, if_neg hq]
theorem nmL_more (ts us : List Pk) : (nmL ts).length ≤ (nmL (ts ++ us)).length := by
  induction ts with
  | nil => exact Nat.zero_le _
  | cons q r ih =>
    show (if q.k = 1 then q.t :: nmL r else []).length ≤ (if q.k = 1 then q.t :: nmL (r ++ us) else []).length
    split
    · exact Nat.succ_le_succ ih
    · exact Nat.le_refl _
theorem rest_no {α : Type} {P : Prop} {x : Option α} {r : List Pk} (hu : r ≠ [] ∨ (x ≠ none ∧ P)) (hx : x = none) : r ≠ [] := hu.elim id fun h => absurd hx h.1
theorem ne_of_suffix {a b : List Pk} (h : a <:+ b) (ha : a ≠ []) : b ≠ [] := by
  rintro rfl
  exact ha (List.suffix_nil.1 h)
/-- What is behind doesn't matter, as far as a rule doesn't come to it, or doesn't go on with it. -/
theorem Rd'.app {us : List Pk} {R : Rl} {ts r : List Pk} {x : Option (List Tn)} (h : Rd' M R ts x r) : (r ≠ [] ∨ (x ≠ none ∧ Shut us)) → Rd' M R (ts ++ us) x (r ++ us) := by
  induction h with
  | e_verb h h1 i => exact fun hu => .e_verb (isVb_more h us) (i hu)
  | e_bad h h1 i => exact fun hu => .e_bad (fun g => h ((isVb_app (ne_of_suffix h1.suffix (rest_no hu rfl)) us).1 g)) (i hu)
  | @e_term ts r r' L x h h1 h2 i j =>
    intro hu
    have l := h1.le.2 rfl (by simp)
    have ne : ts ≠ [] := by rintro rfl; simp at l
    refine .e_term (fun g => h ((isVb_app ne us).1 g)) (i ?_) (j hu)
    by_cases hr : r = []
    · refine .inr ⟨by simp, ?_⟩
      rcases hu with hu | hu
      · exact absurd hr (ne_of_suffix h2.suffix hu)
      · exact hu.2
    · exact .inl hr
  | @a_end ts L h =>
    intro hu
    refine .a_end fun g => ?_
    rcases hu with hu | hu
    · exact h ((isVb_app hu us).1 g)
    · cases ts with
      | nil => exact hu.2.v g
      | cons q r => exact h g
  | a_op h h1 i => exact fun hu => .a_op (isVb_more h us) (i hu)
  | o_bad h1 i => exact fun hu => .o_bad (i hu)
  | @o_is k ts r r' L V x h1 h2 i j =>
    intro hu
    have ne : r ≠ [] := by
      rintro rfl
      rcases hu with hu | hu
      · exact ne_of_suffix h2.suffix hu rfl
      · cases x with
        | none => exact absurd rfl hu.1
        | some X =>
          have := h2.le.2 rfl (by simp)
          simp at this
    refine .o_is (i (.inl ne)) (j ?_)
    rcases hu with hu | hu
    · exact .inl hu
    · exact .inr ⟨fun e => hu.1 (by rw [e]; rfl), hu.2⟩
  | v_one h h1 i => exact fun hu => .v_one h (i hu)
  | v_bad h ht h1 i => exact fun hu => .v_bad h ht (i hu)
  | @v_body k q r r' r2 B x h ht h1 h2 i j =>
    intro hu
    refine .v_body h ht (i ?_) (j hu)
    by_cases hr : r' = []
    · refine .inr ⟨by simp, ?_⟩
      rcases hu with hu | hu
      · exact absurd hr (ne_of_suffix h2.suffix hu)
      · exact hu.2
    · exact .inl hr
  | @d_none k v B ts h =>
    intro hu
    refine .d_none fun g => ?_
    rcases hu with hu | hu
    · exact h ((isK_app hu us).1 g)
    · cases ts with
      | nil => exact hu.2.a g
      | cons q r => exact h g
  | d_is h ht hc => exact fun hu => .d_is h ht hc
  | d_bad h ht => exact fun hu => .d_bad h ht
  | t_bad h1 i => exact fun hu => .t_bad (i hu)
  | @t_is ts r r' L x h1 h2 i j =>
    intro hu
    refine .t_is (i ?_) (j hu)
    by_cases hr : r = []
    · refine .inr ⟨by simp, ?_⟩
      rcases hu with hu | hu
      · exact absurd hr (ne_of_suffix h2.suffix hu)
      · exact hu.2
    · exact .inl hr
  | @b_end ts L h =>
    intro hu
    refine .b_end fun g => ?_
    rcases hu with hu | hu
    · exact h ((isMk_app hu us).1 g)
    · cases ts with
      | nil => exact hu.2.b g
      | cons q r => exact h g
  | b_bad h ht h1 i => exact fun hu => .b_bad h ht (i hu)
  | @b_is q r r' r2 L I x h ht h1 h2 i j =>
    intro hu
    refine .b_is h ht (i ?_) (j hu)
    by_cases hr : r' = []
    · refine .inr ⟨by simp, ?_⟩
      rcases hu with hu | hu
      · exact absurd hr (ne_of_suffix h2.suffix hu)
      · exact hu.2
    · exact .inl hr
  | m_word h => exact fun hu => .m_word h
  | m_par h ht h1 i => exact fun hu => .m_par h ht (i hu)
  | @m_bad ts h2 h6 h1 =>
    intro hu
    have ne := rest_no hu rfl
    exact .m_bad (fun g => h2 ((isK_app ne us).1 g)) (fun g => h6 ((isMk_app ne us).1 g)) (fun g => h1 ((isK_app ne us).1 g))
  | @m_many ts h =>
    intro hu
    have := nmL_le ts
    have := nmL_more ts us
    rw [← List.drop_append_of_le_length (by omega)]
    exact .m_many (by omega)
  | @m_nums ts h h1 =>
    intro hu
    have e : nmL (ts ++ us) = nmL ts := nmL_app (hu.elim .inl fun h => .inr h.2.n)
    have := nmL_le ts
    have g := Rd'.m_nums (M := M) (ts := ts ++ us) (by rw [e]; exact h) (by rw [e]; exact h1)
    rw [e, List.drop_append_of_le_length (by omega)] at g
    exact g
  | c_bad h1 i => exact fun hu => .c_bad (i hu)
  | @c_not c ts r L h1 h i =>
    intro hu
    have ne := rest_no hu rfl
    exact .c_not (i (.inl ne)) (fun g => h ((isMk_app ne us).1 g))
  | c_is h1 h ht i => exact fun hu => .c_is (i (.inl (by simp))) h ht
/-- At the end nothing is read: brackets and what is behind a term. -/
theorem Rd'.brk_nil {L : List Tn} {x : Option (List Tn)} {r : List Pk} (h : Rd' M (.brk L) [] x r) : x = some L ∧ r = [] := by
  cases h with
  | b_end h => exact ⟨rfl, rfl⟩
theorem Rd'.aft_nil {L : List Tn} {x : Option (List Tn)} {r : List Pk} (h : Rd' M (.aft L) [] x r) : x = some L ∧ r = [] := by
  cases h with
  | a_end h => exact ⟨rfl, rfl⟩
  | a_op h h1 => exact h.elim
theorem nil_of {r : List Pk} {q : Pk} (h : r.length < [q].length) : r = [] := List.length_eq_zero_iff.1 (by rw [List.length_singleton] at h; omega)
/-- A word alone is read whole; a verb alone fails at the end. -/
theorem lone_word {q : Pk} {x : Option (List Tn)} {r : List Pk} (h : Rd' M .expr [q] x r) (hq : isK 2 [q]) : r = [] := by
  have hq : q.k = 2 := hq
  cases h with
  | e_verb h h1 =>
    rcases (show q.k = 3 ∨ q.k = 4 ∨ (q.k = 6 ∧ q.t = [123]) from h) with h | h | h <;> omega
  | e_bad h h1 =>
    cases h1 with
    | t_bad h1 =>
      cases h1 with
      | m_par h ht h1 => omega
      | m_bad h2 h6 h1 => exact absurd hq h2
      | m_many h =>
        have := nmL_le [q]
        simp at this
        omega
    | t_is h1 h2 =>
      cases nil_of (h1.le.2 rfl (by simp))
      cases h2.brk_nil.1
  | e_term h h1 h2 =>
    cases nil_of (h1.le.2 rfl (by simp))
    exact h2.aft_nil.2
theorem lone_verb {q : Pk} {x : Option (List Tn)} {r : List Pk} (h : Rd' M .expr [q] x r) (hq : isK 3 [q]) : r = [] := by
  have hq : q.k = 3 := hq
  cases h with
  | e_verb h h1 =>
    cases h1 with
    | o_bad h1 =>
      cases h1 with
      | v_one h h1 => cases h1
      | v_bad h => omega
      | v_body h => omega
    | o_is h1 h2 =>
      cases nil_of (h1.le.2 rfl (by simp))
      exact List.suffix_nil.1 h2.suffix
  | e_bad h h1 => exact absurd (show isVb [q] from .inl hq) h
  | e_term h h1 h2 => exact absurd (show isVb [q] from .inl hq) h
/-- A line's error stays, whatever comes behind. -/
theorem Ln.app {ts r : List Pk} {x : Option (List Tn)} (h : Ln M ts x r) (hr : r ≠ []) (us : List Pk) : Ln M (ts ++ us) x (r ++ us) := by
  cases h with
  | assign h h2 ht h1 => exact .assign h h2 ht (h1.app (.inl hr))
  | defbad h h2 ht h1 => exact .defbad h h2 ht (fun g => h1 ((isMk_app hr us).1 g))
  | define h h2 ht h3 hb h1 => exact .define h h2 ht h3 hb (h1.app (.inl hr))
  | idxbad h h2 ht h1 => exact .idxbad h h2 ht (h1.app (.inl hr))
  | amend h h2 ht h1 h3 hd h4 => exact .amend h h2 ht (h1.app (.inl (by simp))) h3 hd (h4.app (.inl hr))
  | ixbad h h2 ht h1 h3 h4 =>
    have ne := ne_of_suffix h4.suffix hr
    exact .ixbad h h2 ht (h1.app (.inl ne)) (fun g => h3 ((isMk_app ne us).1 g)) (h4.app (.inl hr))
  | index h h2 ht h1 h3 h4 h5 =>
    have n2 := ne_of_suffix h5.suffix hr
    have ne := ne_of_suffix h4.suffix n2
    exact .index h h2 ht (h1.app (.inl ne)) (fun g => h3 ((isMk_app ne us).1 g)) (h4.app (.inl n2)) (h5.app (.inl hr))
  | plain h1 h2 h =>
    have ne := ne_of_suffix h.suffix hr
    cases ts with
    | nil => exact absurd rfl ne
    | cons q l =>
      cases l with
      | cons w l => exact .plain h1 h2 (h.app (.inl hr))
      | nil => exact .plain (fun g => hr (lone_word h g.1)) (fun g => hr (lone_verb h g.1)) (h.app (.inl hr))
end Go.Proofs.YtljkmdmbndjngaaGreat
/-
  What is read is a tree, plainly; its nodes; lines put together of lines. (Imports nothing of the program.)
-/
namespace Go.Proofs.YtljkmdmbndjngaaGreat
set_option linter.unusedVariables false
set_option linter.unusedSimpArgs false
variable {M : List UInt8 → List UInt8}

/-- How many trees are below a node. -/
def kdT (n : Tn) : Int :=
  if n.k = 1 ∨ n.k = 2 then 0
  else if n.k = 3 then (if n.v = [123] then 2 else 1)
  else if n.k = 4 then (if n.v = [123] then 3 else 2)
  else if n.k = 5 ∨ n.k = 7 then 1
  else if n.k = 6 ∨ n.k = 8 then 2
  else -1
theorem Fd.join {K : List Int} {p a e d1 : Nat} (h : Fd K p a e d1) {b f d2 : Nat} : Fd K e b f d2 → Fd K p (a + b) f (max d1 d2) := by
  induction h with
  | nil p => intro g; rw [Nat.zero_add, Nat.zero_max]; exact g
  | cons h h0 hk hr i1 i2 =>
    intro g
    rw [Nat.add_right_comm, Nat.max_assoc]
    exact .cons h h0 hk (i2 g)
theorem Fd.shift {K K' : List Int} {s p m e d : Nat} (h : Fd K p m e d) : (∀ i, p ≤ i → i < e → K'[i + s]? = K[i]?) → Fd K' (p + s) m (e + s) d := by
  induction h with
  | nil p => exact fun _ => .nil _
  | @cons p m q e d1 d2 k h h0 hk hr i1 i2 =>
    intro hK
    have l1 := hk.le.1
    have l2 := hr.le.1
    have g1 := i1 (fun i hi hi2 => hK i (by omega) (by omega))
    rw [Nat.add_right_comm] at g1
    exact .cons (by rw [hK p (Nat.le_refl _) (by omega)]; exact h) h0 g1 (i2 (fun i hi hi2 => hK i (by omega) (by omega)))
/-- A list of nodes is m trees, the deepest d deep. -/
def Dp (L : List Tn) (m d : Nat) : Prop := Fd (L.map kdT) 0 m L.length d
theorem Dp.nil : Dp [] 0 0 := Fd.nil 0
theorem Dp.app {A B : List Tn} {a b d1 d2 : Nat} (h : Dp A a d1) (g : Dp B b d2) : Dp (A ++ B) (a + b) (max d1 d2) := by
  have h' : Fd ((A ++ B).map kdT) 0 a A.length d1 := Fd.move h (K' := (A ++ B).map kdT) (s := 0) (Nat.le_refl _) fun i _ hi => by
    rw [Nat.sub_zero, List.map_append, List.getElem?_append_left (by rw [List.length_map]; exact hi)]
  have g' : Fd ((A ++ B).map kdT) (0 + A.length) b (B.length + A.length) d2 := Fd.shift g fun i _ hi => by
    rw [List.map_append, List.getElem?_append_right (by rw [List.length_map]; omega), List.length_map, Nat.add_sub_cancel]
  rw [Nat.zero_add, Nat.add_comm] at g'
  unfold Dp
  rw [List.length_append]
  exact h'.join g'
theorem Dp.cons {n : Tn} {X : List Tn} {k d : Nat} (hn : kdT n = k) (h : Dp X k d) : Dp (n :: X) 1 (1 + d) := by
  have g : Fd ((n :: X).map kdT) (0 + 1) k (X.length + 1) d := Fd.shift h fun i _ _ => by rw [List.map_cons, List.getElem?_cons_succ]
  have := Fd.cons (K := (n :: X).map kdT) (p := 0) (m := 0) (k := (k : Int)) (by rw [List.map_cons, hn]; rfl) (by omega) g (.nil _)
  rw [Nat.max_eq_left (by omega)] at this
  exact this
/-- One tree. -/
def Tr (L : List Tn) : Prop := ∃ d, Dp L 1 d
def Vt (V : List Tn) (m : Nat) : Prop := ∀ X d, Dp X m d → Tr (V ++ X)
def Rl.pre : Rl → Prop
  | .aft L | .brk L => Tr L
  | .op k L => (k = 3 ∧ L = []) ∨ (k = 4 ∧ Tr L)
  | .adv k v B => (k = 3 ∨ k = 4) ∧ ((v ≠ [123] ∧ B = []) ∨ (v = [123] ∧ Tr B))
  | .vb k => k = 3 ∨ k = 4
  | _ => True
def Rl.post : Rl → List Tn → Prop
  | .vb k | .adv k _ _ => fun V => Vt V (k - 2).toNat
  | _ => Tr
theorem tr_leaf {n : Tn} (h : n.k = 1 ∨ n.k = 2) : Tr [n] := ⟨_, .cons (k := 0) (by unfold kdT; rw [if_pos h]; rfl) .nil⟩
theorem tr_two {n : Tn} {A B : List Tn} (h : kdT n = 2) (hA : Tr A) (hB : Tr B) : Tr (n :: (A ++ B)) := by
  obtain ⟨d1, h1⟩ := hA
  obtain ⟨d2, h2⟩ := hB
  exact ⟨_, .cons h (h1.app h2)⟩
theorem vt_adv {k : Int} {v a : List UInt8} {B : List Tn} (hk : k = 3 ∨ k = 4) (h : (v ≠ [123] ∧ B = []) ∨ (v = [123] ∧ Tr B)) : Vt (⟨k, v, a, [], []⟩ :: B) (k - 2).toNat := by
  intro X d hX
  rcases h with ⟨hv, rfl⟩ | ⟨hv, e, hB⟩
  · refine ⟨_, .cons (k := (k - 2).toNat) ?_ hX⟩
    rcases hk with rfl | rfl
    · simp [kdT, hv]
    · simp [kdT, hv]
  · refine ⟨_, .cons (k := 1 + (k - 2).toNat) ?_ (hB.app hX)⟩
    rcases hk with rfl | rfl
    · simp [kdT, hv]
    · simp [kdT, hv]
/-- What is read is a tree. -/
theorem Rd'.tree {R : Rl} {ts r : List Pk} {x : Option (List Tn)} (h : Rd' M R ts x r) : (∀ q ∈ ts, q.k = 3 ∨ q.k = 4 → q.t ≠ [123]) → R.pre → ∀ X, x = some X → R.post X := by
  induction h with
  | e_verb h h1 i => exact fun hp _ X hx => i hp (.inl ⟨rfl, rfl⟩) X hx
  | e_bad h h1 i => exact fun _ _ X hx => by cases hx
  | e_term h h1 h2 i j => exact fun hp _ X hx => j (fun q hq => hp q (h1.suffix.mem hq)) (i hp trivial _ rfl) X hx
  | a_end h => exact fun _ hp X hx => by cases hx; exact hp
  | a_op h h1 i => exact fun hp hl X hx => i hp (.inr ⟨rfl, hl⟩) X hx
  | o_bad h1 i => exact fun _ _ X hx => by cases hx
  | @o_is k ts r r' L V x h1 h2 i j =>
    intro hp hl X hx
    cases x with
    | none => cases hx
    | some Y =>
      cases hx
      obtain ⟨d, hY⟩ := j (fun q hq => hp q (h1.suffix.mem hq)) trivial _ rfl
      show Tr (V ++ L ++ Y)
      rw [List.append_assoc]
      rcases hl with ⟨rfl, rfl⟩ | ⟨rfl, e, hL⟩
      · exact i hp (.inl rfl) _ rfl Y d hY
      · exact i hp (.inr rfl) _ rfl (L ++ Y) _ (hL.app hY)
  | @v_one k q r r' x h h1 i => exact fun hp hk X hx => i (fun q hq => hp q (List.mem_cons_of_mem _ hq)) ⟨hk, .inl ⟨hp q List.mem_cons_self h, rfl⟩⟩ X hx
  | v_bad h ht h1 i => exact fun _ _ X hx => by cases hx
  | @v_body k q r r' r2 B x h ht h1 h2 i j =>
    exact fun hp hk X hx => j (fun q hq => hp q (List.mem_cons_of_mem _ (h1.suffix.mem hq))) ⟨hk, .inr ⟨ht, i (fun q hq => hp q (List.mem_cons_of_mem _ hq)) trivial _ rfl⟩⟩ X hx
  | d_none h => exact fun _ hp X hx => by cases hx; exact vt_adv hp.1 hp.2
  | d_is h ht hc => exact fun _ hp X hx => by cases hx; exact vt_adv hp.1 hp.2
  | d_bad h ht => exact fun _ _ X hx => by cases hx
  | t_bad h1 i => exact fun _ _ X hx => by cases hx
  | t_is h1 h2 i j => exact fun hp _ X hx => j (fun q hq => hp q (h1.suffix.mem hq)) (i hp trivial _ rfl) X hx
  | b_end h => exact fun _ hp X hx => by cases hx; exact hp
  | b_bad h ht h1 i => exact fun _ _ X hx => by cases hx
  | @b_is q r r' r2 L I x h ht h1 h2 i j =>
    exact fun hp hl X hx => j (fun q hq => hp q (List.mem_cons_of_mem _ (h1.suffix.mem hq))) (tr_two rfl hl (i (fun q hq => hp q (List.mem_cons_of_mem _ hq)) trivial _ rfl)) X hx
  | m_word h => exact fun _ _ X hx => by cases hx; exact tr_leaf (.inr rfl)
  | m_par h ht h1 i => exact fun hp _ X hx => i (fun q hq => hp q (List.mem_cons_of_mem _ hq)) trivial X hx
  | m_bad h2 h6 h1 => exact fun _ _ X hx => by cases hx
  | m_many h => exact fun _ _ X hx => by cases hx
  | m_nums h h1 => exact fun _ _ X hx => by cases hx; exact tr_leaf (.inl rfl)
  | c_bad h1 i => exact fun _ _ X hx => by cases hx
  | c_not h1 h i => exact fun _ _ X hx => by cases hx
  | c_is h1 h ht i => exact fun hp _ X hx => i hp trivial X hx
/-- A line's tree. -/
theorem Ln.tree {ts r : List Pk} {X : List Tn} (h : Ln M ts (some X) r) (hp : ∀ q ∈ ts, q.k = 3 ∨ q.k = 4 → q.t ≠ [123]) : Tr X := by
  have key : ∀ {x : Option (List Tn)} (h : Ln M ts x r), x = some X → Tr X := by
    intro x h hx
    have c2 : ∀ {q w : Pk} {l : List Pk}, ts = q :: w :: l → ∀ u ∈ l, u.k = 3 ∨ u.k = 4 → u.t ≠ [123] := fun e u hu => hp u (by rw [e]; exact List.mem_cons_of_mem _ (List.mem_cons_of_mem _ hu))
    cases h with
    | @assign q w r r' x h h2 ht h1 =>
      cases x with
      | none => cases hx
      | some Y =>
        cases hx
        obtain ⟨d, g⟩ := h1.tree (c2 rfl) trivial _ rfl
        exact ⟨_, .cons (k := 1) rfl g⟩
    | defbad h h2 ht h1 => cases hx
    | @define q w b r r' x h h2 ht h3 hb h1 =>
      cases x with
      | none => cases hx
      | some Y =>
        cases hx
        obtain ⟨d, g⟩ := h1.tree (fun u hu => c2 rfl u (List.mem_cons_of_mem _ hu)) trivial _ rfl
        exact ⟨_, .cons (k := 1) rfl g⟩
    | idxbad h h2 ht h1 => cases hx
    | @amend q w d r r1 r' I x h h2 ht h1 h3 hd h4 =>
      cases x with
      | none => cases hx
      | some Y =>
        cases hx
        exact tr_two rfl (h1.tree (c2 rfl) trivial _ rfl) (h4.tree (fun u hu => c2 rfl u (h1.suffix.mem (List.mem_cons_of_mem _ hu))) trivial _ rfl)
    | ixbad h h2 ht h1 h3 h4 => cases hx
    | index h h2 ht h1 h3 h4 h5 =>
      have s1 := h1.tree (c2 rfl) trivial _ rfl
      have s2 := h4.tree (fun u hu => c2 rfl u (h1.suffix.mem hu)) (tr_two rfl (tr_leaf (.inr rfl)) s1) _ rfl
      exact h5.tree (fun u hu => c2 rfl u (h1.suffix.mem (h4.suffix.mem hu))) s2 X hx
    | plain h1 h2 h => exact h.tree hp trivial X hx
  exact key h rfl

/-- What a node that was read is, P being what each part is. -/
inductive Nok (M : List UInt8 → List UInt8) (P : Pk → Prop) : Tn → Prop
  | lit {l : List (List UInt8)} (h0 : 0 < l.length) (h1 : l.length ≤ 100) (h : ∀ s ∈ l, ∃ q, P q ∧ q.k = 1 ∧ s = M q.t) : Nok M P ⟨1, [], [], [], l⟩
  | name {q : Pk} (hq : P q) (h : q.k = 2) : Nok M P ⟨2, [], [], q.t, []⟩
  | one {k : Int} {q : Pk} {a : List UInt8} (hk : k = 3 ∨ k = 4) (hq : P q) (h : q.k = 3 ∨ q.k = 4) (ha : a = [] ∨ ∃ c ∈ advs k, a = [c]) : Nok M P ⟨k, q.t, a, [], []⟩
  | body {k : Int} {a : List UInt8} (hk : k = 3 ∨ k = 4) (ha : a = [] ∨ ∃ c ∈ advs k, a = [c]) : Nok M P ⟨k, [123], a, [], []⟩
  | index : Nok M P ⟨8, [], [], [], []⟩
def Rl.npre (M : List UInt8 → List UInt8) (P : Pk → Prop) : Rl → Prop
  | .aft L | .brk L => ∀ n ∈ L, Nok M P n
  | .op k L => (k = 3 ∨ k = 4) ∧ ∀ n ∈ L, Nok M P n
  | .adv k v B => (k = 3 ∨ k = 4) ∧ (v = [123] ∨ ∃ q, P q ∧ (q.k = 3 ∨ q.k = 4) ∧ v = q.t) ∧ ∀ n ∈ B, Nok M P n
  | .vb k => k = 3 ∨ k = 4
  | _ => True
theorem nok_adv {P : Pk → Prop} {k : Int} {v a : List UInt8} {B : List Tn} (h : (Rl.adv k v B).npre M P) (ha : a = [] ∨ ∃ c ∈ advs k, a = [c]) : ∀ n ∈ (⟨k, v, a, [], []⟩ :: B : List Tn), Nok M P n := by
  obtain ⟨hk, hv, hB⟩ := h
  intro n hn
  rcases List.mem_cons.1 hn with rfl | hn
  · rcases hv with rfl | ⟨q, hq, hk2, rfl⟩
    · exact .body hk ha
    · exact .one hk hq hk2 ha
  · exact hB n hn
theorem nmL_of {P : Pk → Prop} {ts : List Pk} (h : ∀ q ∈ ts, P q) : ∀ s ∈ nmL ts, ∃ q, P q ∧ q.k = 1 ∧ s = q.t := by
  induction ts with
  | nil => intro s hs; cases hs
  | cons q r ih =>
    intro s hs
    unfold nmL at hs
    split at hs
    · rename_i hq
      rcases List.mem_cons.1 hs with rfl | hs
      · exact ⟨q, h q List.mem_cons_self, hq, rfl⟩
      · exact ih (fun q hq => h q (List.mem_cons_of_mem _ hq)) s hs
    · cases hs
theorem Rd'.nodes {P : Pk → Prop} {R : Rl} {ts r : List Pk} {x : Option (List Tn)} (h : Rd' M R ts x r) : (∀ q ∈ ts, P q) → R.npre M P → ∀ X, x = some X → ∀ n ∈ X, Nok M P n := by
  induction h with
  | e_verb h h1 i => exact fun hp _ X hx => i hp ⟨.inl rfl, fun n hn => by cases hn⟩ X hx
  | e_bad h h1 i => exact fun _ _ X hx => by cases hx
  | e_term h h1 h2 i j => exact fun hp _ X hx => j (fun q hq => hp q (h1.suffix.mem hq)) (i hp trivial _ rfl) X hx
  | a_end h => exact fun _ hp X hx => by cases hx; exact hp
  | a_op h h1 i => exact fun hp hl X hx => i hp ⟨.inr rfl, hl⟩ X hx
  | o_bad h1 i => exact fun _ _ X hx => by cases hx
  | @o_is k ts r r' L V x h1 h2 i j =>
    intro hp hl X hx
    cases x with
    | none => cases hx
    | some Y =>
      cases hx
      intro n hn
      have hn : n ∈ V ++ L ++ Y := hn
      rcases List.mem_append.1 hn with hn | hn
      · rcases List.mem_append.1 hn with hn | hn
        · exact i hp hl.1 _ rfl n hn
        · exact hl.2 n hn
      · exact j (fun q hq => hp q (h1.suffix.mem hq)) trivial _ rfl n hn
  | @v_one k q r r' x h h1 i => exact fun hp hk X hx => i (fun q hq => hp q (List.mem_cons_of_mem _ hq)) ⟨hk, .inr ⟨q, hp q List.mem_cons_self, h, rfl⟩, fun n hn => by cases hn⟩ X hx
  | v_bad h ht h1 i => exact fun _ _ X hx => by cases hx
  | @v_body k q r r' r2 B x h ht h1 h2 i j =>
    exact fun hp hk X hx => j (fun q hq => hp q (List.mem_cons_of_mem _ (h1.suffix.mem hq))) ⟨hk, .inl ht, i (fun q hq => hp q (List.mem_cons_of_mem _ hq)) trivial _ rfl⟩ X hx
  | d_none h => exact fun _ hp X hx => by cases hx; exact nok_adv hp (.inl rfl)
  | d_is h ht hc => exact fun _ hp X hx => by cases hx; exact nok_adv hp (.inr ⟨_, hc, rfl⟩)
  | d_bad h ht => exact fun _ _ X hx => by cases hx
  | t_bad h1 i => exact fun _ _ X hx => by cases hx
  | t_is h1 h2 i j => exact fun hp _ X hx => j (fun q hq => hp q (h1.suffix.mem hq)) (i hp trivial _ rfl) X hx
  | b_end h => exact fun _ hp X hx => by cases hx; exact hp
  | b_bad h ht h1 i => exact fun _ _ X hx => by cases hx
  | @b_is q r r' r2 L I x h ht h1 h2 i j =>
    intro hp hl X hx
    refine j (fun q hq => hp q (List.mem_cons_of_mem _ (h1.suffix.mem hq))) (fun n hn => ?_) X hx
    rcases List.mem_cons.1 hn with rfl | hn
    · exact .index
    · rcases List.mem_append.1 hn with hn | hn
      · exact hl n hn
      · exact i (fun q hq => hp q (List.mem_cons_of_mem _ hq)) trivial _ rfl n hn
  | @m_word q r h =>
    intro hp _ X hx n hn
    cases hx
    rcases List.mem_singleton.1 hn with rfl
    exact .name (hp q List.mem_cons_self) h
  | m_par h ht h1 i => exact fun hp _ X hx => i (fun q hq => hp q (List.mem_cons_of_mem _ hq)) trivial X hx
  | m_bad h2 h6 h1 => exact fun _ _ X hx => by cases hx
  | m_many h => exact fun _ _ X hx => by cases hx
  | @m_nums ts h h1 =>
    intro hp _ X hx n hn
    cases hx
    rcases List.mem_singleton.1 hn with rfl
    refine .lit (by rw [List.length_map]; exact h) (by rw [List.length_map]; exact h1) fun s hs => ?_
    obtain ⟨t, ht, rfl⟩ := List.mem_map.1 hs
    obtain ⟨q, h1, h2, rfl⟩ := nmL_of hp t ht
    exact ⟨q, h1, h2, rfl⟩
  | c_bad h1 i => exact fun _ _ X hx => by cases hx
  | c_not h1 h i => exact fun _ _ X hx => by cases hx
  | c_is h1 h ht i => exact fun hp _ X hx => i hp trivial X hx
/-- What a line's head is, if it is none of an expression's. -/
inductive Hok (P : Pk → Prop) : Tn → Prop
  | assign {q : Pk} (hq : P q) (h : q.k = 2) : Hok P ⟨5, [], [], q.t, []⟩
  | amend {q : Pk} (hq : P q) (h : q.k = 2) : Hok P ⟨6, [], [], q.t, []⟩
  | define {q : Pk} (hq : P q) (h : q.k = 3) : Hok P ⟨7, [], [], q.t, []⟩
theorem Ln.nodes {P : Pk → Prop} {ts r : List Pk} {X : List Tn} (h : Ln M ts (some X) r) (hp : ∀ q ∈ ts, P q) (hb : ∀ q ∈ ts, q.k = 3 ∨ q.k = 4 → q.t ≠ [123]) : ∃ n Y, X = n :: Y ∧ (Nok M P n ∨ Hok P n) ∧ ∀ n ∈ Y, Nok M P n := by
  have all : ∀ {X : List Tn}, Tr X → (∀ n ∈ X, Nok M P n) → ∃ n Y, X = n :: Y ∧ (Nok M P n ∨ Hok P n) ∧ ∀ n ∈ Y, Nok M P n := by
    intro X hT h
    cases X with
    | nil =>
      obtain ⟨d, hd⟩ := hT
      have := hd.lt (by omega)
      simp at this
    | cons n Y => exact ⟨n, Y, rfl, .inl (h n List.mem_cons_self), fun m hm => h m (List.mem_cons_of_mem _ hm)⟩
  have key : ∀ {x : Option (List Tn)} (h : Ln M ts x r), x = some X → ∃ n Y, X = n :: Y ∧ (Nok M P n ∨ Hok P n) ∧ ∀ n ∈ Y, Nok M P n := by
    intro x h' hx
    have c2 : ∀ {q w : Pk} {l : List Pk}, ts = q :: w :: l → ∀ u ∈ l, P u := fun e u hu => hp u (by rw [e]; exact List.mem_cons_of_mem _ (List.mem_cons_of_mem _ hu))
    have c0 : ∀ {q w : Pk} {l : List Pk}, ts = q :: w :: l → P q := fun e => hp _ (by rw [e]; exact List.mem_cons_self)
    cases h' with
    | @assign q w r r' x hq h2 ht h1 =>
      cases x with
      | none => cases hx
      | some Y => cases hx; exact ⟨_, _, rfl, .inr (.assign (c0 rfl) hq), h1.nodes (c2 rfl) trivial _ rfl⟩
    | defbad h h2 ht h1 => cases hx
    | @define q w b r r' x hq h2 ht h3 hb h1 =>
      cases x with
      | none => cases hx
      | some Y => cases hx; exact ⟨_, _, rfl, .inr (.define (c0 rfl) hq), h1.nodes (fun u hu => c2 rfl u (List.mem_cons_of_mem _ hu)) trivial _ rfl⟩
    | idxbad h h2 ht h1 => cases hx
    | @amend q w d r r1 r' I x hq h2 ht h1 h3 hd h4 =>
      cases x with
      | none => cases hx
      | some Y =>
        cases hx
        refine ⟨_, _, rfl, .inr (.amend (c0 rfl) hq), fun n hn => ?_⟩
        rcases List.mem_append.1 hn with hn | hn
        · exact h1.nodes (c2 rfl) trivial _ rfl n hn
        · exact h4.nodes (fun u hu => c2 rfl u (h1.suffix.mem (List.mem_cons_of_mem _ hu))) trivial _ rfl n hn
    | ixbad h h2 ht h1 h3 h4 => cases hx
    | @index q w r r1 r2 r' I L x hq h2 ht h1 h3 h4 h5 =>
      have s1 := h1.nodes (c2 rfl) trivial _ rfl
      have s2 := h4.nodes (P := P) (fun u hu => c2 rfl u (h1.suffix.mem hu)) (fun n hn => by
        rcases List.mem_cons.1 hn with rfl | hn
        · exact .index
        · rcases List.mem_append.1 hn with hn | hn
          · rcases List.mem_singleton.1 hn with rfl
            exact .name (c0 rfl) hq
          · exact s1 n hn) _ rfl
      exact all (h.tree hb) (h5.nodes (fun u hu => c2 rfl u (h1.suffix.mem (h4.suffix.mem hu))) s2 X hx)
    | plain h1 h2 h' => exact all (h.tree hb) (h'.nodes hp trivial X hx)
  exact key h rfl

theorem shut_mk {c : Pk} {us : List Pk} (h : c.k = 6) {b : UInt8} (ht : c.t = [b]) (h1 : b ≠ 123) (h2 : b ≠ 91) : Shut (c :: us) where
  v := fun g => by
    rcases (show c.k = 3 ∨ c.k = 4 ∨ (c.k = 6 ∧ c.t = [123]) from g) with g | g | g
    · omega
    · omega
    · rw [ht] at g; exact h1 (by injection g.2)
  a := fun g => by have g : c.k = 5 := g; omega
  b := fun g => by have g : c.k = 6 ∧ c.t = [91] := g; rw [ht] at g; exact h2 (by injection g.2)
  n := fun g => by have g : c.k = 1 := g; omega
theorem shut_nil : Shut [] := ⟨id, id, id, id⟩
theorem not_mk {c : Pk} {us : List Pk} {b d : UInt8} (ht : c.t = [b]) (h : b ≠ d) : ¬ isMk d (c :: us) := fun g => by
  have g : c.k = 6 ∧ c.t = [d] := g
  rw [ht] at g
  exact h (by injection g.2)
/-- An expression begins with no adverb. -/
theorem Rd'.begins {ts r : List Pk} {L : List Tn} (h : Rd' M .expr ts (some L) r) : ¬ isK 5 ts := by
  intro g
  cases ts with
  | nil => exact g
  | cons q l =>
    have g : q.k = 5 := g
    cases h with
    | e_verb h h1 =>
      rcases (show q.k = 3 ∨ q.k = 4 ∨ (q.k = 6 ∧ q.t = [123]) from h) with h | h | h <;> omega
    | e_term h h1 h2 =>
      cases h1 with
      | t_is h1 h2 =>
        cases h1 with
        | m_word h => omega
        | m_par h => omega
        | m_nums h h1 =>
          unfold nmL at h
          rw [if_neg (by omega)] at h
          simp at h
/-- A line that can be reckoned is an expression. -/
theorem Ln.expr {ts r : List Pk} {L : List Tn} (h : Ln M ts (some L) r) (hd : ∀ n Y, L = n :: Y → n.k < 5 ∨ 7 < n.k) : Rd' M .expr ts (some L) r := by
  have key : ∀ {x : Option (List Tn)} (h : Ln M ts x r), x = some L → Rd' M .expr ts (some L) r := by
    intro x h' hx
    cases h' with
    | @assign q w r r' x h h2 ht h1 =>
      cases x with
      | none => cases hx
      | some Y => cases hx; have := hd _ _ rfl; simp only at this; omega
    | defbad h h2 ht h1 => cases hx
    | @define q w b r r' x h h2 ht h3 hb h1 =>
      cases x with
      | none => cases hx
      | some Y => cases hx; have := hd _ _ rfl; simp only at this; omega
    | idxbad h h2 ht h1 => cases hx
    | @amend q w d r r1 r' I x h h2 ht h1 h3 hd' h4 =>
      cases x with
      | none => cases hx
      | some Y => cases hx; have := hd _ _ rfl; simp only at this; omega
    | ixbad h h2 ht h1 h3 h4 => cases hx
    | @index q w r r1 r2 r' I X x hq h2 ht h1 h3 h4 h5 =>
      cases hx
      refine .e_term (fun g => ?_) (.t_is (.m_word hq) (.b_is h2 ht h1 h4)) h5
      rcases (show q.k = 3 ∨ q.k = 4 ∨ (q.k = 6 ∧ q.t = [123]) from g) with g | g | g <;> omega
    | plain h1 h2 h => cases hx; exact h
  exact key h rfl
/-- A number, and what is behind it. -/
theorem term_num {n : Pk} {us : List Pk} (hn : n.k = 1) (h1 : ¬ isK 1 us) (hb : ¬ isMk 91 us) : Rd' M .term (n :: us) (some [⟨1, [], [], [], [M n.t]⟩]) us := by
  have e : nmL (n :: us) = [n.t] := by
    show (if n.k = 1 then n.t :: nmL us else []) = _
    rw [if_pos hn]
    congr 1
    cases us with
    | nil => rfl
    | cons q r => exact if_neg h1
  have g := Rd'.m_nums (M := M) (ts := n :: us) (by rw [e]; simp) (by rw [e]; simp)
  rw [e] at g
  exact .t_is g (.b_end hb)
section
variable {ts : List Pk} {L : List Tn} (h : Rd' M .expr ts (some L) [])
include h
theorem line_paren {o c : Pk} (ho : o.k = 6) (hot : o.t = [40]) (hc : c.k = 6) (hct : c.t = [41]) : Ln M (o :: (ts ++ [c])) (some L) [] := by
  have g := h.app (us := [c]) (.inr ⟨by simp, shut_mk hc hct (by decide) (by decide)⟩)
  refine .plain (fun g => ?_) (fun g => ?_) (.e_term (fun g => ?_) (.t_is (.m_par ho hot (.c_is g hc hct)) (.b_end shut_nil.b)) (.a_end shut_nil.v))
  · have : o.k = 2 := g.1; omega
  · have : o.k = 3 := g.1; omega
  · rcases (show o.k = 3 ∨ o.k = 4 ∨ (o.k = 6 ∧ o.t = [123]) from g) with g | g | g
    · omega
    · omega
    · rw [hot] at g; simp at g
theorem line_index {w o c : Pk} (hw : w.k = 2) (ho : o.k = 6) (hot : o.t = [91]) (hc : c.k = 6) (hct : c.t = [93]) : Ln M (w :: o :: (ts ++ [c])) (some (⟨8, [], [], [], []⟩ :: ([⟨2, [], [], w.t, []⟩] ++ L))) [] := by
  have g := h.app (us := [c]) (.inr ⟨by simp, shut_mk hc hct (by decide) (by decide)⟩)
  exact .index hw ho hot (.c_is g hc hct) id (.b_end shut_nil.b) (.a_end shut_nil.v)
theorem line_assign {w d : Pk} (hw : w.k = 2) (hd : d.k = 6) (hdt : d.t = [58]) : Ln M (w :: d :: ts) (some (⟨5, [], [], w.t, []⟩ :: L)) [] := .assign hw hd hdt h
theorem line_define {w d o c : Pk} (hw : w.k = 3) (hd : d.k = 6) (hdt : d.t = [58]) (ho : o.k = 6) (hot : o.t = [123]) (hc : c.k = 6) (hct : c.t = [125]) : Ln M (w :: d :: o :: (ts ++ [c])) (some (⟨7, [], [], w.t, []⟩ :: L)) [] := by
  have g := h.app (us := [c]) (.inr ⟨by simp, shut_mk hc hct (by decide) (by decide)⟩)
  exact .define hw hd hdt ho hot (.c_is g hc hct)
theorem line_monad {v : Pk} (hv : v.k = 4) : Ln M (v :: ts) (some (⟨3, v.t, [], [], []⟩ :: L)) [] := by
  refine .plain (fun g => ?_) (fun g => ?_) (.e_verb (.inr (.inl hv)) (.o_is (L := []) (V := [⟨3, v.t, [], [], []⟩]) (x := some L) (.v_one (.inr hv) (.d_none h.begins)) h))
  · have : v.k = 2 := g.1; omega
  · have : v.k = 3 := g.1; omega
theorem line_dyad {n v : Pk} (hn : n.k = 1) (hv : v.k = 4) : Ln M (n :: v :: ts) (some (⟨4, v.t, [], [], []⟩ :: ([⟨1, [], [], [], [M n.t]⟩] ++ L))) [] := by
  have hb : ¬ isMk 91 (v :: ts) := fun g => by have g : v.k = 6 ∧ v.t = [91] := g; omega
  have h1 : ¬ isK 1 (v :: ts) := fun g => by have g : v.k = 1 := g; omega
  refine .plain (fun g => ?_) (fun g => ?_) (.e_term (fun g => ?_) (term_num hn h1 hb) (.a_op (.inr (.inl hv)) (.o_is (V := [⟨4, v.t, [], [], []⟩]) (x := some L) (.v_one (.inr hv) (.d_none h.begins)) h)))
  · have : n.k = 2 := g.1; omega
  · have : n.k = 3 := g.1; omega
  · rcases (show n.k = 3 ∨ n.k = 4 ∨ (n.k = 6 ∧ n.t = [123]) from g) with g | g | g <;> omega
theorem line_dyad_adv {n v a : Pk} (hn : n.k = 1) (hv : v.k = 4) (ha : a.k = 5) (hat : a.t = [39]) : Ln M (n :: v :: a :: ts) (some (⟨4, v.t, [39], [], []⟩ :: ([⟨1, [], [], [], [M n.t]⟩] ++ L))) [] := by
  have hb : ¬ isMk 91 (v :: a :: ts) := fun g => by have g : v.k = 6 ∧ v.t = [91] := g; omega
  have h1 : ¬ isK 1 (v :: a :: ts) := fun g => by have g : v.k = 1 := g; omega
  refine .plain (fun g => ?_) (fun g => ?_) (.e_term (fun g => ?_) (term_num hn h1 hb) (.a_op (.inr (.inl hv)) (.o_is (V := [⟨4, v.t, [39], [], []⟩]) (x := some L) (.v_one (.inr hv) (.d_is ha hat (by decide))) h)))
  · have : n.k = 2 := g.1; omega
  · have : n.k = 3 := g.1; omega
  · rcases (show n.k = 3 ∨ n.k = 4 ∨ (n.k = 6 ∧ n.t = [123]) from g) with g | g | g <;> omega
theorem line_two {us : List Pk} {K : List Tn} (h2 : Rd' M .expr us (some K) []) {n v w o c o2 c2 : Pk} (hn : n.k = 1) (hv : v.k = 4) (hw : w.k = 2) (ho : o.k = 6) (hot : o.t = [91]) (hc : c.k = 6) (hct : c.t = [93]) (ho2 : o2.k = 6) (hot2 : o2.t = [91]) (hc2 : c2.k = 6) (hct2 : c2.t = [93]) :
    Ln M (n :: v :: w :: o :: (ts ++ c :: o2 :: (us ++ [c2]))) (some (⟨4, v.t, [], [], []⟩ :: ([⟨1, [], [], [], [M n.t]⟩] ++ (⟨8, [], [], [], []⟩ :: ((⟨8, [], [], [], []⟩ :: ([⟨2, [], [], w.t, []⟩] ++ L)) ++ K))))) [] := by
  have g1 := h.app (us := c :: o2 :: (us ++ [c2])) (.inr ⟨by simp, shut_mk hc hct (by decide) (by decide)⟩)
  have g2 := h2.app (us := [c2]) (.inr ⟨by simp, shut_mk hc2 hct2 (by decide) (by decide)⟩)
  have hb : ∀ l, ¬ isMk 91 (v :: l) := fun l g => by have g : v.k = 6 ∧ v.t = [91] := g; omega
  have h1 : ∀ l, ¬ isK 1 (v :: l) := fun l g => by have g : v.k = 1 := g; omega
  have ev : ∀ l, ¬ isVb (w :: l) := fun l g => by
    rcases (show w.k = 3 ∨ w.k = 4 ∨ (w.k = 6 ∧ w.t = [123]) from g) with g | g | g <;> omega
  have ge : Rd' M .expr (w :: o :: (ts ++ c :: o2 :: (us ++ [c2]))) (some (⟨8, [], [], [], []⟩ :: ((⟨8, [], [], [], []⟩ :: ([⟨2, [], [], w.t, []⟩] ++ L)) ++ K))) [] :=
    .e_term (ev _) (.t_is (.m_word hw) (.b_is ho hot (.c_is g1 hc hct) (.b_is ho2 hot2 (.c_is g2 hc2 hct2) (.b_end shut_nil.b)))) (.a_end shut_nil.v)
  refine .plain (fun g => ?_) (fun g => ?_) (.e_term (fun g => ?_) (term_num hn (h1 _) (hb _)) (.a_op (.inr (.inl hv)) (.o_is (V := [⟨4, v.t, [], [], []⟩]) (x := some _) (.v_one (.inr hv) (.d_none ge.begins)) ge)))
  · have : n.k = 2 := g.1; omega
  · have : n.k = 3 := g.1; omega
  · rcases (show n.k = 3 ∨ n.k = 4 ∨ (n.k = 6 ∧ n.t = [123]) from g) with g | g | g <;> omega
end
end Go.Proofs.YtljkmdmbndjngaaGreat
/-
  Lines put together of lines: their parts, and what is read of them, plainly. (Imports nothing of the program.)
-/
namespace Go.Proofs.YtljkmdmbndjngaaGreat
set_option linter.unusedVariables false
set_option linter.unusedSimpArgs false
variable {N : List UInt8 → Bool} {M : List UInt8 → List UInt8}

def Tk.pk (t : Tk) : Pk := ⟨t.kind, t.text, t.at_⟩
def Pk.up (m : Nat) (q : Pk) : Pk := ⟨q.k, q.t, q.p + m⟩
theorem pk_up (m : Nat) (ts : List Tk) : (ts.map (Tk.up m)).map Tk.pk = (ts.map Tk.pk).map (Pk.up m) := by
  rw [List.map_map, List.map_map]
  exact List.map_congr_left fun t _ => by simp [Tk.pk, Tk.up, Pk.up]
/-- Nothing goes on with this byte. -/
def Cuts (c : UInt8) : Prop := ∀ k, (moreL k).contains c = false
theorem cuts_of : ∀ c, (cls c == 4 || cls c == 5 || cls c == 6) = true → ((moreL 1).contains c = false ∧ (moreL 2).contains c = false ∧ (moreL 3).contains c = false) := all_u8 (by decide +kernel)
theorem cuts {c : UInt8} (h : (cls c == 4 || cls c == 5 || cls c == 6) = true) : Cuts c
  | 0 => rfl
  | 1 => (cuts_of c h).1
  | 2 => (cuts_of c h).2.1
  | 3 => (cuts_of c h).2.2
  | _ + 4 => rfl
theorem Stop.onto {k : Nat} {r : List UInt8} (h : Stop k r) {c : UInt8} (hc : Cuts c) (b : List UInt8) : Stop k (r ++ c :: b) := by
  cases r with
  | nil => exact .cons (hc k)
  | cons d r => exact .cons (h d rfl)
/-- A line, and one behind it that begins so that nothing goes on with it. -/
theorem Run.onto {a : List UInt8} {p : Nat} {ts : List Tk} {e : Option Nat} (h : Run N a p ts e) (he : e = none) {c : UInt8} {b : List UInt8} (hc : Cuts c) {us : List Tk} {f : Option Nat} :
    Run N (c :: b) (p + a.length) us f → Run N (a ++ c :: b) p (ts ++ us) f := by
  induction h with
  | nil p => exact fun hb => hb
  | @blank d l p ts e h hr ih =>
    intro hb
    exact .blank h (ih he (by rw [show p + 1 + l.length = p + (d :: l).length by simp; omega]; exact hb))
  | @part k d t r p ts e h h1 h6 ht hs hn hr ih =>
    intro hb
    rw [List.append_assoc]
    exact .part h h1 h6 ht (hs.onto hc b) hn (ih he (by rw [show p + (t.length + 1) + r.length = p + (d :: t ++ r).length by simp; omega]; exact hb))
  | bad h => cases he
  | figs h ht hs hn => cases he
/-- One byte that is a part, if what is behind doesn't go on with it. -/
theorem Run.byte {k : Nat} {c : UInt8} {r : List UInt8} {p : Nat} {ts : List Tk} {e : Option Nat} (h : cls c = k) (h1 : 1 ≤ k) (h6 : k ≤ 6) (hs : Stop k r) (hn : k = 1 → N [c] = true) (hr : Run N r (p + 1) ts e) : Run N (c :: r) p (⟨k, [c], p⟩ :: ts) e :=
  Run.part (t := []) h h1 h6 (fun x hx => by cases hx) hs hn hr
theorem Run.own {k : Nat} {c : UInt8} {r : List UInt8} {p : Nat} {ts : List Tk} {e : Option Nat} (h : cls c = k) (h4 : 4 ≤ k) (h6 : k ≤ 6) (hr : Run N r (p + 1) ts e) : Run N (c :: r) p (⟨k, [c], p⟩ :: ts) e :=
  .byte h (by omega) h6 (fun d _ => by rw [more_big h4]; rfl) (fun e => by omega) hr
theorem Stop.of {k : Nat} {c : UInt8} (h : Cuts c) (b : List UInt8) : Stop k (c :: b) := .cons (h k)
section
variable {s : List UInt8} {ts : List Tk} {L : List Tn} (h : Run N s 0 ts none) (hl : Rd' M .expr (ts.map Tk.pk) (some L) [])
include hl in
theorem moved (m : Nat) : Rd' M .expr ((ts.map (Tk.up m)).map Tk.pk) (some L) [] := by
  rw [pk_up]
  exact hl.map (f := Pk.up m) (fun _ => rfl) (fun _ => rfl)
include h in
theorem run_up (m : Nat) : Run N s m (ts.map (Tk.up m)) none := by
  have := h.up m
  rwa [Nat.zero_add] at this
/-- A line, and a mark behind it. -/
theorem run_mark {c : UInt8} {b : List UInt8} {m : Nat} (hc : cls c = 6) (h : Run N s m ts none) {us : List Tk} (hb : Run N b (m + s.length + 1) us none) : Run N (s ++ c :: b) m (ts ++ ⟨6, [c], m + s.length⟩ :: us) none :=
  h.onto rfl (cuts (by rw [hc]; rfl)) (.own hc (by decide) (by decide) hb)
include h hl in
theorem in_paren : ∃ us, Run N (40 :: (s ++ [41])) 0 us none ∧ Ln M (us.map Tk.pk) (some L) [] := by
  refine ⟨_, .own (k := 6) (by decide) (by decide) (by decide) (run_mark (c := 41) (by decide) (run_up h 1) (.nil _)), ?_⟩
  rw [List.map_cons, List.map_append]
  exact line_paren (moved hl 1) rfl rfl rfl rfl
include h hl in
theorem in_index : ∃ us, Run N (97 :: 91 :: (s ++ [93])) 0 us none ∧ Ln M (us.map Tk.pk) (some (⟨8, [], [], [], []⟩ :: ([⟨2, [], [], [97], []⟩] ++ L))) [] := by
  refine ⟨_, .byte (k := 2) (by decide) (by decide) (by decide) (.of (cuts (by decide)) _) (fun e => by cases e) (.own (k := 6) (by decide) (by decide) (by decide) (run_mark (c := 93) (by decide) (run_up h 2) (.nil _))), ?_⟩
  rw [List.map_cons, List.map_cons, List.map_append]
  exact line_index (moved hl 2) rfl rfl rfl rfl rfl
include h hl in
theorem in_assign : ∃ us, Run N (97 :: 58 :: s) 0 us none ∧ Ln M (us.map Tk.pk) (some (⟨5, [], [], [97], []⟩ :: L)) [] := by
  refine ⟨_, .byte (k := 2) (by decide) (by decide) (by decide) (.of (cuts (by decide)) _) (fun e => by cases e) (.own (k := 6) (by decide) (by decide) (by decide) (run_up h 2)), ?_⟩
  rw [List.map_cons, List.map_cons]
  exact line_assign (moved hl 2) rfl rfl rfl
include h hl in
theorem in_define : ∃ us, Run N (70 :: 58 :: 123 :: (s ++ [125])) 0 us none ∧ Ln M (us.map Tk.pk) (some (⟨7, [], [], [70], []⟩ :: L)) [] := by
  refine ⟨_, .byte (k := 3) (by decide) (by decide) (by decide) (.of (cuts (by decide)) _) (fun e => by cases e) (.own (k := 6) (by decide) (by decide) (by decide) (.own (k := 6) (by decide) (by decide) (by decide) (run_mark (c := 125) (by decide) (run_up h 3) (.nil _)))), ?_⟩
  rw [List.map_cons, List.map_cons, List.map_cons, List.map_append]
  exact line_define (moved hl 3) rfl rfl rfl rfl rfl rfl rfl
include h hl in
theorem in_monad {v : UInt8} (hv : cls v = 4) : ∃ us, Run N (v :: s) 0 us none ∧ Ln M (us.map Tk.pk) (some (⟨3, [v], [], [], []⟩ :: L)) [] := by
  refine ⟨_, .own hv (by decide) (by decide) (run_up h 1), ?_⟩
  rw [List.map_cons]
  exact line_monad (moved hl 1) rfl
include h hl in
theorem in_dyad {v : UInt8} (hv : cls v = 4) (h7 : N [55] = true) : ∃ us, Run N (55 :: v :: s) 0 us none ∧ Ln M (us.map Tk.pk) (some (⟨4, [v], [], [], []⟩ :: ([⟨1, [], [], [], [M [55]]⟩] ++ L))) [] := by
  refine ⟨_, .byte (k := 1) (by decide) (by decide) (by decide) (.of (cuts (by rw [hv]; rfl)) _) (fun _ => h7) (.own hv (by decide) (by decide) (run_up h 2)), ?_⟩
  rw [List.map_cons, List.map_cons]
  exact line_dyad (moved hl 2) rfl rfl
include h hl in
theorem in_dyad_adv {v : UInt8} (hv : cls v = 4) (h7 : N [55] = true) : ∃ us, Run N (55 :: v :: 39 :: s) 0 us none ∧ Ln M (us.map Tk.pk) (some (⟨4, [v], [39], [], []⟩ :: ([⟨1, [], [], [], [M [55]]⟩] ++ L))) [] := by
  refine ⟨_, .byte (k := 1) (by decide) (by decide) (by decide) (.of (cuts (by rw [hv]; rfl)) _) (fun _ => h7) (.own hv (by decide) (by decide) (.own (k := 5) (by decide) (by decide) (by decide) (run_up h 3))), ?_⟩
  rw [List.map_cons, List.map_cons, List.map_cons]
  exact line_dyad_adv (moved hl 3) rfl rfl rfl rfl
include h hl in
theorem in_two {s2 : List UInt8} {ts2 : List Tk} {K : List Tn} (h2 : Run N s2 0 ts2 none) (hl2 : Rd' M .expr (ts2.map Tk.pk) (some K) []) (h1 : N [49] = true) :
    ∃ us, Run N (49 :: 43 :: 113 :: 91 :: (s ++ 93 :: 91 :: (s2 ++ [93]))) 0 us none ∧ Ln M (us.map Tk.pk) (some (⟨4, [43], [], [], []⟩ :: ([⟨1, [], [], [], [M [49]]⟩] ++ (⟨8, [], [], [], []⟩ :: ((⟨8, [], [], [], []⟩ :: ([⟨2, [], [], [113], []⟩] ++ L)) ++ K))))) [] := by
  refine ⟨_, .byte (k := 1) (by decide) (by decide) (by decide) (.of (cuts (by decide)) _) (fun _ => h1) (.own (k := 4) (by decide) (by decide) (by decide) (.byte (k := 2) (by decide) (by decide) (by decide) (.of (cuts (by decide)) _) (fun e => by cases e) (.own (k := 6) (by decide) (by decide) (by decide) (run_mark (c := 93) (by decide) (run_up h 4) (.own (k := 6) (by decide) (by decide) (by decide) (run_mark (c := 93) (by decide) (run_up h2 _) (.nil _))))))), ?_⟩
  rw [List.map_cons, List.map_cons, List.map_cons, List.map_cons, List.map_append, List.map_cons, List.map_cons, List.map_append]
  exact line_two (moved hl 4) (moved hl2 _) rfl rfl rfl rfl rfl rfl rfl rfl rfl rfl rfl
end
/-- Behind a line in which something fails there may stand what there may: a part of it fails, or one of the line. -/
theorem behind {s : List UInt8} {ts : List Tk} (h : Run N s 0 ts none) {x : Option (List Tn)} {r : List Pk} (hl : Ln M (ts.map Tk.pk) x r) (hr : r ≠ []) (b : List UInt8) :
    ∃ us f, Run N (s ++ 32 :: b) 0 (ts ++ us) f ∧ Ln M ((ts ++ us).map Tk.pk) x (r ++ us.map Tk.pk) := by
  obtain ⟨us, f, g⟩ := Run.any N b (0 + s.length + 1)
  refine ⟨us, f, h.app_blank rfl g, ?_⟩
  rw [List.map_append]
  exact hl.app hr _
end Go.Proofs.YtljkmdmbndjngaaGreat
/-
  How trees are printed, plainly, as an inductive relation; and that what is printed is read as the same tree. (Imports nothing of the program.)
-/
namespace Go.Proofs.YtljkmdmbndjngaaGreat
set_option linter.unusedVariables false
set_option linter.unusedSimpArgs false
variable {N : List UInt8 → Bool} {M : List UInt8 → List UInt8}

/-- A number's text, as a part. -/
structure Nu (N : List UInt8 → Bool) (s : List UInt8) : Prop where
  ex : ∃ c t, s = c :: t ∧ cls c = 1 ∧ ∀ x ∈ t, (moreL 1).contains x = true
  is : N s = true
/-- A verb's text, but for a body's. -/
inductive Vo : Nat → List UInt8 → List UInt8 → Prop
  | sign {c : UInt8} (h : cls c = 4) : Vo 4 [c] [c]
  | word {c : UInt8} {t : List UInt8} (h : cls c = 3) (ht : ∀ x ∈ t, (moreL 3).contains x = true) : Vo 3 (c :: t) (32 :: (c :: t ++ [32]))
/-- An adverb, or none. -/
def Av (k : Int) (a : List UInt8) : Prop := a = [] ∨ ∃ c ∈ advs k, a = [c]
inductive Mz where
  | left
  | whole
  | verb (k : Int)
def opN (X : List Tn) : Prop := ∃ n Y, X = n :: Y ∧ (n.k = 3 ∨ n.k = 4)
/-- How a tree is printed: to the left of a verb or a bracket; as a whole; a verb with its body. -/
inductive Pr (N : List UInt8 → Bool) (M : List UInt8 → List UInt8) : Mz → List Tn → List UInt8 → Prop
  | lit {ss : List (List UInt8)} (h0 : 0 < ss.length) (h1 : ss.length ≤ 100) (h : ∀ s ∈ ss, Nu N s) : Pr N M .left [⟨1, [], [], [], ss.map M⟩] (joinT ss)
  | name {c : UInt8} {t : List UInt8} (h : cls c = 2) (ht : ∀ x ∈ t, (moreL 2).contains x = true) : Pr N M .left [⟨2, [], [], c :: t, []⟩] (c :: t)
  | index {A I : List Tn} {s t : List UInt8} (hA : Pr N M .left A s) (hI : Pr N M .whole I t) : Pr N M .left (⟨8, [], [], [], []⟩ :: (A ++ I)) (s ++ 91 :: (t ++ [93]))
  | paren {X : List Tn} {s : List UInt8} (hX : Pr N M .whole X s) (ho : opN X) : Pr N M .left X (40 :: (s ++ [41]))
  | plain {X : List Tn} {s : List UInt8} (hX : Pr N M .left X s) (ho : ¬ opN X) : Pr N M .whole X s
  | monad {V X : List Tn} {s t : List UInt8} (hV : Pr N M (.verb 3) V s) (hX : Pr N M .whole X t) : Pr N M .whole (V ++ X) (s ++ t)
  | dyad {L V X : List Tn} {l s t : List UInt8} (hL : Pr N M .left L l) (hV : Pr N M (.verb 4) V s) (hX : Pr N M .whole X t) : Pr N M .whole (V ++ L ++ X) (l ++ (s ++ t))
  | one {k : Int} {j : Nat} {v a s : List UInt8} (hv : Vo j v s) (ha : Av k a) : Pr N M (.verb k) [⟨k, v, a, [], []⟩] (s ++ a)
  | body {k : Int} {B : List Tn} {a s : List UInt8} (hB : Pr N M .whole B s) (ha : Av k a) : Pr N M (.verb k) (⟨k, [123], a, [], []⟩ :: B) (123 :: (s ++ 125 :: a))

theorem isVb.no1 {us : List Pk} (h : isVb us) : ¬ isK 1 us := by
  cases us with
  | nil => exact id
  | cons q r => intro g; have g : q.k = 1 := g; rcases (show q.k = 3 ∨ q.k = 4 ∨ (q.k = 6 ∧ q.t = [123]) from h) with h | h | h <;> omega
theorem isVb.no91 {us : List Pk} (h : isVb us) : ¬ isMk 91 us := by
  cases us with
  | nil => exact id
  | cons q r =>
    intro g
    have g : q.k = 6 ∧ q.t = [91] := g
    rcases (show q.k = 3 ∨ q.k = 4 ∨ (q.k = 6 ∧ q.t = [123]) from h) with h | h | h
    · omega
    · omega
    · rw [g.2] at h; simp at h
/-- The bytes behind a line's piece, that don't go on with it. -/
def Sts (b : List UInt8) : Prop := ∀ k, Stop k b
/-- What the pieces of a printed tree are. -/
def Good (N : List UInt8 → Bool) (M : List UInt8 → List UInt8) : Mz → List Tn → List UInt8 → Prop
  | .left, X, s => ∀ p, ∃ ts : List Tk, (∀ b us f, Sts b → Run N b (p + s.length) us f → Run N (s ++ b) p (ts ++ us) f) ∧ ∀ us, ¬ isVb (ts.map Tk.pk ++ us) ∧ ∀ y r, ¬ isK 1 us → Rd' M (.brk X) us y r → Rd' M .term (ts.map Tk.pk ++ us) y r
  | .whole, X, s => ∀ p, ∃ ts : List Tk, (∀ b us f, Sts b → Run N b (p + s.length) us f → Run N (s ++ b) p (ts ++ us) f) ∧ ∀ us, Shut us → Rd' M .expr (ts.map Tk.pk ++ us) (some X) us
  | .verb k, X, s => (∀ b, Sts (s ++ b)) ∧ ∀ p, ∃ ts : List Tk, (∀ b us f, Run N b (p + s.length) us f → Run N (s ++ b) p (ts ++ us) f) ∧ ∀ us, isVb (ts.map Tk.pk ++ us) ∧ (¬ isK 5 us → Rd' M (.vb k) (ts.map Tk.pk ++ us) (some X) us)
theorem lit_good {ss : List (List UInt8)} (h0 : 0 < ss.length) (h : ∀ s ∈ ss, Nu N s) : ∀ p, ∃ ts : List Tk, (ts.map Tk.text = ss ∧ ∀ t ∈ ts, t.kind = 1) ∧ ∀ b us f, Sts b → Run N b (p + (joinT ss).length) us f → Run N (joinT ss ++ b) p (ts ++ us) f := by
  induction ss with
  | nil => simp at h0
  | cons s r ih =>
    intro p
    obtain ⟨⟨c, t, rfl, hc, ht⟩, hn⟩ := h s (by simp)
    cases r with
    | nil =>
      refine ⟨[⟨1, c :: t, p⟩], ⟨rfl, by simp⟩, fun b us f hb hr => ?_⟩
      exact .part hc (by decide) (by decide) ht (hb 1) (fun _ => hn) hr
    | cons s2 r =>
      obtain ⟨ts, ⟨e1, e2⟩, hts⟩ := ih (by simp) (fun x hx => h x (by simp [hx])) (p + ((c :: t).length + 1))
      refine ⟨⟨1, c :: t, p⟩ :: ts, ⟨by rw [List.map_cons, e1], fun x hx => by
        rcases List.mem_cons.1 hx with rfl | hx
        · rfl
        · exact e2 x hx⟩, fun b us f hb hr => ?_⟩
      have g := hts b us f hb (by rw [show p + ((c :: t).length + 1) + (joinT (s2 :: r)).length = p + (joinT ((c :: t) :: s2 :: r)).length by simp [joinT]; omega]; exact hr)
      show Run N ((c :: t ++ 32 :: joinT (s2 :: r)) ++ b) p _ f
      rw [List.append_assoc]
      exact .part hc (by decide) (by decide) ht (.blank 1 _) (fun _ => hn) (.blank cls_blank (by rw [show p + (t.length + 1) + 1 = p + ((c :: t).length + 1) by rw [List.length_cons]; omega]; exact g))
theorem nums_pk {ts : List Tk} (h : ∀ t ∈ ts, t.kind = 1) {us : List Pk} (hu : ¬ isK 1 us) : nmL (ts.map Tk.pk ++ us) = ts.map Tk.text ∧ (ts.map Tk.pk ++ us).drop ts.length = us := by
  induction ts with
  | nil =>
    refine ⟨?_, rfl⟩
    cases us with
    | nil => rfl
    | cons q r => exact if_neg hu
  | cons t ts ih =>
    obtain ⟨e1, e2⟩ := ih fun x hx => h x (by simp [hx])
    refine ⟨?_, e2⟩
    show (if (Tk.pk t).k = 1 then (Tk.pk t).t :: nmL (ts.map Tk.pk ++ us) else []) = _
    rw [if_pos (show (Tk.pk t).k = 1 by have := h t (by simp); show ((t.kind : Nat) : Int) = 1; omega), e1]
    rfl
theorem adv_cls : ∀ c, (c = 39 ∨ c = 47 ∨ c = 92 ∨ c = 96 ∨ c = 46) → cls c = 5 := by
  rintro c (rfl | rfl | rfl | rfl | rfl) <;> decide
theorem advs_cls {k : Int} {c : UInt8} (h : c ∈ advs k) : cls c = 5 := by
  unfold advs at h
  split at h
  · simp only [List.mem_cons, List.not_mem_nil, or_false] at h
    exact adv_cls c (by rcases h with h | h | h | h <;> simp [h])
  · simp only [List.mem_cons, List.not_mem_nil, or_false] at h
    exact adv_cls c (by rcases h with h | h <;> simp [h])
/-- An adverb behind a verb, both ways. -/
theorem av_good {k : Int} {a : List UInt8} (h : Av k a) : ∀ p, ∃ ts : List Tk, (∀ b us f, Run N b (p + a.length) us f → Run N (a ++ b) p (ts ++ us) f) ∧ ∀ (v : List UInt8) (B : List Tn) us, ¬ isK 5 us → Rd' M (.adv k v B) (ts.map Tk.pk ++ us) (some (⟨k, v, a, [], []⟩ :: B)) us := by
  intro p
  rcases h with rfl | ⟨c, hc, rfl⟩
  · exact ⟨[], fun b us f h => h, fun v B us hu => .d_none hu⟩
  · refine ⟨[⟨5, [c], p⟩], fun b us f h => .own (advs_cls hc) (by decide) (by decide) h, fun v B us hu => ?_⟩
    exact .d_is (q := ⟨5, [c], p⟩) rfl rfl hc
theorem sts_cons {c : UInt8} (h : Cuts c) (b : List UInt8) : Sts (c :: b) := fun _ => .of h b
end Go.Proofs.YtljkmdmbndjngaaGreat

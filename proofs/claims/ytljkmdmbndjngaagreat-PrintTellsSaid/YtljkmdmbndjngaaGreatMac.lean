import Derived.Test.YtljkmdmbndjngaaGreatMab
/-
  What is printed is read as the same tree. (Imports nothing of the program.)
-/
namespace Go.Proofs.YtljkmdmbndjngaaGreat
set_option linter.unusedVariables false
set_option linter.unusedSimpArgs false
variable {N : List UInt8 → Bool} {M : List UInt8 → List UInt8}

theorem cuts_mk {c : UInt8} (h : cls c = 6) : Cuts c := cuts (by rw [h]; rfl)
theorem cuts_blank : Cuts 32 := more_blank
theorem not_vb {q : Pk} {r : List Pk} (h : q.k = 1 ∨ q.k = 2 ∨ q.k = 5 ∨ (q.k = 6 ∧ q.t ≠ [123])) : ¬ isVb (q :: r) := fun g => by
  rcases (show q.k = 3 ∨ q.k = 4 ∨ (q.k = 6 ∧ q.t = [123]) from g) with g | g | g
  · omega
  · omega
  · rcases h with h | h | h | h
    · omega
    · omega
    · omega
    · exact h.2 g.2
theorem Pr.good {m : Mz} {X : List Tn} {s : List UInt8} (h : Pr N M m X s) : Good N M m X s := by
  induction h with
  | @lit ss h0 h1 h =>
    intro p
    obtain ⟨ts, ⟨e1, e2⟩, hr⟩ := lit_good h0 h p
    have hl : ts.length = ss.length := by rw [← e1, List.length_map]
    refine ⟨ts, hr, fun us => ⟨?_, fun y r hu hb => ?_⟩⟩
    · cases ts with
      | nil => rw [List.length_nil] at hl; omega
      | cons t ts => exact not_vb (.inl (by have := e2 t (by simp); show ((t.kind : Nat) : Int) = 1; omega))
    · obtain ⟨g1, g2⟩ := nums_pk e2 hu
      have g := Rd'.m_nums (M := M) (ts := ts.map Tk.pk ++ us) (by rw [g1, e1]; exact h0) (by rw [g1, e1]; exact h1)
      rw [g1, e1, ← hl, g2] at g
      exact .t_is g hb
  | @name c t h ht =>
    intro p
    exact ⟨[⟨2, c :: t, p⟩], fun b us f hb hr => .part h (by decide) (by decide) ht (hb 2) (fun e => by omega) hr, fun us => ⟨not_vb (.inr (.inl rfl)), fun y r hu hb => .t_is (.m_word (q := ⟨2, c :: t, p⟩) rfl) hb⟩⟩
  | @index A I s t hA hI iA iI =>
    intro p
    obtain ⟨ts, hr, hA⟩ := iA p
    obtain ⟨us, hr2, hI⟩ := iI (p + s.length + 1)
    refine ⟨ts ++ ⟨6, [91], p + s.length⟩ :: (us ++ [⟨6, [93], p + s.length + 1 + t.length⟩]), fun b vs f hb hv => ?_, fun vs => ⟨?_, fun y r hu hb => ?_⟩⟩
    · rw [List.append_assoc, List.append_assoc]
      refine hr _ _ _ (sts_cons (cuts_mk (by decide)) _) ?_
      show Run N (91 :: ((t ++ [93]) ++ b)) _ (_ :: ((us ++ [_]) ++ vs)) f
      rw [List.append_assoc, List.append_assoc]
      refine .own (k := 6) (by decide) (by decide) (by decide) (hr2 _ _ _ (sts_cons (cuts_mk (by decide)) _) ?_)
      refine .own (k := 6) (by decide) (by decide) (by decide) ?_
      rw [show p + s.length + 1 + t.length + 1 = p + (s ++ 91 :: (t ++ [93])).length by simp; omega]
      exact hv
    · rw [List.map_append, List.append_assoc]
      exact (hA _).1
    · rw [List.map_append, List.append_assoc]
      refine (hA _).2 y r (fun g => ?_) ?_
      · exact absurd (show (6 : Int) = 1 from g) (by decide)
      · refine .b_is (q := ⟨6, [91], ((p + s.length : Nat) : Int)⟩) rfl rfl (r' := vs) (I := I) ?_ hb
        have g := hI (⟨6, [93], ((p + s.length + 1 + t.length : Nat) : Int)⟩ :: vs) (shut_mk rfl rfl (by decide) (by decide))
        rw [List.map_append, List.append_eq, List.append_assoc]
        exact .c_is g rfl rfl
  | @paren X s hX ho iX =>
    intro p
    obtain ⟨ts, hr, hX⟩ := iX (p + 1)
    refine ⟨⟨6, [40], p⟩ :: (ts ++ [⟨6, [41], p + 1 + s.length⟩]), fun b vs f hb hv => ?_, fun vs => ⟨not_vb (.inr (.inr (.inr ⟨rfl, show ([40] : List UInt8) ≠ [123] by decide⟩))), fun y r hu hb => ?_⟩⟩
    · show Run N (40 :: ((s ++ [41]) ++ b)) _ (_ :: ((ts ++ [_]) ++ vs)) f
      rw [List.append_assoc, List.append_assoc]
      refine .own (k := 6) (by decide) (by decide) (by decide) (hr _ _ _ (sts_cons (cuts_mk (by decide)) _) ?_)
      refine .own (k := 6) (by decide) (by decide) (by decide) ?_
      rw [show p + 1 + s.length + 1 = p + (40 :: (s ++ [41])).length by simp; omega]
      exact hv
    · have g := hX (⟨6, [41], ((p + 1 + s.length : Nat) : Int)⟩ :: vs) (shut_mk rfl rfl (by decide) (by decide))
      refine .t_is (r := vs) (L := X) (.m_par (q := ⟨6, [40], (p : Int)⟩) rfl rfl ?_) hb
      rw [List.map_append, List.append_eq, List.append_assoc]
      exact .c_is g rfl rfl
  | @plain X s hX ho iX =>
    intro p
    obtain ⟨ts, hr, hX⟩ := iX p
    exact ⟨ts, hr, fun us hu => .e_term (hX us).1 ((hX us).2 _ _ hu.n (.b_end hu.b)) (.a_end hu.v)⟩
  | @monad V X s t hV hX iV iX =>
    intro p
    obtain ⟨_, iV⟩ := iV
    obtain ⟨ts, hr, hV⟩ := iV p
    obtain ⟨us, hr2, hX⟩ := iX (p + s.length)
    refine ⟨ts ++ us, fun b vs f hb hv => ?_, fun vs hu => ?_⟩
    · rw [List.append_assoc, List.append_assoc]
      exact hr _ _ _ (hr2 _ _ _ hb (by rw [show p + s.length + t.length = p + (s ++ t).length by simp; omega]; exact hv))
    · have g := hX vs hu
      rw [List.map_append, List.append_assoc]
      have g2 := (hV (us.map Tk.pk ++ vs)).2 g.begins
      have g3 := Rd'.o_is (L := []) g2 g
      rw [Option.map_some, List.append_nil] at g3
      exact .e_verb (hV _).1 g3
  | @dyad L V X l s t hL hV hX iL iV iX =>
    intro p
    obtain ⟨hs, iV⟩ := iV
    obtain ⟨ls, hr0, hL⟩ := iL p
    obtain ⟨ts, hr, hV⟩ := iV (p + l.length)
    obtain ⟨us, hr2, hX⟩ := iX (p + l.length + s.length)
    refine ⟨ls ++ (ts ++ us), fun b vs f hb hv => ?_, fun vs hu => ?_⟩
    · rw [List.append_assoc, List.append_assoc, List.append_assoc, List.append_assoc]
      exact hr0 _ _ _ (hs _) (hr _ _ _ (hr2 _ _ _ hb (by rw [show p + l.length + s.length + t.length = p + (l ++ (s ++ t)).length by simp; omega]; exact hv)))
    · have g := hX vs hu
      rw [List.map_append, List.map_append, List.append_assoc, List.append_assoc]
      have gv := (hV (us.map Tk.pk ++ vs)).1
      have g2 := (hV (us.map Tk.pk ++ vs)).2 g.begins
      have g3 := Rd'.o_is (L := L) g2 g
      rw [Option.map_some] at g3
      exact .e_term (hL _).1 ((hL _).2 _ _ gv.no1 (.b_end gv.no91)) (.a_op gv g3)
  | @one k j v a s hv ha =>
    have hb : ∀ b, Sts (s ++ a ++ b) := fun b => by
      rw [List.append_assoc]
      cases hv with
      | sign h => exact sts_cons (cuts (by rw [h]; rfl)) _
      | word h ht => exact sts_cons cuts_blank _
    refine ⟨hb, fun p => ?_⟩
    obtain ⟨ts, hr, hd⟩ := av_good (N := N) (M := M) ha (p + s.length)
    have hq : ∃ q, (∀ b us f, Run N b (p + s.length) us f → Run N (s ++ b) p (⟨j, v, q⟩ :: us) f) ∧ (j = 3 ∨ j = 4) := by
      cases hv with
      | sign h => exact ⟨p, fun b us f hr => .own h (by decide) (by decide) hr, .inr rfl⟩
      | @word c t h ht =>
        refine ⟨p + 1, fun b us f hr => ?_, .inl rfl⟩
        show Run N (32 :: ((c :: t ++ [32]) ++ b)) p _ f
        rw [List.append_assoc]
        refine .blank cls_blank (.part h (by decide) (by decide) ht (.blank 3 _) (fun e => by omega) (.blank cls_blank ?_))
        rw [show p + 1 + (t.length + 1) + 1 = p + (32 :: (c :: t ++ [32])).length by simp; omega]
        exact hr
    obtain ⟨q, hq, hj⟩ := hq
    have hj2 : ((j : Nat) : Int) = 3 ∨ ((j : Nat) : Int) = 4 := by omega
    refine ⟨⟨j, v, q⟩ :: ts, fun b us f h => ?_, fun us => ⟨?_, fun hu => .v_one (q := ⟨(j : Int), v, (q : Int)⟩) hj2 (hd v [] us hu)⟩⟩
    · rw [List.append_assoc]
      exact hq _ _ _ (hr _ _ _ (by rw [show p + s.length + a.length = p + (s ++ a).length by simp; omega]; exact h))
    · exact hj2.elim .inl fun h => .inr (.inl h)
  | @body k B a s hB ha iB =>
    refine ⟨fun b => sts_cons (cuts_mk (by decide)) _, fun p => ?_⟩
    obtain ⟨ts, hr, hB⟩ := iB (p + 1)
    obtain ⟨us, hr2, hd⟩ := av_good (N := N) (M := M) ha (p + 1 + s.length + 1)
    refine ⟨⟨6, [123], p⟩ :: (ts ++ ⟨6, [125], p + 1 + s.length⟩ :: us), fun b vs f h => ?_, fun vs => ⟨.inr (.inr ⟨rfl, rfl⟩), fun hu => ?_⟩⟩
    · show Run N (123 :: ((s ++ 125 :: a) ++ b)) _ (_ :: ((ts ++ _ :: us) ++ vs)) f
      rw [List.append_assoc, List.append_assoc]
      refine .own (k := 6) (by decide) (by decide) (by decide) (hr _ _ _ (sts_cons (cuts_mk (by decide)) _) ?_)
      refine .own (k := 6) (by decide) (by decide) (by decide) (hr2 _ _ _ ?_)
      rw [show p + 1 + s.length + 1 + a.length = p + (123 :: (s ++ 125 :: a)).length by simp; omega]
      exact h
    · have g := hB (⟨6, [125], ((p + 1 + s.length : Nat) : Int)⟩ :: (us.map Tk.pk ++ vs)) (shut_mk rfl rfl (by decide) (by decide))
      refine .v_body (q := ⟨6, [123], (p : Int)⟩) (r' := us.map Tk.pk ++ vs) (B := B) rfl rfl ?_ (hd [123] B vs hu)
      rw [List.map_append, List.append_eq, List.append_assoc]
      exact .c_is g rfl rfl
end Go.Proofs.YtljkmdmbndjngaaGreat
/-
  What is printed of a line's tree is read as the same tree. (Imports nothing of the program.)
-/
namespace Go.Proofs.YtljkmdmbndjngaaGreat
set_option linter.unusedVariables false
set_option linter.unusedSimpArgs false
variable {N : List UInt8 → Bool} {M : List UInt8 → List UInt8}

theorem mk_apart {c d : UInt8} {us : List Pk} (h : isMk c us) (hcd : c ≠ d) : ¬ isMk d us := by
  cases us with
  | nil => exact id
  | cons q r =>
    intro g
    have h : q.k = 6 ∧ q.t = [c] := h
    have g : q.k = 6 ∧ q.t = [d] := g
    rw [h.2] at g
    exact hcd (by injection g.2)
theorem mk_not_vb {c : UInt8} {us : List Pk} (h : isMk c us) (hc : c ≠ 123) : ¬ isVb us := by
  cases us with
  | nil => exact id
  | cons q r =>
    have h : q.k = 6 ∧ q.t = [c] := h
    exact not_vb (.inr (.inr (.inr ⟨h.1, by rw [h.2]; intro e; exact hc (by injection e)⟩)))
theorem mk_not_k {c : UInt8} {us : List Pk} (h : isMk c us) {k : Int} (hk : k ≠ 6) : ¬ isK k us := by
  cases us with
  | nil => exact id
  | cons q r =>
    have h : q.k = 6 ∧ q.t = [c] := h
    intro g
    have g : q.k = k := g
    omega
/-- An expression begins with no colon. -/
theorem no_colon {us r : List Pk} {X : List Tn} (h : Rd' M .expr us (some X) r) (hc : isMk 58 us) : False := by
  cases h with
  | e_verb hv _ => exact mk_not_vb hc (by decide) hv
  | e_term hv h1 h2 =>
    cases h1 with
    | t_is h1 h3 =>
      cases h1 with
      | m_word hq => exact absurd (show isK 2 (_ :: _) from hq) (mk_not_k hc (by decide))
      | m_par hq ht _ => exact absurd (show isMk 40 (_ :: _) from ⟨hq, ht⟩) (mk_apart hc (by decide))
      | m_nums h0 h1 =>
        cases us with
        | nil => exact absurd hc id
        | cons q us =>
          have : nmL (q :: us) = [] := if_neg (mk_not_k hc (k := 1) (by decide))
          rw [this] at h0
          simp at h0
/-- Behind a term that ends ahead of a colon, nothing comes. -/
theorem no_aft {L : List Tn} {us : List Pk} {x : Option (List Tn)} (h : Rd' M (.aft L) us x []) (hc : isMk 58 us) : False := by
  cases h with
  | a_end hv => exact hc
  | a_op hv _ => exact mk_not_vb hc (by decide) hv
theorem no_brk {L K : List Tn} {us r : List Pk} {x : Option (List Tn)} (h : Rd' M (.brk L) us (some K) r) (g : Rd' M (.aft K) r x []) (hc : isMk 58 us) : False := by
  cases h with
  | b_end hv => exact no_aft g hc
  | b_is hq ht _ _ => exact mk_apart hc (by decide) (show isMk 91 (_ :: _) from ⟨hq, ht⟩)
theorem Ln.of_expr {ts : List Pk} {X : List Tn} (h : Rd' M .expr ts (some X) []) : Ln M ts (some X) [] := by
  by_cases h2 : isK 3 ts ∧ isMk 58 ts.tail
  · exfalso
    cases ts with
    | nil => exact h2.1
    | cons q us =>
      obtain ⟨hk, hm⟩ := h2
      have hk : q.k = 3 := hk
      have hm : isMk 58 us := hm
      cases h with
      | e_term hv _ _ => exact hv (.inl hk)
      | e_verb hv h1 =>
        generalize ho : (some X : Option (List Tn)) = o at h1
        cases h1 with
        | o_bad _ => cases ho
        | o_is h1 h3 =>
          cases h1 with
          | v_one hq h1 =>
            cases h1 with
            | d_none _ =>
              rename_i x _
              cases x with
              | none => cases ho
              | some x => exact no_colon h3 hm
            | d_is h5 _ _ => exact mk_not_k hm (k := 5) (by decide) h5
          | v_body h6 _ _ _ => omega
  · by_cases h1 : isK 2 ts ∧ (isMk 58 ts.tail ∨ isMk 91 ts.tail)
    · cases ts with
      | nil => exact h1.1.elim
      | cons q us =>
        obtain ⟨hk, hm⟩ := h1
        have hk : q.k = 2 := hk
        have hm : isMk 58 us ∨ isMk 91 us := hm
        cases h with
        | e_verb hv _ => exact absurd hv (not_vb (.inr (.inl hk)))
        | e_term hv h1 h3 =>
          cases h1 with
          | t_is h1 h4 =>
            have hat : ∀ {x : Option (List Tn)} {r : List Pk}, Rd' M .atom (q :: us) x r → x = some [⟨2, [], [], q.t, []⟩] ∧ r = us := by
              intro x r g
              cases g with
              | m_word _ => exact ⟨rfl, rfl⟩
              | m_par h6 _ _ => omega
              | m_bad h _ _ => exact absurd hk h
              | m_many h => 
                have e : nmL (q :: us) = [] := if_neg (show ¬ q.k = 1 by omega)
                rw [e] at h; simp at h
              | m_nums h _ =>
                have e : nmL (q :: us) = [] := if_neg (show ¬ q.k = 1 by omega)
                rw [e] at h; simp at h
            obtain ⟨e1, e2⟩ := hat h1
            injection e1 with e1
            subst e1 e2
            rcases hm with hm | hm
            · exact (no_brk h4 h3 hm).elim
            · cases h4 with
              | b_end hn => exact absurd hm hn
              | b_is h6 ht hc hb => exact .index hk h6 ht hc (fun g => no_brk hb h3 g) hb h3
    · exact .plain h1 h2 h
/-- How a line's tree is printed. -/
inductive PrL (N : List UInt8 → Bool) (M : List UInt8 → List UInt8) : List Tn → List UInt8 → Prop
  | expr {X : List Tn} {s : List UInt8} (h : Pr N M .whole X s) : PrL N M X s
  | assign {c : UInt8} {t : List UInt8} (hc : cls c = 2) (ht : ∀ x ∈ t, (moreL 2).contains x = true) {X : List Tn} {s : List UInt8} (h : Pr N M .whole X s) : PrL N M (⟨5, [], [], c :: t, []⟩ :: X) (c :: t ++ 58 :: s)
  | amend {c : UInt8} {t : List UInt8} (hc : cls c = 2) (ht : ∀ x ∈ t, (moreL 2).contains x = true) {I X : List Tn} {i s : List UInt8} (hI : Pr N M .whole I i) (h : Pr N M .whole X s) : PrL N M (⟨6, [], [], c :: t, []⟩ :: (I ++ X)) (c :: t ++ 91 :: (i ++ 93 :: 58 :: s))
  | define {c : UInt8} {t : List UInt8} (hc : cls c = 3) (ht : ∀ x ∈ t, (moreL 3).contains x = true) {B : List Tn} {b : List UInt8} (h : Pr N M .whole B b) : PrL N M (⟨7, [], [], c :: t, []⟩ :: B) (c :: t ++ 58 :: 123 :: (b ++ [125]))
theorem Pr.at {X : List Tn} {s : List UInt8} (h : Pr N M .whole X s) (p : Nat) : ∃ ts : List Tk, (∀ b us f, Sts b → Run N b (p + s.length) us f → Run N (s ++ b) p (ts ++ us) f) ∧ ∀ us, Shut us → Rd' M .expr (ts.map Tk.pk ++ us) (some X) us := h.good p
theorem Pr.end {X : List Tn} {s : List UInt8} (h : Pr N M .whole X s) (p : Nat) : ∃ ts : List Tk, Run N s p ts none ∧ Rd' M .expr (ts.map Tk.pk) (some X) [] := by
  obtain ⟨ts, h1, h2⟩ := h.at p
  have g := h1 [] [] none (fun k => .nil k) (.nil _)
  rw [List.append_nil, List.append_nil] at g
  have g2 := h2 [] shut_nil
  rw [List.append_nil] at g2
  exact ⟨ts, g, g2⟩
/-- What is printed is parsed as the same tree. -/
theorem PrL.back {X : List Tn} {s : List UInt8} (h : PrL N M X s) : ∃ ts : List Tk, Run N s 0 ts none ∧ Ln M (ts.map Tk.pk) (some X) [] := by
  cases h with
  | expr h =>
    obtain ⟨ts, h1, h2⟩ := h.end 0
    exact ⟨ts, h1, .of_expr h2⟩
  | @assign c t hc ht X s h =>
    obtain ⟨ts, h1, h2⟩ := h.end (0 + (t.length + 1) + 1)
    refine ⟨⟨2, c :: t, 0⟩ :: ⟨6, [58], 0 + (t.length + 1)⟩ :: ts, .part hc (by decide) (by decide) ht (.of (cuts_mk (by decide)) _) (fun e => by omega) (.own (k := 6) (by decide) (by decide) (by decide) h1), ?_⟩
    exact .assign (q := ⟨2, c :: t, (0 : Nat)⟩) (w := ⟨6, [58], ((0 + (t.length + 1) : Nat) : Int)⟩) (x := some X) rfl rfl rfl h2
  | @amend c t hc ht I X i s hI h =>
    obtain ⟨ts, h1, h2⟩ := hI.at (0 + (t.length + 1) + 1)
    obtain ⟨us, g1, g2⟩ := h.end (0 + (t.length + 1) + 1 + i.length + 1 + 1)
    refine ⟨⟨2, c :: t, 0⟩ :: ⟨6, [91], 0 + (t.length + 1)⟩ :: (ts ++ ⟨6, [93], 0 + (t.length + 1) + 1 + i.length⟩ :: ⟨6, [58], 0 + (t.length + 1) + 1 + i.length + 1⟩ :: us), .part hc (by decide) (by decide) ht (.of (cuts_mk (by decide)) _) (fun e => by omega) (.own (k := 6) (by decide) (by decide) (by decide) (h1 _ _ _ (sts_cons (cuts_mk (by decide)) _) (.own (k := 6) (by decide) (by decide) (by decide) (.own (k := 6) (by decide) (by decide) (by decide) g1)))), ?_⟩
    have gi := h2 (⟨6, [93], ((0 + (t.length + 1) + 1 + i.length : Nat) : Int)⟩ :: ⟨6, [58], ((0 + (t.length + 1) + 1 + i.length + 1 : Nat) : Int)⟩ :: us.map Tk.pk) (shut_mk rfl rfl (by decide) (by decide))
    rw [List.map_cons, List.map_cons, List.map_append, List.map_cons, List.map_cons]
    exact .amend (q := ⟨2, c :: t, (0 : Nat)⟩) (w := ⟨6, [91], ((0 + (t.length + 1) : Nat) : Int)⟩) (d := ⟨6, [58], ((0 + (t.length + 1) + 1 + i.length + 1 : Nat) : Int)⟩) (x := some X) rfl rfl rfl (.c_is gi rfl rfl) rfl rfl g2
  | @define c t hc ht B b h =>
    obtain ⟨ts, h1, h2⟩ := h.at (0 + (t.length + 1) + 1 + 1)
    refine ⟨⟨3, c :: t, 0⟩ :: ⟨6, [58], 0 + (t.length + 1)⟩ :: ⟨6, [123], 0 + (t.length + 1) + 1⟩ :: (ts ++ [⟨6, [125], 0 + (t.length + 1) + 1 + 1 + b.length⟩]), .part hc (by decide) (by decide) ht (.of (cuts_mk (by decide)) _) (fun e => by omega) (.own (k := 6) (by decide) (by decide) (by decide) (.own (k := 6) (by decide) (by decide) (by decide) (h1 _ _ _ (sts_cons (cuts_mk (by decide)) _) (.own (k := 6) (by decide) (by decide) (by decide) (.nil _))))), ?_⟩
    have gi := h2 [⟨6, [125], ((0 + (t.length + 1) + 1 + 1 + b.length : Nat) : Int)⟩] (shut_mk rfl rfl (by decide) (by decide))
    rw [List.map_cons, List.map_cons, List.map_cons, List.map_append]
    exact .define (q := ⟨3, c :: t, (0 : Nat)⟩) (w := ⟨6, [58], ((0 + (t.length + 1) : Nat) : Int)⟩) (b := ⟨6, [123], ((0 + (t.length + 1) + 1 : Nat) : Int)⟩) (x := some B) rfl rfl rfl rfl rfl (.c_is gi rfl rfl)
end Go.Proofs.YtljkmdmbndjngaaGreat
/-
  What a rule reads of a list of parts, it reads in one way alone. (Imports nothing of the program.)
-/
namespace Go.Proofs.YtljkmdmbndjngaaGreat
set_option linter.unusedVariables false
set_option linter.unusedSimpArgs false
variable {M : List UInt8 → List UInt8}

theorem mk_of {q : Pk} {c : UInt8} {r : List Pk} (h : q.k = 6) (ht : q.t = [c]) : isMk c (q :: r) := ⟨h, ht⟩
theorem nm_word {q : Pk} {r : List Pk} (h : q.k ≠ 1) : nmL (q :: r) = [] := if_neg h
theorem nm_k {ts : List Pk} (h : 0 < (nmL ts).length) : isK 1 ts := by
  cases ts with
  | nil => simp [nmL] at h
  | cons q r =>
    by_cases hq : q.k = 1
    · exact hq
    · rw [nm_word hq] at h; simp at h
theorem Rd'.det {R : Rl} {ts r : List Pk} {x : Option (List Tn)} (h : Rd' M R ts x r) : ∀ {y : Option (List Tn)} {r' : List Pk}, Rd' M R ts y r' → x = y ∧ r = r' := by
  induction h with
  | e_verb h h1 i =>
    intro y r' g
    cases g with
    | e_verb _ g1 => exact i g1
    | e_bad g _ => exact absurd h g
    | e_term g _ _ => exact absurd h g
  | e_bad h h1 i =>
    intro y r' g
    cases g with
    | e_verb g _ => exact absurd g h
    | e_bad _ g => exact i g
    | e_term _ g _ => cases (i g).1
  | e_term h h1 h2 i1 i2 =>
    intro y r' g
    cases g with
    | e_verb g _ => exact absurd g h
    | e_bad _ g => cases (i1 g).1
    | e_term _ g g2 =>
      obtain ⟨e1, rfl⟩ := i1 g
      injection e1 with e1
      subst e1
      exact i2 g2
  | a_end h =>
    intro y r' g
    cases g with
    | a_end _ => exact ⟨rfl, rfl⟩
    | a_op g _ => exact absurd g h
  | a_op h h1 i =>
    intro y r' g
    cases g with
    | a_end g => exact absurd h g
    | a_op _ g => exact i g
  | o_bad h1 i =>
    intro y r' g
    cases g with
    | o_bad g => exact i g
    | o_is g _ => cases (i g).1
  | o_is h1 h2 i1 i2 =>
    intro y r' g
    cases g with
    | o_bad g => cases (i1 g).1
    | o_is g g2 =>
      obtain ⟨e1, rfl⟩ := i1 g
      injection e1 with e1
      subst e1
      obtain ⟨rfl, rfl⟩ := i2 g2
      exact ⟨rfl, rfl⟩
  | v_one h h1 i =>
    intro y r' g
    cases g with
    | v_one _ g => exact i g
    | v_bad g _ _ => omega
    | v_body g _ _ _ => omega
  | v_bad h ht h1 i =>
    intro y r' g
    cases g with
    | v_one g _ => omega
    | v_bad _ _ g => exact i g
    | v_body _ _ g _ => cases (i g).1
  | v_body h ht h1 h2 i1 i2 =>
    intro y r' g
    cases g with
    | v_one g _ => omega
    | v_bad _ _ g => cases (i1 g).1
    | v_body _ _ g g2 =>
      obtain ⟨e1, rfl⟩ := i1 g
      injection e1 with e1
      subst e1
      exact i2 g2
  | d_none h =>
    intro y r' g
    cases g with
    | d_none _ => exact ⟨rfl, rfl⟩
    | d_is g _ _ => exact absurd g h
    | d_bad g _ => exact absurd g h
  | d_is h ht hc =>
    intro y r' g
    cases g with
    | d_none g => exact absurd h g
    | d_is _ g _ =>
      rw [ht] at g
      injection g with g
      subst g
      exact ⟨rfl, rfl⟩
    | d_bad _ g => exact absurd ht (g _ hc)
  | d_bad h ht =>
    intro y r' g
    cases g with
    | d_none g => exact absurd h g
    | d_is _ g hc => exact absurd g (ht _ hc)
    | d_bad _ _ => exact ⟨rfl, rfl⟩
  | t_bad h1 i =>
    intro y r' g
    cases g with
    | t_bad g => exact i g
    | t_is g _ => cases (i g).1
  | t_is h1 h2 i1 i2 =>
    intro y r' g
    cases g with
    | t_bad g => cases (i1 g).1
    | t_is g g2 =>
      obtain ⟨e1, rfl⟩ := i1 g
      injection e1 with e1
      subst e1
      exact i2 g2
  | b_end h =>
    intro y r' g
    cases g with
    | b_end _ => exact ⟨rfl, rfl⟩
    | b_bad h6 ht _ => exact absurd (mk_of h6 ht) h
    | b_is h6 ht _ _ => exact absurd (mk_of h6 ht) h
  | b_bad h6 ht h1 i =>
    intro y r' g
    cases g with
    | b_end g => exact absurd (mk_of h6 ht) g
    | b_bad _ _ g => exact i g
    | b_is _ _ g _ => cases (i g).1
  | b_is h6 ht h1 h2 i1 i2 =>
    intro y r' g
    cases g with
    | b_end g => exact absurd (mk_of h6 ht) g
    | b_bad _ _ g => cases (i1 g).1
    | b_is _ _ g g2 =>
      obtain ⟨e1, rfl⟩ := i1 g
      injection e1 with e1
      subst e1
      exact i2 g2
  | m_word h =>
    intro y r' g
    cases g with
    | m_word _ => exact ⟨rfl, rfl⟩
    | m_par g _ _ => omega
    | m_bad g _ _ => exact absurd h g
    | m_many g => rw [nm_word (by omega)] at g; simp at g
    | m_nums g _ => rw [nm_word (by omega)] at g; simp at g
  | m_par h ht h1 i =>
    intro y r' g
    cases g with
    | m_word g => omega
    | m_par _ _ g => exact i g
    | m_bad _ g _ => exact absurd (mk_of h ht) g
    | m_many g => rw [nm_word (by omega)] at g; simp at g
    | m_nums g _ => rw [nm_word (by omega)] at g; simp at g
  | m_bad h2 h6 h1 =>
    intro y r' g
    cases g with
    | m_word g => exact absurd g h2
    | m_par g ht _ => exact absurd (mk_of g ht) h6
    | m_bad _ _ _ => exact ⟨rfl, rfl⟩
    | m_many g => exact absurd (nm_k (by omega)) h1
    | m_nums g _ => exact absurd (nm_k g) h1
  | m_many h =>
    intro y r' g
    cases g with
    | m_word g => rw [nm_word (by omega)] at h; simp at h
    | m_par g _ _ => rw [nm_word (by omega)] at h; simp at h
    | m_bad _ _ g => exact absurd (nm_k (by omega)) g
    | m_many _ => exact ⟨rfl, rfl⟩
    | m_nums _ g => omega
  | m_nums h h1 =>
    intro y r' g
    cases g with
    | m_word g => rw [nm_word (by omega)] at h; simp at h
    | m_par g _ _ => rw [nm_word (by omega)] at h; simp at h
    | m_bad _ _ g => exact absurd (nm_k h) g
    | m_many g => omega
    | m_nums _ _ => exact ⟨rfl, rfl⟩
  | c_bad h1 i =>
    intro y r' g
    cases g with
    | c_bad g => exact i g
    | c_not g _ => cases (i g).1
    | c_is g _ _ => cases (i g).1
  | c_not h1 h i =>
    intro y r' g
    cases g with
    | c_bad g => cases (i g).1
    | c_not g _ => exact ⟨rfl, (i g).2⟩
    | c_is g h6 ht =>
      obtain ⟨_, rfl⟩ := i g
      exact absurd (mk_of h6 ht) h
  | c_is h1 h6 ht i =>
    intro y r' g
    cases g with
    | c_bad g => cases (i g).1
    | c_not g h =>
      obtain ⟨_, rfl⟩ := i g
      exact absurd (mk_of h6 ht) h
    | c_is g _ _ =>
      obtain ⟨e1, e2⟩ := i g
      injection e2 with _ e2
      exact ⟨e1, e2⟩
theorem Ln.det {ts r : List Pk} {x : Option (List Tn)} (h : Ln M ts x r) {y : Option (List Tn)} {r' : List Pk} (g : Ln M ts y r') : x = y ∧ r = r' := by
  cases h with
  | assign h h2 ht h1 =>
    cases g with
    | assign _ _ _ g => obtain ⟨rfl, rfl⟩ := h1.det g; exact ⟨rfl, rfl⟩
    | defbad g => omega
    | define g => omega
    | idxbad _ _ g _ => rw [ht] at g; simp at g
    | amend _ _ g => rw [ht] at g; simp at g
    | ixbad _ _ g => rw [ht] at g; simp at g
    | index _ _ g => rw [ht] at g; simp at g
    | plain g _ _ => exact absurd ⟨h, .inl (mk_of h2 ht)⟩ g
  | defbad h h2 ht h1 =>
    cases g with
    | assign g => omega
    | defbad _ _ _ _ => exact ⟨rfl, rfl⟩
    | define _ _ _ h3 hb => exact absurd (mk_of h3 hb) h1
    | idxbad g => omega
    | amend g => omega
    | ixbad g => omega
    | index g => omega
    | plain _ g _ => exact absurd ⟨h, mk_of h2 ht⟩ g
  | define h h2 ht h3 hb h1 =>
    cases g with
    | assign g => omega
    | defbad _ _ _ g => exact absurd (mk_of h3 hb) g
    | define _ _ _ _ _ g => obtain ⟨rfl, rfl⟩ := h1.det g; exact ⟨rfl, rfl⟩
    | idxbad g => omega
    | amend g => omega
    | ixbad g => omega
    | index g => omega
    | plain _ g _ => exact absurd ⟨h, mk_of h2 ht⟩ g
  | idxbad h h2 ht h1 =>
    cases g with
    | assign _ _ g => rw [ht] at g; simp at g
    | defbad g => omega
    | define g => omega
    | idxbad _ _ _ g => exact h1.det g
    | amend _ _ _ g => cases (h1.det g).1
    | ixbad _ _ _ g => cases (h1.det g).1
    | index _ _ _ g => cases (h1.det g).1
    | plain g _ _ => exact absurd ⟨h, .inr (mk_of h2 ht)⟩ g
  | amend h h2 ht h1 h3 hd h4 =>
    cases g with
    | assign _ _ g => rw [ht] at g; simp at g
    | defbad g => omega
    | define g => omega
    | idxbad _ _ _ g => cases (h1.det g).1
    | amend _ _ _ g _ _ g4 =>
      obtain ⟨e1, e2⟩ := h1.det g
      injection e1 with e1
      injection e2 with e2 e3
      subst e1 e2 e3
      obtain ⟨rfl, rfl⟩ := h4.det g4
      exact ⟨rfl, rfl⟩
    | ixbad _ _ _ g g3 => obtain ⟨_, rfl⟩ := h1.det g; exact absurd (mk_of h3 hd) g3
    | index _ _ _ g g3 => obtain ⟨_, rfl⟩ := h1.det g; exact absurd (mk_of h3 hd) g3
    | plain g _ _ => exact absurd ⟨h, .inr (mk_of h2 ht)⟩ g
  | ixbad h h2 ht h1 h3 h4 =>
    cases g with
    | assign _ _ g => rw [ht] at g; simp at g
    | defbad g => omega
    | define g => omega
    | idxbad _ _ _ g => cases (h1.det g).1
    | amend _ _ _ g g3 hd => obtain ⟨_, rfl⟩ := h1.det g; exact absurd (mk_of g3 hd) h3
    | ixbad _ _ _ g _ g4 =>
      obtain ⟨e1, e2⟩ := h1.det g
      injection e1 with e1
      subst e1 e2
      exact h4.det g4
    | index _ _ _ g _ g4 =>
      obtain ⟨e1, e2⟩ := h1.det g
      injection e1 with e1
      subst e1 e2
      cases (h4.det g4).1
    | plain g _ _ => exact absurd ⟨h, .inr (mk_of h2 ht)⟩ g
  | index h h2 ht h1 h3 h4 h5 =>
    cases g with
    | assign _ _ g => rw [ht] at g; simp at g
    | defbad g => omega
    | define g => omega
    | idxbad _ _ _ g => cases (h1.det g).1
    | amend _ _ _ g g3 hd => obtain ⟨_, rfl⟩ := h1.det g; exact absurd (mk_of g3 hd) h3
    | ixbad _ _ _ g _ g4 =>
      obtain ⟨e1, e2⟩ := h1.det g
      injection e1 with e1
      subst e1 e2
      cases (h4.det g4).1
    | index _ _ _ g _ g4 g5 =>
      obtain ⟨e1, e2⟩ := h1.det g
      injection e1 with e1
      subst e1 e2
      obtain ⟨e1, e2⟩ := h4.det g4
      injection e1 with e1
      subst e1 e2
      exact h5.det g5
    | plain g _ _ => exact absurd ⟨h, .inr (mk_of h2 ht)⟩ g
  | plain h1 h2 h =>
    cases g with
    | assign g g2 ht => exact absurd ⟨g, .inl (mk_of g2 ht)⟩ h1
    | defbad g g2 ht => exact absurd ⟨g, mk_of g2 ht⟩ h2
    | define g g2 ht => exact absurd ⟨g, mk_of g2 ht⟩ h2
    | idxbad g g2 ht => exact absurd ⟨g, .inr (mk_of g2 ht)⟩ h1
    | amend g g2 ht => exact absurd ⟨g, .inr (mk_of g2 ht)⟩ h1
    | ixbad g g2 ht => exact absurd ⟨g, .inr (mk_of g2 ht)⟩ h1
    | index g g2 ht => exact absurd ⟨g, .inr (mk_of g2 ht)⟩ h1
    | plain _ _ g => exact h.det g
end Go.Proofs.YtljkmdmbndjngaaGreat
/-
  Each tree that may be is printed in some way. (Imports nothing of the program.)
-/
namespace Go.Proofs.YtljkmdmbndjngaaGreat
set_option linter.unusedVariables false
set_option linter.unusedSimpArgs false
variable {N : List UInt8 → Bool} {M : List UInt8 → List UInt8}

theorem Dp.zero {L : List Tn} {d : Nat} (h : Dp L 0 d) : L = [] := List.length_eq_zero_iff.1 (Fd.inv0 h).1
/-- The first tree's head, what is below it, and the trees behind. -/
theorem Dp.split {L : List Tn} {m d : Nat} (h : Dp L (m + 1) d) : ∃ n Y R k d1 d2, L = n :: (Y ++ R) ∧ kdT n = ((k : Nat) : Int) ∧ Dp Y k d1 ∧ Dp R m d2 := by
  obtain ⟨k, q, d1, d2, hk, h0, g1, _, g2, _⟩ := Fd.inv h
  cases L with
  | nil => simp at hk
  | cons n T =>
    have hk : kdT n = k := by simpa using hk
    have l1 := g1.le
    have l2 := g2.le
    rw [List.length_map, List.length_cons] at l1
    have hq : q ≤ T.length + 1 := l1.2 (by omega)
    have hq1 : 1 ≤ q := by omega
    refine ⟨n, T.take (q - 1), T.drop (q - 1), k.toNat, d1, d2, by rw [List.take_append_drop], by omega, ?_, ?_⟩
    · have g := g1.move (K' := (T.take (q - 1)).map kdT) (s := 1) (by omega) (fun i hi hi2 => by
        obtain ⟨j, rfl⟩ : ∃ j, i = j + 1 := ⟨i - 1, by omega⟩
        rw [Nat.add_sub_cancel, List.map_cons, List.getElem?_cons_succ, List.map_take, List.getElem?_take_of_lt (by omega)])
      unfold Dp
      rw [List.length_take, Nat.min_eq_left (by omega)]
      exact g
    · have g := g2.move (K' := (T.drop (q - 1)).map kdT) (s := q) (Nat.le_refl _) (fun i hi hi2 => by
        rw [List.map_drop, List.getElem?_drop, List.map_cons, show i = (q - 1 + (i - q)) + 1 by omega, List.getElem?_cons_succ, show q - 1 + (q - 1 + (i - q) + 1 - q) = q - 1 + (i - q) by omega])
      unfold Dp
      rw [List.length_drop, show T.length - (q - 1) = (n :: T).length - q by rw [List.length_cons]; omega]
      rw [Nat.sub_self] at g
      exact g
theorem Dp.more {L : List Tn} {m d : Nat} (h : Dp L (m + 1) d) : ∃ A R d1 d2, L = A ++ R ∧ Dp A 1 d1 ∧ Dp R m d2 := by
  obtain ⟨n, Y, R, k, d1, d2, rfl, hk, h1, h2⟩ := h.split
  exact ⟨n :: Y, R, _, _, rfl, .cons hk h1, h2⟩
theorem Dp.head {L : List Tn} {d : Nat} (h : Dp L 1 d) : ∃ n Y k d1, L = n :: Y ∧ kdT n = ((k : Nat) : Int) ∧ Dp Y k d1 := by
  obtain ⟨n, Y, R, k, d1, d2, rfl, hk, h1, h2⟩ := h.split (m := 0)
  cases h2.zero
  exact ⟨n, Y, k, d1, by rw [List.append_nil], hk, h1⟩
theorem nums_of {P : Pk → Prop} (hN : ∀ q, P q → q.k = 1 → Nu N q.t) : ∀ l : List (List UInt8), (∀ s ∈ l, ∃ q, P q ∧ q.k = 1 ∧ s = M q.t) → ∃ ss : List (List UInt8), ss.map M = l ∧ ∀ s ∈ ss, Nu N s
  | [], _ => ⟨[], rfl, fun s hs => by cases hs⟩
  | s :: l, h => by
    obtain ⟨q, hp, hk, e⟩ := h s (by simp)
    obtain ⟨ss, e2, hs⟩ := nums_of hN l fun x hx => h x (by simp [hx])
    refine ⟨q.t :: ss, by rw [List.map_cons, e2, e], fun x hx => ?_⟩
    rcases List.mem_cons.1 hx with rfl | hx
    · exact hN q hp hk
    · exact hs x hx
theorem not_op {n : Tn} {Y : List Tn} (h : n.k = 1 ∨ n.k = 2 ∨ n.k = 8) : ¬ opN (n :: Y) := fun ⟨_, _, e, g⟩ => by
  injection e with e _
  subst e
  omega
theorem Pr.ex {P : Pk → Prop} (hN : ∀ q, P q → q.k = 1 → Nu N q.t) (hW : ∀ q, P q → q.k = 2 → ∃ c t, q.t = c :: t ∧ cls c = 2 ∧ ∀ x ∈ t, (moreL 2).contains x = true) (hO : ∀ q, P q → q.k = 3 ∨ q.k = 4 → q.t ≠ [123] ∧ ∃ j s, Vo j q.t s) :
    ∀ (m : Nat) (X : List Tn) (d : Nat), X.length ≤ m → Dp X 1 d → (∀ n ∈ X, Nok M P n) → (∃ s, Pr N M .whole X s) ∧ ∃ s, Pr N M .left X s := by
  intro m
  induction m with
  | zero =>
    intro X d hl hd _
    obtain ⟨n, Y, k, d1, rfl, _⟩ := hd.head
    simp at hl
  | succ m ih =>
    intro X d hl hd hX
    have fin : (∃ s, Pr N M .left X s) ∧ ¬ opN X → (∃ s, Pr N M .whole X s) ∧ ∃ s, Pr N M .left X s := fun ⟨⟨s, h⟩, ho⟩ => ⟨⟨s, .plain h ho⟩, s, h⟩
    have fin2 : (∃ s, Pr N M .whole X s) ∧ opN X → (∃ s, Pr N M .whole X s) ∧ ∃ s, Pr N M .left X s := fun ⟨⟨s, h⟩, ho⟩ => ⟨⟨s, h⟩, _, .paren h ho⟩
    obtain ⟨n, Y, k, d1, rfl, hk, hY⟩ := hd.head
    rw [List.length_cons] at hl
    have hn := hX n (by simp)
    have hYn : ∀ t ∈ Y, Nok M P t := fun t ht => hX t (by simp [ht])
    cases hn with
    | @lit l h0 h1 h =>
      have : k = 0 := by have : kdT (⟨1, [], [], [], l⟩ : Tn) = 0 := rfl; omega
      subst this
      cases hY.zero
      obtain ⟨ss, rfl, hs⟩ := nums_of hN l h
      rw [List.length_map] at h0 h1
      exact fin ⟨⟨_, .lit h0 h1 hs⟩, not_op (.inl rfl)⟩
    | @name q hq hk2 =>
      have : k = 0 := by have : kdT (⟨2, [], [], q.t, []⟩ : Tn) = 0 := rfl; omega
      subst this
      cases hY.zero
      obtain ⟨c, t, e, hc, ht⟩ := hW q hq hk2
      rw [e] at fin ⊢
      exact fin ⟨⟨_, .name hc ht⟩, not_op (.inr (.inl rfl))⟩
    | index =>
      have : k = 2 := by have : kdT (⟨8, [], [], [], []⟩ : Tn) = 2 := rfl; omega
      subst this
      obtain ⟨A, B, dA, dB, rfl, hA, hB⟩ := hY.more (m := 1)
      rw [List.length_append] at hl
      obtain ⟨_, s, hs⟩ := ih A _ (by omega) hA fun t ht => hYn t (by simp [ht])
      obtain ⟨⟨t, ht⟩, _⟩ := ih B _ (by omega) hB fun t ht => hYn t (by simp [ht])
      exact fin ⟨⟨_, .index hs ht⟩, not_op (.inr (.inr rfl))⟩
    | @one k2 q a hk2 hq h34 ha =>
      obtain ⟨hne, j, s, hv⟩ := hO q hq h34
      rcases hk2 with rfl | rfl
      · have : k = 1 := by have : kdT (⟨3, q.t, a, [], []⟩ : Tn) = 1 := by unfold kdT; simp [hne]
                           omega
        subst this
        obtain ⟨⟨t, ht⟩, _⟩ := ih Y _ (by omega) hY hYn
        exact fin2 ⟨⟨_, .monad (.one hv ha) ht⟩, _, _, rfl, .inl rfl⟩
      · have : k = 2 := by have : kdT (⟨4, q.t, a, [], []⟩ : Tn) = 2 := by unfold kdT; simp [hne]
                           omega
        subst this
        obtain ⟨A, B, dA, dB, rfl, hA, hB⟩ := hY.more (m := 1)
        rw [List.length_append] at hl
        obtain ⟨_, l, hl2⟩ := ih A _ (by omega) hA fun t ht => hYn t (by simp [ht])
        obtain ⟨⟨t, ht⟩, _⟩ := ih B _ (by omega) hB fun t ht => hYn t (by simp [ht])
        exact fin2 ⟨⟨_, .dyad hl2 (.one hv ha) ht⟩, _, _, rfl, .inr rfl⟩
    | @body k2 a hk2 ha =>
      rcases hk2 with rfl | rfl
      · have : k = 2 := by have : kdT (⟨3, [123], a, [], []⟩ : Tn) = 2 := by unfold kdT; simp
                           omega
        subst this
        obtain ⟨A, B, dA, dB, rfl, hA, hB⟩ := hY.more (m := 1)
        rw [List.length_append] at hl
        obtain ⟨⟨s, hs⟩, _⟩ := ih A _ (by omega) hA fun t ht => hYn t (by simp [ht])
        obtain ⟨⟨t, ht⟩, _⟩ := ih B _ (by omega) hB fun t ht => hYn t (by simp [ht])
        exact fin2 ⟨⟨_, .monad (.body hs ha) ht⟩, _, _, rfl, .inl rfl⟩
      · have : k = 3 := by have : kdT (⟨4, [123], a, [], []⟩ : Tn) = 3 := by unfold kdT; simp
                           omega
        subst this
        obtain ⟨A, Z, dA, dZ, rfl, hA, hZ⟩ := hY.more (m := 2)
        obtain ⟨B, C, dB, dC, rfl, hB, hC⟩ := hZ.more (m := 1)
        rw [List.length_append, List.length_append] at hl
        obtain ⟨⟨s, hs⟩, _⟩ := ih A _ (by omega) hA fun t ht => hYn t (by simp [ht])
        obtain ⟨_, l, hl2⟩ := ih B _ (by omega) hB fun t ht => hYn t (by simp [ht])
        obtain ⟨⟨t, ht⟩, _⟩ := ih C _ (by omega) hC fun t ht => hYn t (by simp [ht])
        have g := Pr.dyad hl2 (.body hs ha) ht
        rw [List.cons_append, List.cons_append, List.append_assoc] at g
        exact fin2 ⟨⟨_, g⟩, _, _, rfl, .inr rfl⟩
end Go.Proofs.YtljkmdmbndjngaaGreat
/-
  How a tree at a place of a list is printed, plainly: by its node, the places of those below it, and their texts; and that each tree printed (Pr, PrL) is printed so at its place. (Imports nothing of the program.)
-/
namespace Go.Proofs.YtljkmdmbndjngaaGreat
set_option linter.unusedVariables false
set_option linter.unusedSimpArgs false
variable {N : List UInt8 → Bool} {M : List UInt8 → List UInt8}

/-- In parentheses, if it is a tree of a verb. -/
def wrT (n : Tn) (t : List UInt8) : List UInt8 := if n.k = 3 ∨ n.k = 4 then 40 :: (t ++ [41]) else t
/-- A verb's text, of its node and its body's text. -/
inductive Vx : Tn → Option (List UInt8) → List UInt8 → Prop
  | one {j : Nat} {k : Int} {v a w : List UInt8} (hv : Vo j v w) : Vx ⟨k, v, a, [], []⟩ none (w ++ a)
  | body {k : Int} {a t : List UInt8} : Vx ⟨k, [123], a, [], []⟩ (some t) (123 :: (t ++ 125 :: a))
/-- What a node's text is, of the places below it and their texts. -/
inductive Fm (N : List UInt8 → Bool) (M : List UInt8 → List UInt8) (L : List Tn) : Tn → List Nat → List (List UInt8) → List UInt8 → Prop
  | lit {ss : List (List UInt8)} (h0 : 0 < ss.length) (h1 : ss.length ≤ 100) (h : ∀ s ∈ ss, Nu N s) : Fm N M L ⟨1, [], [], [], ss.map M⟩ [] [] (joinT ss)
  | name {x : List UInt8} : Fm N M L ⟨2, [], [], x, []⟩ [] [] x
  | monad {n : Tn} {q : Nat} {w t : List UInt8} (hk : n.k = 3) (hv : Vx n none w) : Fm N M L n [q] [t] (w ++ t)
  | monadB {n : Tn} {u q : Nat} {b w t : List UInt8} (hk : n.k = 3) (hv : Vx n (some b) w) : Fm N M L n [u, q] [b, t] (w ++ t)
  | dyad {n m : Tn} {l q : Nat} {w tl t : List UInt8} (hk : n.k = 4) (hv : Vx n none w) (hl : L[l]? = some m) : Fm N M L n [l, q] [tl, t] (wrT m tl ++ (w ++ t))
  | dyadB {n m : Tn} {u l q : Nat} {b w tl t : List UInt8} (hk : n.k = 4) (hv : Vx n (some b) w) (hl : L[l]? = some m) : Fm N M L n [u, l, q] [b, tl, t] (wrT m tl ++ (w ++ t))
  | assign {x t : List UInt8} {q : Nat} : Fm N M L ⟨5, [], [], x, []⟩ [q] [t] (x ++ 58 :: t)
  | amend {x i t : List UInt8} {u q : Nat} : Fm N M L ⟨6, [], [], x, []⟩ [u, q] [i, t] (x ++ 91 :: (i ++ 93 :: 58 :: t))
  | define {x t : List UInt8} {q : Nat} : Fm N M L ⟨7, [], [], x, []⟩ [q] [t] (x ++ 58 :: 123 :: (t ++ [125]))
  | index {m : Tn} {l q : Nat} {tl t : List UInt8} (hl : L[l]? = some m) : Fm N M L ⟨8, [], [], [], []⟩ [l, q] [tl, t] (wrT m tl ++ 91 :: (t ++ [93]))
/-- The tree at a place is printed as s. -/
inductive Pt (N : List UInt8 → Bool) (M : List UInt8 → List UInt8) (L : List Tn) : Nat → List UInt8 → Prop
  | mk {p e : Nat} {n : Tn} {us : List Nat} {ts : List (List UInt8)} {s : List UInt8} (hn : L[p]? = some n) (he : eN (L.map kdT) 1 p = some e) (hu : un (L.map kdT) (kdT n).toNat (p + 1) = us) (hl : us.length = ts.length)
      (hk : ∀ (j u : Nat) (t : List UInt8), us[j]? = some u → ts[j]? = some t → Pt N M L u t) (hf : Fm N M L n us ts s) (hz : s.length ≤ 20000000000) : Pt N M L p s
/-- A list stands at a place of another one. -/
def In (L : List Tn) (p : Nat) (X : List Tn) : Prop := ∃ R, L.drop p = X ++ R
theorem In.head {L X : List Tn} {n : Tn} {p : Nat} (h : In L p (n :: X)) : L[p]? = some n ∧ In L (p + 1) X := by
  obtain ⟨R, h⟩ := h
  constructor
  · have : (L.drop p)[0]? = some n := by rw [h]; rfl
    rwa [List.getElem?_drop] at this
  · refine ⟨R, ?_⟩
    rw [← List.drop_drop, h]; rfl
theorem In.left {L A B : List Tn} {p : Nat} (h : In L p (A ++ B)) : In L p A := by
  obtain ⟨R, h⟩ := h
  exact ⟨B ++ R, by rw [h, List.append_assoc]⟩
theorem In.right {L A B : List Tn} {p : Nat} (h : In L p (A ++ B)) : In L (p + A.length) B := by
  obtain ⟨R, h⟩ := h
  exact ⟨R, by rw [← List.drop_drop, h, List.append_assoc, List.drop_left']; rfl⟩
theorem In.fd {L X : List Tn} {p m d : Nat} (h : In L p X) (hd : Dp X m d) : Fd (L.map kdT) p m (p + X.length) d := by
  obtain ⟨R, h⟩ := h
  have g : Fd (L.map kdT) (0 + p) m (X.length + p) d := Fd.shift hd fun i _ hi => by
    have hi' : i < X.length := hi
    have e : L[i + p]? = X[i]? := by
      have : (L.drop p)[i]? = X[i]? := by rw [h, List.getElem?_append_left hi']
      rw [List.getElem?_drop, Nat.add_comm] at this
      exact this
    rw [List.getElem?_map, List.getElem?_map, e]
  rw [Nat.zero_add, Nat.add_comm] at g
  exact g
theorem In.tr {L X : List Tn} {p : Nat} (h : In L p X) (hX : Tr X) : eN (L.map kdT) 1 p = some (p + X.length) := by
  obtain ⟨d, hd⟩ := hX
  exact (h.fd hd).ends
theorem un0 (K : List Int) (p : Nat) : un K 0 p = [] := rfl
theorem un1 (K : List Int) (p : Nat) : un K 1 p = [p] := by
  show p :: (match eN K 1 p with | some q => un K 0 q | none => []) = [p]
  cases eN K 1 p <;> rfl
theorem In.un2 {L A : List Tn} {p : Nat} (h : In L p A) (hA : Tr A) : un (L.map kdT) 2 p = [p, p + A.length] := by
  rw [un_cons (h.tr hA), un1]
theorem In.un3 {L A B : List Tn} {p : Nat} (h : In L p (A ++ B)) (hA : Tr A) (hB : Tr B) : un (L.map kdT) 3 p = [p, p + A.length, p + A.length + B.length] := by
  rw [un_cons (h.left.tr hA), h.right.un2 hB]
theorem Tr.one {n : Tn} {A : List Tn} (h : kdT n = 1) (hA : Tr A) : Tr (n :: A) := by
  obtain ⟨d, hd⟩ := hA
  exact ⟨_, .cons (k := 1) h hd⟩
theorem Tr.three {n : Tn} {A B C : List Tn} (h : kdT n = 3) (hA : Tr A) (hB : Tr B) (hC : Tr C) : Tr (n :: (A ++ (B ++ C))) := by
  obtain ⟨d, hA⟩ := hA
  obtain ⟨_, hB⟩ := hB
  obtain ⟨_, hC⟩ := hC
  exact ⟨_, .cons (k := 3) h (hA.app (hB.app hC))⟩
theorem vo_ne {j : Nat} {v w : List UInt8} (h : Vo j v w) : v ≠ [123] := by
  cases h with
  | sign h => intro e; cases e; exact absurd h (by decide)
  | word h ht => intro e; injection e with e _; subst e; exact absurd h (by decide)
/-- A node's words are no longer than a line. -/
def Sm (n : Tn) : Prop := n.v.length ≤ 300 ∧ n.a.length ≤ 300 ∧ n.x.length ≤ 300
theorem joinT_most {B : Nat} : ∀ {ss : List (List UInt8)}, (∀ s ∈ ss, s.length ≤ B) → (joinT ss).length ≤ (B + 1) * ss.length
  | [], _ => by simp [joinT]
  | [a], h => by
    have := h a (by simp)
    show a.length ≤ _
    simp; omega
  | a :: b :: r, h => by
    have h1 := h a (by simp)
    have h2 := joinT_most (ss := b :: r) fun x hx => h x (by simp [hx])
    show (a ++ 32 :: joinT (b :: r)).length ≤ _
    rw [List.length_append, List.length_cons, List.length_cons (a := a), Nat.mul_succ]
    omega
/-- How long what is printed is at most. -/
def Ml : Mz → List Tn → List UInt8 → Prop
  | .left, X, s => s.length ≤ 20000 * X.length ∧ (¬ opN X → s.length + 2 ≤ 20000 * X.length)
  | .whole, X, s => s.length + 2 ≤ 20000 * X.length
  | .verb _, X, s => s.length + 2 ≤ 20000 * X.length
theorem not_op8 {n : Tn} {Y : List Tn} (h : n.k = 1 ∨ n.k = 2 ∨ n.k = 8) : ¬ opN (n :: Y) := not_op h
theorem Pr.len (hN : ∀ s, N s = true → s.length ≤ 110) {m : Mz} {X : List Tn} {s : List UInt8} (h : Pr N M m X s) : (∀ n ∈ X, Sm n) → Ml m X s := by
  induction h with
  | @lit ss h0 h1 h =>
    intro _
    have g := joinT_most (B := 110) fun s hs => hN s (h s hs).is
    have : 111 * ss.length ≤ 111 * 100 := Nat.mul_le_mul_left _ h1
    have e : ([⟨1, [], [], [], ss.map M⟩] : List Tn).length = 1 := rfl
    exact ⟨by rw [e]; omega, fun _ => by rw [e]; omega⟩
  | @name c t h ht =>
    intro hS
    have g : (c :: t).length ≤ 300 := (hS _ List.mem_cons_self).2.2
    have e : ([⟨2, [], [], c :: t, []⟩] : List Tn).length = 1 := rfl
    exact ⟨by rw [e]; omega, fun _ => by rw [e]; omega⟩
  | @index A I s t hA hI i j =>
    intro hS
    have g1 := (i fun n hn => hS n (by simp [hn])).1
    have g2 : t.length + 2 ≤ 20000 * I.length := j fun n hn => hS n (by simp [hn])
    refine ⟨?_, fun _ => ?_⟩
    all_goals
      simp only [List.length_append, List.length_cons, List.length_nil]
      omega
  | @paren X s hX ho i =>
    intro hS
    have g : s.length + 2 ≤ 20000 * X.length := i hS
    refine ⟨?_, fun h => absurd ho h⟩
    simp only [List.length_append, List.length_cons, List.length_nil]
    omega
  | @plain X s hX ho i => exact fun hS => (i hS).2 ho
  | @monad V X s t hV hX i j =>
    intro hS
    have g1 : s.length + 2 ≤ 20000 * V.length := i fun n hn => hS n (by simp [hn])
    have g2 : t.length + 2 ≤ 20000 * X.length := j fun n hn => hS n (by simp [hn])
    show (s ++ t).length + 2 ≤ 20000 * (V ++ X).length
    simp only [List.length_append]
    omega
  | @dyad L' V X l s t hL hV hX g i j =>
    intro hS
    have g0 := (g fun n hn => hS n (by simp [hn])).1
    have g1 : s.length + 2 ≤ 20000 * V.length := i fun n hn => hS n (by simp [hn])
    have g2 : t.length + 2 ≤ 20000 * X.length := j fun n hn => hS n (by simp [hn])
    show (l ++ (s ++ t)).length + 2 ≤ 20000 * (V ++ L' ++ X).length
    simp only [List.length_append]
    omega
  | @one k j v a s hv ha =>
    intro hS
    obtain ⟨g1, g2, _⟩ := hS _ List.mem_cons_self
    have g1 : v.length ≤ 300 := g1
    have g2 : a.length ≤ 300 := g2
    have e : s.length ≤ v.length + 2 := by
      cases hv with
      | sign h => exact Nat.le_add_right _ _
      | word h ht => simp
    show (s ++ a).length + 2 ≤ 20000 * 1
    rw [List.length_append]
    omega
  | @body k B a s hB ha i =>
    intro hS
    have g1 : s.length + 2 ≤ 20000 * B.length := i fun n hn => hS n (by simp [hn])
    have g2 : a.length ≤ 300 := (hS _ List.mem_cons_self).2.1
    show (123 :: (s ++ 125 :: a)).length + 2 ≤ 20000 * (_ :: B).length
    simp only [List.length_append, List.length_cons]
    omega
theorem In.sub {L X : List Tn} {p : Nat} (h : In L p X) : X.length ≤ L.length ∧ ∀ n ∈ X, n ∈ L := by
  obtain ⟨R, h⟩ := h
  constructor
  · have := congrArg List.length h
    rw [List.length_drop, List.length_append] at this
    omega
  · exact fun n hn => List.mem_of_mem_drop (i := p) (by rw [h]; exact List.mem_append_left _ hn)
theorem In.size {L X : List Tn} {p : Nat} {s : List UInt8} (h : In L p X) (hN : ∀ s, N s = true → s.length ≤ 110) (hL : L.length ≤ 1000000) (hS : ∀ n ∈ L, Sm n) (g : Pr N M .whole X s) : s.length ≤ 20000000000 := by
  have g1 : s.length + 2 ≤ 20000 * X.length := g.len hN fun n hn => hS n (h.sub.2 n hn)
  have := h.sub.1
  omega
theorem In.size2 {L X : List Tn} {p : Nat} {s : List UInt8} (h : In L p X) (hN : ∀ s, N s = true → s.length ≤ 110) (hL : L.length ≤ 1000000) (hS : ∀ n ∈ L, Sm n) (g : Pr N M .left X s) : s.length ≤ 20000000000 := by
  have g1 : s.length ≤ 20000 * X.length := (g.len hN fun n hn => hS n (h.sub.2 n hn)).1
  have := h.sub.1
  omega
/-- What Pr means at a place. -/
def Mn (N : List UInt8 → Bool) (M : List UInt8 → List UInt8) (L : List Tn) : Mz → List Tn → List UInt8 → Prop
  | .left, X, s => Tr X ∧ ∀ p, In L p X → ∃ n t, L[p]? = some n ∧ Pt N M L p t ∧ s = wrT n t
  | .whole, X, s => Tr X ∧ ∀ p, In L p X → Pt N M L p s
  | .verb k, X, s => (∃ v a, X = [⟨k, v, a, [], []⟩] ∧ v ≠ [123] ∧ Vx ⟨k, v, a, [], []⟩ none s) ∨ ∃ a B, X = ⟨k, [123], a, [], []⟩ :: B ∧ Tr B ∧ ∃ t, Vx ⟨k, [123], a, [], []⟩ (some t) s ∧ ∀ p, In L p B → Pt N M L p t
theorem Pt.none {L : List Tn} {p e : Nat} {n : Tn} {s : List UInt8} (hn : L[p]? = some n) (he : eN (L.map kdT) 1 p = some e) (hk : kdT n = 0) (hf : Fm N M L n [] [] s) (hz : s.length ≤ 20000000000) : Pt N M L p s :=
  .mk hn he (by rw [hk]; rfl) rfl (fun j u t h => by simp at h) hf hz
theorem Pt.one {L : List Tn} {p e u : Nat} {n : Tn} {s t : List UInt8} (hn : L[p]? = some n) (he : eN (L.map kdT) 1 p = some e) (hk : kdT n = 1) (hu : un (L.map kdT) 1 (p + 1) = [u]) (hp : Pt N M L u t) (hf : Fm N M L n [u] [t] s) (hz : s.length ≤ 20000000000) : Pt N M L p s :=
  .mk hn he (by rw [hk]; exact hu) rfl (fun j u t h g => by
    match j with
    | 0 => simp at h g; subst h g; exact hp
    | j + 1 => simp at h) hf hz
theorem Pt.two {L : List Tn} {p e u v : Nat} {n : Tn} {s t r : List UInt8} (hn : L[p]? = some n) (he : eN (L.map kdT) 1 p = some e) (hk : kdT n = 2) (hu : un (L.map kdT) 2 (p + 1) = [u, v]) (hp : Pt N M L u t) (hq : Pt N M L v r) (hf : Fm N M L n [u, v] [t, r] s) (hz : s.length ≤ 20000000000) : Pt N M L p s :=
  .mk hn he (by rw [hk]; exact hu) rfl (fun j u t h g => by
    match j with
    | 0 => simp at h g; subst h g; exact hp
    | 1 => simp at h g; subst h g; exact hq
    | j + 2 => simp at h) hf hz
theorem Pt.three {L : List Tn} {p e u v x : Nat} {n : Tn} {s t r y : List UInt8} (hn : L[p]? = some n) (he : eN (L.map kdT) 1 p = some e) (hk : kdT n = 3) (hu : un (L.map kdT) 3 (p + 1) = [u, v, x]) (hp : Pt N M L u t) (hq : Pt N M L v r) (hx : Pt N M L x y) (hf : Fm N M L n [u, v, x] [t, r, y] s) (hz : s.length ≤ 20000000000) : Pt N M L p s :=
  .mk hn he (by rw [hk]; exact hu) rfl (fun j u t h g => by
    match j with
    | 0 => simp at h g; subst h g; exact hp
    | 1 => simp at h g; subst h g; exact hq
    | 2 => simp at h g; subst h g; exact hx
    | j + 3 => simp at h) hf hz
theorem wr_not {n : Tn} {X : List Tn} {t : List UInt8} (h : ¬ opN (n :: X)) : wrT n t = t := if_neg fun g => h ⟨n, X, rfl, g⟩
theorem tr_ne {X : List Tn} (h : Tr X) : ∃ n Y, X = n :: Y := by
  obtain ⟨d, h⟩ := h
  obtain ⟨n, Y, _, _, rfl, _⟩ := h.head
  exact ⟨n, Y, rfl⟩
theorem Pr.at_place (hN : ∀ s, N s = true → s.length ≤ 110) (L : List Tn) (hL : L.length ≤ 1000000) (hS : ∀ n ∈ L, Sm n) {m : Mz} {X : List Tn} {s : List UInt8} (h : Pr N M m X s) : Mn N M L m X s := by
  induction h with
  | @lit ss h0 h1 h =>
    have hT : Tr [⟨1, [], [], [], ss.map M⟩] := tr_leaf (.inl rfl)
    refine ⟨hT, fun p hp => ⟨_, joinT ss, hp.head.1, .none hp.head.1 (hp.tr hT) rfl (.lit h0 h1 h) (hp.size2 hN hL hS (.lit h0 h1 h)), ?_⟩⟩
    exact (if_neg (by simp)).symm
  | @name c t h ht =>
    have hT : Tr [⟨2, [], [], c :: t, []⟩] := tr_leaf (.inr rfl)
    refine ⟨hT, fun p hp => ⟨_, c :: t, hp.head.1, .none hp.head.1 (hp.tr hT) rfl .name (hp.size2 (M := M) hN hL hS (.name h ht)), ?_⟩⟩
    exact (if_neg (by simp)).symm
  | @index A I s t hA hI i j =>
    obtain ⟨tA, i⟩ := i
    obtain ⟨tI, j⟩ := j
    have hT : Tr (⟨8, [], [], [], []⟩ :: (A ++ I)) := tr_two rfl tA tI
    refine ⟨hT, fun p hp => ?_⟩
    obtain ⟨hn, hq⟩ := hp.head
    obtain ⟨n, u, hu, hP, rfl⟩ := i _ hq.left
    refine ⟨_, wrT n u ++ 91 :: (t ++ [93]), hn, .two hn (hp.tr hT) rfl (hq.left.un2 tA) hP (j _ hq.right) (.index hu) (hp.size2 hN hL hS (.index hA hI)), ?_⟩
    exact (if_neg (by simp)).symm
  | @paren X s hX ho i =>
    obtain ⟨tX, i⟩ := i
    refine ⟨tX, fun p hp => ?_⟩
    obtain ⟨n, Y, rfl, hk⟩ := ho
    exact ⟨n, s, hp.head.1, i p hp, (if_pos hk).symm⟩
  | @plain X s hX ho i =>
    obtain ⟨tX, i⟩ := i
    refine ⟨tX, fun p hp => ?_⟩
    obtain ⟨n, t, hn, hP, rfl⟩ := i p hp
    obtain ⟨m, Y, rfl⟩ := tr_ne tX
    have e := hp.head.1
    rw [hn] at e
    cases e
    rw [wr_not ho]
    exact hP
  | @monad V X s t hV hX i j =>
    obtain ⟨tX, j⟩ := j
    rcases i with ⟨v, a, rfl, hv, hx⟩ | ⟨a, B, rfl, tB, u, hx, hu⟩
    · have hk : kdT ⟨3, v, a, [], []⟩ = 1 := by simp [kdT, hv]
      have hT : Tr (⟨3, v, a, [], []⟩ :: X) := .one hk tX
      refine ⟨hT, fun p hp => ?_⟩
      obtain ⟨hn, hq⟩ := hp.head
      exact .one hn (hp.tr hT) hk (un1 _ _) (j _ hq) (.monad rfl hx) (hp.size hN hL hS (.monad hV hX))
    · have hT : Tr (⟨3, [123], a, [], []⟩ :: (B ++ X)) := tr_two (by simp [kdT]) tB tX
      refine ⟨hT, fun p hp => ?_⟩
      obtain ⟨hn, hq⟩ := hp.head
      exact .two hn (hp.tr hT) (by simp [kdT]) (hq.left.un2 tB) (hu _ hq.left) (j _ hq.right) (.monadB rfl hx) (hp.size hN hL hS (.monad hV hX))
  | @dyad L' V X l s t hL' hV hX g i j =>
    obtain ⟨tL, g⟩ := g
    obtain ⟨tX, j⟩ := j
    rcases i with ⟨v, a, rfl, hv, hx⟩ | ⟨a, B, rfl, tB, u, hx, hu⟩
    · have hk : kdT ⟨4, v, a, [], []⟩ = 2 := by simp [kdT, hv]
      have hT : Tr (⟨4, v, a, [], []⟩ :: (L' ++ X)) := tr_two hk tL tX
      refine ⟨hT, fun p hp => ?_⟩
      obtain ⟨hn, hq⟩ := In.head (show In L p (⟨4, v, a, [], []⟩ :: (L' ++ X)) from hp)
      obtain ⟨n, w, hw, hP, rfl⟩ := g _ hq.left
      exact .two hn (hp.tr hT) hk (hq.left.un2 tL) hP (j _ hq.right) (.dyad rfl hx hw) (hp.size hN hL hS (.dyad hL' hV hX))
    · have e : (⟨4, [123], a, [], []⟩ :: B) ++ L' ++ X = ⟨4, [123], a, [], []⟩ :: (B ++ (L' ++ X)) := by simp
      have he : ∀ p, In L p (⟨4, [123], a, [], []⟩ :: (B ++ (L' ++ X))) → In L p ((⟨4, [123], a, [], []⟩ :: B) ++ L' ++ X) := fun p h => e ▸ h
      rw [e]
      have hT : Tr (⟨4, [123], a, [], []⟩ :: (B ++ (L' ++ X))) := .three (by simp [kdT]) tB tL tX
      refine ⟨hT, fun p hp => ?_⟩
      have hs := he p hp
      obtain ⟨hn, hq⟩ := hp.head
      obtain ⟨n, w, hw, hP, rfl⟩ := g _ hq.right.left
      have hq2 : In L (p + 1) (B ++ L') := by
        rw [← List.append_assoc] at hq
        exact hq.left
      exact .three hn (hp.tr hT) (by simp [kdT]) (hq2.un3 tB tL) (hu _ hq.left) hP (j _ hq.right.right) (.dyadB rfl hx hw) (hs.size hN hL hS (.dyad hL' hV hX))
  | @one k j v a s hv ha => exact .inl ⟨v, a, rfl, vo_ne hv, .one hv⟩
  | @body k B a s hB ha i => exact .inr ⟨a, B, rfl, i.1, s, .body, i.2⟩
/-- A line's tree. -/
theorem PrL.at_place (hN : ∀ s, N s = true → s.length ≤ 110) {X : List Tn} (hL : X.length ≤ 1000000) (hS : ∀ n ∈ X, Sm n) {s : List UInt8} (h : PrL N M X s) : Pt N M X 0 s ∧ Tr X := by
  have here : ∀ X : List Tn, In X 0 X := fun X => ⟨[], by simp⟩
  cases h with
  | expr h => exact ⟨(h.at_place hN X hL hS).2 0 (here X), (h.at_place hN X hL hS).1⟩
  | @assign c t hc ht X s h =>
    have g := h.at_place hN (⟨5, [], [], c :: t, []⟩ :: X) hL hS
    have hT : Tr (⟨5, [], [], c :: t, []⟩ :: X) := .one rfl g.1
    have hp := here (⟨5, [], [], c :: t, []⟩ :: X)
    have z1 : s.length + 2 ≤ 20000 * X.length := h.len hN fun n hn => hS n (by simp [hn])
    have z2 : (c :: t).length ≤ 300 := (hS _ List.mem_cons_self).2.2
    refine ⟨.one hp.head.1 (hp.tr hT) rfl (un1 _ _) (g.2 _ hp.head.2) .assign ?_, hT⟩
    simp only [List.length_append, List.length_cons] at *
    omega
  | @amend c t hc ht I X i s hI h =>
    have g := h.at_place hN (⟨6, [], [], c :: t, []⟩ :: (I ++ X)) hL hS
    have g2 := hI.at_place hN (⟨6, [], [], c :: t, []⟩ :: (I ++ X)) hL hS
    have hT : Tr (⟨6, [], [], c :: t, []⟩ :: (I ++ X)) := tr_two rfl g2.1 g.1
    have hp := here (⟨6, [], [], c :: t, []⟩ :: (I ++ X))
    have z1 : s.length + 2 ≤ 20000 * X.length := h.len hN fun n hn => hS n (by simp [hn])
    have z3 : i.length + 2 ≤ 20000 * I.length := hI.len hN fun n hn => hS n (by simp [hn])
    have z2 : (c :: t).length ≤ 300 := (hS _ List.mem_cons_self).2.2
    refine ⟨.two hp.head.1 (hp.tr hT) rfl (hp.head.2.left.un2 g2.1) (g2.2 _ hp.head.2.left) (g.2 _ hp.head.2.right) .amend ?_, hT⟩
    simp only [List.length_append, List.length_cons] at *
    omega
  | @define c t hc ht B b h =>
    have g := h.at_place hN (⟨7, [], [], c :: t, []⟩ :: B) hL hS
    have hT : Tr (⟨7, [], [], c :: t, []⟩ :: B) := .one rfl g.1
    have hp := here (⟨7, [], [], c :: t, []⟩ :: B)
    have z1 : b.length + 2 ≤ 20000 * B.length := h.len hN fun n hn => hS n (by simp [hn])
    have z2 : (c :: t).length ≤ 300 := (hS _ List.mem_cons_self).2.2
    refine ⟨.one hp.head.1 (hp.tr hT) rfl (un1 _ _) (g.2 _ hp.head.2) .define ?_, hT⟩
    simp only [List.length_append, List.length_cons, List.length_nil] at *
    omega
end Go.Proofs.YtljkmdmbndjngaaGreat

import Derived.Test.YtljkmdmbndjngaaGreatMab
import Derived.Test.YtljkmdmbndjngaaGreatMan
import Derived.Test.YtljkmdmbndjngaaGreatMam
/-
  A machine that reads lines with a stack of what is begun, plainly; that it tells what the grammar tells. (Imports nothing of the program.)
-/
namespace Go.Proofs.YtljkmdmbndjngaaGreat
set_option linter.unusedVariables false
set_option linter.unusedSimpArgs false
variable {M : List UInt8 → List UInt8}

/-- What is begun: a node, the trees below it that are there, the mark that ends it (none: it ends with what it stands in). -/
structure Bg where
  n : Tn
  ks : List (List Tn)
  u : Option UInt8
def Bg.put (b : Bg) (T : List Tn) : List Tn := b.n :: (b.ks ++ [T]).flatten
inductive Md where
  | to
  | vb (k : Int) (ls : List (List Tn))
  | ad (k : Int) (v : List UInt8) (ls : List (List Tn))
  | fr (T : List Tn)
  | dn (T : List Tn)
  | mk (b : Bg) (T : List Tn)
/-- How a node of a kind, and a verb, begins. -/
def nv (k : Int) (v a x : List UInt8) : Tn := ⟨k, v, a, x, []⟩
/-- What the machine tells of the parts that are left, with a stack: a tree, or the parts from the one on with which nothing goes on. -/
inductive Mc (M : List UInt8 → List UInt8) : Md → List Pk → List Bg → Option (List Tn) → List Pk → Prop
  | t_num {ts r : List Pk} {K : List Bg} {x : Option (List Tn)} (h : isK 1 ts) (h1 : Mc M (.fr [⟨1, [], [], [], ((nmL ts).take 100).map M⟩]) (ts.drop ((nmL ts).take 100).length) K x r) : Mc M .to ts K x r
  | t_word {q : Pk} {l r : List Pk} {K : List Bg} {x : Option (List Tn)} (h : q.k = 2) (h1 : Mc M (.fr [nv 2 [] [] q.t]) l K x r) : Mc M .to (q :: l) K x r
  | t_par {q : Pk} {l r : List Pk} {K : List Bg} {x : Option (List Tn)} (h : q.k = 6) (ht : q.t = [40]) (h1 : Mc M .to l (⟨nv 0 [] [] [], [], some 41⟩ :: K) x r) : Mc M .to (q :: l) K x r
  | t_verb {ts r : List Pk} {K : List Bg} {x : Option (List Tn)} (h : isVb ts) (h1 : Mc M (.vb 3 []) ts K x r) : Mc M .to ts K x r
  | t_bad {ts : List Pk} {K : List Bg} (h1 : ¬ isK 1 ts) (h2 : ¬ isK 2 ts) (h6 : ¬ isMk 40 ts) (hv : ¬ isVb ts) : Mc M .to ts K none ts
  | v_one {k : Int} {ls : List (List Tn)} {q : Pk} {l r : List Pk} {K : List Bg} {x : Option (List Tn)} (h : q.k = 3 ∨ q.k = 4) (h1 : Mc M (.ad k q.t ls) l K x r) : Mc M (.vb k ls) (q :: l) K x r
  | v_body {k : Int} {ls : List (List Tn)} {q : Pk} {l r : List Pk} {K : List Bg} {x : Option (List Tn)} (h : q.k = 6) (ht : q.t = [123]) (h1 : Mc M .to l (⟨nv k q.t [] [], ls, some 125⟩ :: K) x r) : Mc M (.vb k ls) (q :: l) K x r
  | d_is {k : Int} {v : List UInt8} {ls : List (List Tn)} {q : Pk} {c : UInt8} {l r : List Pk} {K : List Bg} {x : Option (List Tn)} (h : q.k = 5) (ht : q.t = [c]) (hc : c ∈ advs k) (h1 : Mc M .to l (⟨nv k v [c] [], ls, none⟩ :: K) x r) : Mc M (.ad k v ls) (q :: l) K x r
  | d_no {k : Int} {v : List UInt8} {ls : List (List Tn)} {ts r : List Pk} {K : List Bg} {x : Option (List Tn)} (h : ∀ q l, ts = q :: l → q.k = 5 → ∀ c ∈ advs k, q.t ≠ [c]) (h1 : Mc M .to ts (⟨nv k v [] [], ls, none⟩ :: K) x r) : Mc M (.ad k v ls) ts K x r
  | f_brk {T : List Tn} {q : Pk} {l r : List Pk} {K : List Bg} {x : Option (List Tn)} (h : q.k = 6) (ht : q.t = [91]) (h1 : Mc M .to l (⟨nv 8 [] [] [], [T], some 93⟩ :: K) x r) : Mc M (.fr T) (q :: l) K x r
  | f_verb {T : List Tn} {ts r : List Pk} {K : List Bg} {x : Option (List Tn)} (h : isVb ts) (h1 : Mc M (.vb 4 [T]) ts K x r) : Mc M (.fr T) ts K x r
  | f_done {T : List Tn} {ts r : List Pk} {K : List Bg} {x : Option (List Tn)} (h : ¬ isMk 91 ts) (hv : ¬ isVb ts) (h1 : Mc M (.dn T) ts K x r) : Mc M (.fr T) ts K x r
  | e_pop {T : List Tn} {b : Bg} {ts r : List Pk} {K : List Bg} {x : Option (List Tn)} (hb : b.u = none) (h1 : Mc M (.dn (b.put T)) ts K x r) : Mc M (.dn T) ts (b :: K) x r
  | e_mark {T : List Tn} {b : Bg} {c : UInt8} {q : Pk} {l r : List Pk} {K : List Bg} {x : Option (List Tn)} (hb : b.u = some c) (h : q.k = 6) (ht : q.t = [c]) (h1 : Mc M (.mk b T) l K x r) : Mc M (.dn T) (q :: l) (b :: K) x r
  | e_not {T : List Tn} {b : Bg} {c : UInt8} {ts : List Pk} {K : List Bg} (hb : b.u = some c) (h : ¬ isMk c ts) : Mc M (.dn T) ts (b :: K) none ts
  | e_end {T : List Tn} : Mc M (.dn T) [] [] (some T) []
  | e_more {T : List Tn} {ts : List Pk} (h : ts ≠ []) : Mc M (.dn T) ts [] none ts
  | k_verb {b : Bg} {T : List Tn} {ts r : List Pk} {K : List Bg} {x : Option (List Tn)} (hb : b.n.k = 3 ∨ b.n.k = 4) (h1 : Mc M (.ad b.n.k b.n.v (T :: b.ks)) ts K x r) : Mc M (.mk b T) ts K x r
  | k_amend {b : Bg} {T : List Tn} {q : Pk} {l r : List Pk} {K : List Bg} {x : Option (List Tn)} (hb : b.n.k = 6) (h : q.k = 6) (ht : q.t = [58]) (h1 : Mc M .to l (⟨b.n, [T], none⟩ :: K) x r) : Mc M (.mk b T) (q :: l) K x r
  | k_name {b : Bg} {T : List Tn} {ts r : List Pk} {K : List Bg} {x : Option (List Tn)} (hb : b.n.k = 6) (h : ¬ isMk 58 ts) (h1 : Mc M (.fr (nv 8 [] [] [] :: ([nv 2 [] [] b.n.x] ++ T))) ts K x r) : Mc M (.mk b T) ts K x r
  | k_index {b : Bg} {T : List Tn} {ts r : List Pk} {K : List Bg} {x : Option (List Tn)} (hb : b.n.k = 8) (h1 : Mc M (.fr (b.put T)) ts K x r) : Mc M (.mk b T) ts K x r
  | k_par {b : Bg} {T : List Tn} {ts r : List Pk} {K : List Bg} {x : Option (List Tn)} (hb : b.n.k = 0) (h1 : Mc M (.fr T) ts K x r) : Mc M (.mk b T) ts K x r
  | k_def {b : Bg} {T : List Tn} (hb : b.n.k = 7) : Mc M (.mk b T) [] [] (some (b.put T)) []
  | k_more {b : Bg} {T : List Tn} {ts : List Pk} {K : List Bg} (hb : b.n.k = 7) (h : ts ≠ [] ∨ K ≠ []) : Mc M (.mk b T) ts K none ts

/-- A part that is no mark ends nothing. -/
theorem mc_stop {T : List Tn} {q : Pk} {l : List Pk} (h : q.k ≠ 6) : ∀ K : List Bg, Mc M (.dn T) (q :: l) K none (q :: l) := by
  intro K
  induction K generalizing T with
  | nil => exact .e_more (by simp)
  | cons b K ih =>
    cases hb : b.u with
    | none => exact .e_pop hb ih
    | some c => exact .e_not hb fun g => h g.1
/-- What reading by a rule is for the machine. -/
def Sim (M : List UInt8 → List UInt8) : Rl → List Pk → Option (List Tn) → List Pk → Prop
  | .expr, ts, some X, r => ∀ K y s, Mc M (.dn X) r K y s → Mc M .to ts K y s
  | .expr, ts, none, r => ∀ K, Mc M .to ts K none r
  | .aft L, ts, some X, r => ¬ isMk 91 ts → ∀ K y s, Mc M (.dn X) r K y s → Mc M (.fr L) ts K y s
  | .aft L, ts, none, r => ∀ K, Mc M (.fr L) ts K none r
  | .op k L, ts, some X, r => k = 3 ∨ k = 4 → ∀ ls : List (List Tn), ls.flatten = L → ∀ K y s, Mc M (.dn X) r K y s → Mc M (.vb k ls) ts K y s
  | .op k L, ts, none, r => k = 3 ∨ k = 4 → ∀ (ls : List (List Tn)) K, Mc M (.vb k ls) ts K none r
  | .vb k, ts, some V, r => k = 3 ∨ k = 4 → ∃ n bs, V = n :: List.flatten bs ∧ ∀ (ls : List (List Tn)) K y s, Mc M .to r (⟨n, bs ++ ls, none⟩ :: K) y s → Mc M (.vb k ls) ts K y s
  | .vb k, ts, none, r => k = 3 ∨ k = 4 → ∀ (ls : List (List Tn)) K, Mc M (.vb k ls) ts K none r
  | .adv k v B, ts, some V, r => ∃ n, V = n :: B ∧ ∀ (ls : List (List Tn)) K y s, Mc M .to r (⟨n, ls, none⟩ :: K) y s → Mc M (.ad k v ls) ts K y s
  | .adv k v _, ts, none, r => ∀ (ls : List (List Tn)) K, Mc M (.ad k v ls) ts K none r
  | .term, ts, some L, r => ¬ isMk 91 r ∧ ∀ K y s, Mc M (.fr L) r K y s → Mc M .to ts K y s
  | .term, ts, none, r => ¬ isVb ts → ∀ K, Mc M .to ts K none r
  | .brk L, ts, some X, r => ¬ isMk 91 r ∧ ∀ K y s, Mc M (.fr X) r K y s → Mc M (.fr L) ts K y s
  | .brk L, ts, none, r => ∀ K, Mc M (.fr L) ts K none r
  | .atom, ts, some L, r => ∀ K y s, Mc M (.fr L) r K y s → Mc M .to ts K y s
  | .atom, ts, none, r => ¬ isVb ts → ∀ K, Mc M .to ts K none r
  | .cl c, ts, some L, r => ∀ b K y s, b.u = some c → Mc M (.mk b L) r K y s → Mc M .to ts (b :: K) y s
  | .cl c, ts, none, r => ∀ b K, b.u = some c → Mc M .to ts (b :: K) none r
theorem isK_drop {ts : List Pk} : ∀ {k : Nat}, k < (nmL ts).length → isK 1 (ts.drop k) := by
  induction ts with
  | nil => intro k h; simp [nmL] at h
  | cons q r ih =>
    intro k h
    unfold nmL at h
    split at h
    · rename_i hq
      cases k with
      | zero => exact hq
      | succ k => exact ih (by simp only [List.length_cons] at h; omega)
    · simp at h
theorem Rd'.sim {R : Rl} {ts r : List Pk} {x : Option (List Tn)} (h : Rd' M R ts x r) : Sim M R ts x r := by
  induction h with
  | @e_verb ts r x h h1 i =>
    cases x with
    | none => exact fun K => .t_verb h (i (.inl rfl) [] K)
    | some X => exact fun K y s g => .t_verb h (i (.inl rfl) [] rfl K y s g)
  | e_bad h h1 i => exact fun K => i h K
  | @e_term ts r r' L x h h1 h2 i j =>
    cases x with
    | none => exact fun K => i.2 K _ _ (j K)
    | some X => exact fun K y s g => i.2 K y s (j i.1 K y s g)
  | a_end h => exact fun h2 K y s g => .f_done h2 h g
  | @a_op ts r L x h h1 i =>
    cases x with
    | none => exact fun K => .f_verb h (i (.inr rfl) [L] K)
    | some X => exact fun _ K y s g => .f_verb h (i (.inr rfl) [L] (by simp) K y s g)
  | o_bad h1 i => exact fun hk ls K => i hk ls K
  | @o_is k ts r r' L V x h1 h2 i j =>
    cases x with
    | none =>
      intro hk ls K
      obtain ⟨n, bs, rfl, i2⟩ := i hk
      exact i2 ls K _ _ (j _)
    | some X =>
      intro hk ls hl K y s g
      obtain ⟨n, bs, rfl, i2⟩ := i hk
      refine i2 ls K y s (j _ y s (.e_pop rfl ?_))
      have e : Bg.put ⟨n, bs ++ ls, none⟩ X = (n :: bs.flatten) ++ L ++ X := by
        unfold Bg.put
        simp [hl]
      rw [e]
      exact g
  | @v_one k q r r' x h h1 i =>
    cases x with
    | none => exact fun _ ls K => .v_one h (i ls K)
    | some X =>
      obtain ⟨n, rfl, i⟩ := i
      exact fun _ => ⟨n, [], by simp, fun ls K y s g => .v_one h (i ls K y s g)⟩
  | v_bad h ht h1 i => exact fun _ ls K => .v_body h ht (i _ _ rfl)
  | @v_body k q r r' r2 B x h ht h1 h2 i j =>
    cases x with
    | none =>
      exact fun hk ls K => .v_body h ht (i _ _ _ _ rfl (.k_verb hk (j _ K)))
    | some X =>
      obtain ⟨n, rfl, j⟩ := j
      exact fun hk => ⟨n, [B], by simp, fun ls K y s g => .v_body h ht (i _ _ _ _ rfl (.k_verb hk (j _ K y s g)))⟩
  | @d_none k v B ts h => exact ⟨_, rfl, fun ls K y s g => .d_no (fun q l e hq => by rw [e] at h; exact absurd hq h) g⟩
  | d_is h ht hc => exact ⟨_, rfl, fun ls K y s g => .d_is h ht hc g⟩
  | @d_bad k v B q r h ht =>
    refine fun ls K => .d_no (fun q' l e hq => by injection e with e1 e2; rw [← e1]; exact ht) (.t_bad ?_ ?_ ?_ ?_)
    · intro g; have g : q.k = 1 := g; omega
    · intro g; have g : q.k = 2 := g; omega
    · intro g; have g := g.1; omega
    · intro g; rcases (show q.k = 3 ∨ q.k = 4 ∨ (q.k = 6 ∧ q.t = [123]) from g) with g | g | g <;> omega
  | t_bad h1 i => exact i
  | @t_is ts r r' L x h1 h2 i j =>
    cases x with
    | none => exact fun _ K => i K _ _ (j K)
    | some X => exact ⟨j.1, fun K y s g => i K y s (j.2 K y s g)⟩
  | b_end h => exact ⟨h, fun K y s g => g⟩
  | b_bad h ht h1 i => exact fun K => .f_brk h ht (i _ _ rfl)
  | @b_is q r r' r2 L I x h ht h1 h2 i j =>
    have e : Bg.put ⟨nv 8 [] [] [], [L], some 93⟩ I = ⟨8, [], [], [], []⟩ :: (L ++ I) := by
      unfold Bg.put nv
      simp
    cases x with
    | none => exact fun K => .f_brk h ht (i _ _ _ _ rfl (.k_index rfl (by rw [e]; exact j K)))
    | some X => exact ⟨j.1, fun K y s g => .f_brk h ht (i _ _ _ _ rfl (.k_index rfl (by rw [e]; exact j.2 K y s g)))⟩
  | m_word h => exact fun K y s g => .t_word h g
  | @m_par q r r' x h ht h1 i =>
    cases x with
    | none => exact fun _ K => .t_par h ht (i _ _ rfl)
    | some X => exact fun K y s g => .t_par h ht (i _ _ _ _ rfl (.k_par rfl g))
  | m_bad h2 h6 h1 => exact fun hv K => .t_bad h1 h2 h6 hv
  | @m_many ts h =>
    intro hv K
    have e : ((nmL ts).take 100).length = 100 := by rw [List.length_take]; omega
    have h1 : isK 1 ts := isK_drop (k := 0) (by omega)
    refine .t_num h1 ?_
    rw [e]
    have h2 := isK_drop h
    cases hd : ts.drop 100 with
    | nil => rw [hd] at h2; exact h2.elim
    | cons q l =>
      rw [hd] at h2
      have h2 : q.k = 1 := h2
      refine .f_done (fun g => ?_) (fun g => ?_) (mc_stop (by omega) K)
      · have := g.1; omega
      · rcases (show q.k = 3 ∨ q.k = 4 ∨ (q.k = 6 ∧ q.t = [123]) from g) with g | g | g <;> omega
  | @m_nums ts h h1 =>
    intro K y s g
    have e : (nmL ts).take 100 = nmL ts := List.take_of_length_le h1
    refine .t_num (isK_drop (k := 0) h) ?_
    rw [e]
    exact g
  | c_bad h1 i => exact fun b K hb => i (b :: K)
  | c_not h1 h i => exact fun b K hb => i (b :: K) _ _ (.e_not hb h)
  | c_is h1 h ht i => exact fun b K y s hb g => i (b :: K) y s (.e_mark hb h ht g)
/-- How the machine begins. -/
inductive Hd (M : List UInt8 → List UInt8) : List Pk → Option (List Tn) → List Pk → Prop
  | assign {q w : Pk} {l r : List Pk} {x : Option (List Tn)} (h : q.k = 2) (h2 : w.k = 6) (ht : w.t = [58]) (h1 : Mc M .to l [⟨nv 5 [] [] q.t, [], none⟩] x r) : Hd M (q :: w :: l) x r
  | amend {q w : Pk} {l r : List Pk} {x : Option (List Tn)} (h : q.k = 2) (h2 : w.k = 6) (ht : w.t = [91]) (h1 : Mc M .to l [⟨nv 6 [] [] q.t, [], some 93⟩] x r) : Hd M (q :: w :: l) x r
  | defbad {q w : Pk} {l : List Pk} (h : q.k = 3) (h2 : w.k = 6) (ht : w.t = [58]) (h1 : ¬ isMk 123 l) : Hd M (q :: w :: l) none l
  | define {q w b : Pk} {l r : List Pk} {x : Option (List Tn)} (h : q.k = 3) (h2 : w.k = 6) (ht : w.t = [58]) (h3 : b.k = 6) (hb : b.t = [123]) (h1 : Mc M .to l [⟨nv 7 [] [] q.t, [], some 125⟩] x r) : Hd M (q :: w :: b :: l) x r
  | plain {ts r : List Pk} {x : Option (List Tn)} (h1 : ¬ (isK 2 ts ∧ (isMk 58 ts.tail ∨ isMk 91 ts.tail))) (h2 : ¬ (isK 3 ts ∧ isMk 58 ts.tail)) (h : Mc M .to ts [] x r) : Hd M ts x r
/-- What is told of a line: the tree, if nothing is left. -/
def told (x : Option (List Tn)) (r : List Pk) : Option (List Tn) := match r with | [] => x | _ :: _ => none
theorem told_none (r : List Pk) : told none r = none := by cases r <;> rfl
theorem told_end (X : List Tn) (r : List Pk) : Mc M (.dn X) r [] (told (some X) r) r := by
  cases r with
  | nil => exact .e_end
  | cons q r => exact .e_more (by simp)
theorem told_def {b : Bg} (X : List Tn) (r : List Pk) (hb : b.n.k = 7) : Mc M (.mk b X) r [] (told (some (b.put X)) r) r := by
  cases r with
  | nil => exact .k_def hb
  | cons q r => exact .k_more hb (.inl (by simp))
theorem put_one (n : Tn) (u : Option UInt8) (X : List Tn) : Bg.put ⟨n, [], u⟩ X = n :: X := by unfold Bg.put; simp
/-- The machine tells of a line what the grammar tells. -/
theorem Ln.run {ts r : List Pk} {x : Option (List Tn)} (h : Ln M ts x r) : Hd M ts (told x r) r := by
  cases h with
  | @assign q w l r x h h2 ht h1 =>
    refine .assign h h2 ht ?_
    cases x with
    | none => rw [Option.map_none, told_none]; exact h1.sim _
    | some X =>
      refine h1.sim _ _ _ (.e_pop rfl ?_)
      rw [put_one]
      exact told_end _ _
  | defbad h h2 ht h1 => rw [told_none]; exact .defbad h h2 ht h1
  | @define q w b l r x h h2 ht h3 hb h1 =>
    refine .define h h2 ht h3 hb ?_
    cases x with
    | none => rw [Option.map_none, told_none]; exact h1.sim _ _ rfl
    | some X =>
      refine h1.sim _ _ _ _ rfl ?_
      have := told_def (M := M) (b := ⟨nv 7 [] [] q.t, [], some 125⟩) X r rfl
      rw [put_one] at this
      exact this
  | idxbad h h2 ht h1 => rw [told_none]; exact .amend h h2 ht (h1.sim _ _ rfl)
  | @amend q w d l r1 r I x h h2 ht h1 h3 hd h4 =>
    refine .amend h h2 ht (h1.sim _ _ _ _ rfl (.k_amend rfl h3 hd ?_))
    cases x with
    | none => rw [Option.map_none, told_none]; exact h4.sim _
    | some X =>
      refine h4.sim _ _ _ (.e_pop rfl ?_)
      have e : Bg.put ⟨nv 6 [] [] q.t, [I], none⟩ X = ⟨6, [], [], q.t, []⟩ :: (I ++ X) := by
        unfold Bg.put nv
        simp
      rw [e]
      exact told_end _ _
  | ixbad h h2 ht h1 h3 h4 =>
    rw [told_none]
    exact .amend h h2 ht (h1.sim _ _ _ _ rfl (.k_name rfl h3 (h4.sim _)))
  | @index q w l r1 r2 r I L x h h2 ht h1 h3 h4 h5 =>
    refine .amend h h2 ht (h1.sim _ _ _ _ rfl (.k_name rfl h3 (h4.sim.2 _ _ _ ?_)))
    cases x with
    | none => rw [told_none]; exact h5.sim _
    | some X => exact h5.sim h4.sim.1 _ _ _ (told_end _ _)
  | @plain ts r x h1 h2 h =>
    refine .plain h1 h2 ?_
    cases x with
    | none => rw [told_none]; exact h.sim _
    | some X => exact h.sim _ _ _ (told_end _ _)
end Go.Proofs.YtljkmdmbndjngaaGreat
/-
  The machine's invariants, plainly: what is begun, how deep the trees are that are there, how many nodes. (Imports nothing of the program.)
-/
namespace Go.Proofs.YtljkmdmbndjngaaGreat
set_option linter.unusedVariables false
set_option linter.unusedSimpArgs false

def Flat (T : List Tn) : Prop := ∃ d, Dp T 1 d ∧ d ≤ 40
def Deep (T : List Tn) : Prop := ∃ d, Dp T 1 d ∧ 40 < d
theorem tr_or {T : List Tn} (h : Tr T) : Flat T ∨ Deep T := by
  obtain ⟨d, hd⟩ := h
  rcases Nat.lt_or_ge 40 d with h | h
  · exact .inr ⟨d, hd, h⟩
  · exact .inl ⟨d, hd, h⟩
theorem Flat.tr {T : List Tn} (h : Flat T) : Tr T := by obtain ⟨d, hd, _⟩ := h; exact ⟨d, hd⟩
theorem Deep.tr {T : List Tn} (h : Deep T) : Tr T := by obtain ⟨d, hd, _⟩ := h; exact ⟨d, hd⟩
theorem Deep.not {T : List Tn} (h : Deep T) : ¬ Flat T := by
  rintro ⟨e, he, h2⟩
  obtain ⟨d, hd, h1⟩ := h
  have := (hd.det he).2
  omega
/-- Trees one behind the other. -/
theorem dp_list : ∀ l : List (List Tn), (∀ t ∈ l, Tr t) → ∃ d, Dp l.flatten l.length d ∧ ∀ t ∈ l, ∀ e, Dp t 1 e → e ≤ d
  | [], _ => ⟨0, .nil, fun t h => by cases h⟩
  | t :: l, h => by
    obtain ⟨d1, h1⟩ := h t List.mem_cons_self
    obtain ⟨d2, h2, h3⟩ := dp_list l fun t ht => h t (List.mem_cons_of_mem _ ht)
    refine ⟨max d1 d2, ?_, fun u hu e he => ?_⟩
    · have := h1.app h2
      rw [Nat.add_comm] at this
      exact this
    · rcases List.mem_cons.1 hu with rfl | hu
      · have := (h1.det he).2
        omega
      · have := h3 u hu e he
        omega
theorem tree_put {n : Tn} {l : List (List Tn)} (h : ∀ t ∈ l, Tr t) (hn : kdT n = l.length) : Tr (n :: l.flatten) ∧ ∀ t ∈ l, Deep t → Deep (n :: l.flatten) := by
  obtain ⟨d, h1, h2⟩ := dp_list l h
  refine ⟨⟨_, .cons hn h1⟩, fun t ht => ?_⟩
  rintro ⟨e, he, h40⟩
  have := h2 t ht e he
  exact ⟨_, .cons hn h1, by omega⟩
/-- What is begun: how many trees are still missing. -/
def BgOk (b : Bg) : Prop :=
  (b.u = none ∧ 1 ≤ b.n.k ∧ b.n.k ≤ 8 ∧ kdT b.n = (b.ks.length : Int) + 1) ∨ (∃ c, b.u = some c ∧ (c = 41 ∨ c = 93 ∨ c = 125)) ∧
    ((b.n.k = 0 ∧ b.ks = []) ∨ (b.n.k = 7 ∧ b.ks = []) ∨ (b.n.k = 8 ∧ b.ks.length = 1) ∨ (b.n.k = 6 ∧ b.ks = []) ∨ ((b.n.k = 3 ∨ b.n.k = 4) ∧ b.n.v = [123] ∧ b.n.a = [] ∧ b.n.x = [] ∧ kdT b.n = (b.ks.length : Int) + 2))
def trs (K : List Bg) : List (List Tn) := K.flatMap Bg.ks
def wl (l : List (List Tn)) : Nat := (l.map List.length).sum
def wB (b : Bg) : Nat := (if b.n.k = 6 then 2 else 1) + wl b.ks
def wK (K : List Bg) : Nat := (K.map wB).sum
theorem wl_flat : ∀ l : List (List Tn), l.flatten.length = wl l
  | [] => rfl
  | t :: l => by
    rw [List.flatten_cons, List.length_append, wl_flat l]
    unfold wl
    simp
theorem wl_cons (t : List Tn) (l : List (List Tn)) : wl (t :: l) = t.length + wl l := by unfold wl; simp
theorem wl_app (l m : List (List Tn)) : wl (l ++ m) = wl l + wl m := by unfold wl; simp
/-- The invariant: trees that are there besides the stack's, how many parts are left. -/
structure Iv (dp : Bool) (N : Nat) (K : List Bg) (l : List (List Tn)) (m : Nat) : Prop where
  tr : ∀ t ∈ l ++ trs K, Tr t ∧ ∀ x ∈ t, x.ns.length ≤ 100
  fl : dp = false → ∀ t ∈ l ++ trs K, Flat t
  de : dp = true → ∃ t ∈ l ++ trs K, Deep t
  ok : ∀ b ∈ K, BgOk b
  wt : wK K + wl l + m ≤ N
variable {dp : Bool} {N m m' : Nat} {K : List Bg} {l : List (List Tn)}
theorem trs_cons (b : Bg) (K : List Bg) : trs (b :: K) = b.ks ++ trs K := by unfold trs; simp
theorem wK_cons (b : Bg) (K : List Bg) : wK (b :: K) = wB b + wK K := by unfold wK; simp
theorem Iv.less (h : Iv dp N K l m) (hm : m' ≤ m) : Iv dp N K l m' := { h with wt := Nat.le_trans (by omega) h.wt }
/-- Something is begun with the trees that are there. -/
theorem Iv.push (h : Iv dp N K l m) {b : Bg} (hk : b.ks = l) (hb : BgOk b) (hm : wB b + m' ≤ wl l + m) : Iv dp N (b :: K) [] m' := by
  refine ⟨?_, ?_, ?_, ?_, ?_⟩
  · rw [List.nil_append, trs_cons, hk]; exact h.tr
  · rw [List.nil_append, trs_cons, hk]; exact h.fl
  · rw [List.nil_append, trs_cons, hk]; exact h.de
  · intro c hc
    rcases List.mem_cons.1 hc with rfl | hc
    · exact hb
    · exact h.ok c hc
  · have := h.wt
    rw [wK_cons, show wl [] = 0 from rfl]
    omega
/-- A node without trees below it. -/
theorem Iv.leaf (h : Iv dp N K [] m) {n : Tn} (hk : n.k = 1 ∨ n.k = 2) (hn : n.ns.length ≤ 100) (hm : m' + 1 ≤ m) : Iv dp N K [[n]] m' := by
  have ht : Dp [n] 1 1 := .cons (k := 0) (by unfold kdT; rw [if_pos hk]; rfl) .nil
  refine ⟨?_, ?_, ?_, h.ok, ?_⟩
  · intro t hh
    rcases List.mem_cons.1 hh with rfl | hh
    · exact ⟨⟨1, ht⟩, fun x hx => by rcases List.mem_singleton.1 hx with rfl; exact hn⟩
    · exact h.tr t hh
  · intro hd t hh
    rcases List.mem_cons.1 hh with rfl | hh
    · exact ⟨1, ht, by omega⟩
    · exact h.fl hd t hh
  · intro hd
    obtain ⟨t, h1, h2⟩ := h.de hd
    exact ⟨t, List.mem_cons_of_mem _ h1, h2⟩
  · have := h.wt
    rw [wl_cons]
    simp only [List.length_singleton]
    rw [show wl [] = 0 from rfl] at *
    omega
/-- Trees are put below a node: D says whether it is too deep then. -/
theorem Iv.put {dp' : Bool} (h : Iv dp N K l m) {n : Tn} (hk : kdT n = l.length) (hn : n.ns.length ≤ 100) (hd : dp = true → dp' = true) (hd2 : dp = false → (dp' = true ↔ Deep (n :: l.flatten))) (hm : m' + 1 ≤ m) : Iv dp' N K [n :: l.flatten] m' := by
  obtain ⟨h1, h2⟩ := tree_put (fun t ht => (h.tr t (List.mem_append_left _ ht)).1) hk
  refine ⟨?_, ?_, ?_, h.ok, ?_⟩
  · intro t hh
    rcases List.mem_cons.1 hh with rfl | hh
    · refine ⟨h1, fun x hx => ?_⟩
      rcases List.mem_cons.1 hx with rfl | hx
      · exact hn
      · obtain ⟨t, ht, hx⟩ := List.mem_flatten.1 hx
        exact (h.tr t (List.mem_append_left _ ht)).2 x hx
    · exact h.tr t (List.mem_append_right _ hh)
  · intro hd'
    have hdf : dp = false := by cases dp with | false => rfl | true => rw [hd rfl] at hd'; cases hd'
    intro t hh
    rcases List.mem_cons.1 hh with rfl | hh
    · rcases tr_or h1 with h | h
      · exact h
      · rw [(hd2 hdf).2 h] at hd'; cases hd'
    · exact h.fl hdf t (List.mem_append_right _ hh)
  · intro hd'
    cases dp with
    | false => exact ⟨_, List.mem_cons_self, (hd2 rfl).1 hd'⟩
    | true =>
      obtain ⟨t, ht, hde⟩ := h.de rfl
      rcases List.mem_append.1 ht with ht | ht
      · exact ⟨_, List.mem_cons_self, h2 t ht hde⟩
      · exact ⟨t, List.mem_cons_of_mem _ ht, hde⟩
  · have := h.wt
    rw [wl_cons, show wl [] = 0 from rfl, List.length_cons, wl_flat]
    omega
/-- What was begun last is taken away: its trees, and the last one, are there. -/
theorem Iv.pop {b : Bg} {T : List Tn} (h : Iv dp N (b :: K) [T] m) : Iv dp N K (b.ks ++ [T]) (m + 1) ∧ BgOk b := by
  have perm : ∀ t, t ∈ (b.ks ++ [T]) ++ trs K ↔ t ∈ [T] ++ trs (b :: K) := by
    intro t
    rw [trs_cons]
    simp only [List.mem_append, List.mem_singleton]
    constructor
    · rintro ((h | h) | h)
      · exact .inr (.inl h)
      · exact .inl h
      · exact .inr (.inr h)
    · rintro (h | h | h)
      · exact .inl (.inr h)
      · exact .inl (.inl h)
      · exact .inr h
  refine ⟨⟨fun t ht => h.tr t ((perm t).1 ht), fun hd t ht => h.fl hd t ((perm t).1 ht), fun hd => ?_, fun c hc => h.ok c (List.mem_cons_of_mem _ hc), ?_⟩, h.ok b List.mem_cons_self⟩
  · obtain ⟨t, ht, hde⟩ := h.de hd
    exact ⟨t, (perm t).2 ht, hde⟩
  · have := h.wt
    rw [wK_cons] at this
    rw [wl_app]
    unfold wB at this
    have : 1 ≤ if b.n.k = 6 then 2 else 1 := by split <;> omega
    omega
/-- The same, its own node not counted: an Amend's counts two. -/
theorem Iv.pop6 {b : Bg} {T : List Tn} (h : Iv dp N (b :: K) [T] m) (hb : b.n.k = 6) : Iv dp N K (b.ks ++ [T]) (m + 2) := by
  have := h.pop.1
  refine { this with wt := ?_ }
  have := h.wt
  rw [wK_cons] at this
  rw [wl_app]
  unfold wB at this
  rw [if_pos hb] at this
  omega
theorem Iv.size {T : List Tn} (h : Iv dp N K [T] m) : T.length ≤ N := by
  have := h.wt
  rw [wl_cons] at this
  omega
theorem Iv.kids {l1 : List (List Tn)} (h : Iv dp N K (l1) m) : wl l1 ≤ N := by have := h.wt; omega
theorem Iv.start (N : Nat) : Iv false N [] [] N := ⟨(fun t h => by cases h), (fun _ t h => by cases h), (fun h => by cases h), (fun b h => by cases h), by unfold wK wl; simp⟩
/-- At the end it is the tree alone that tells. -/
theorem Iv.last {T : List Tn} (h : Iv dp N [] [T] m) : ∃ d, Dp T 1 d ∧ (dp = true ↔ 40 < d) := by
  obtain ⟨d, hd⟩ := (h.tr T (by simp)).1
  refine ⟨d, hd, fun e => ?_, fun h40 => ?_⟩
  · obtain ⟨t, ht, e, he, h1⟩ := h.de e
    have ht : t = T := by simpa [trs] using ht
    subst ht
    have := (hd.det he).2
    omega
  · cases dp with
    | true => rfl
    | false => exact absurd (h.fl rfl T (by simp)) (Deep.not ⟨d, hd, h40⟩)
end Go.Proofs.YtljkmdmbndjngaaGreat
/-
  The reference's node: a head, and those below it.
-/
namespace Go.Proofs.YtljkmdmbndjngaaGreat
set_option linter.unusedVariables false
set_option linter.unusedSimpArgs false
open Go.RowKit

theorem tnF_ap (F : Nat → Nd) (m : Nat) (f : Nat → Nd) (k : Nat) : tnF (ap F m f) (m + k) = tnF F m ++ tnF f k := by
  unfold tnF
  rw [List.range_add, List.map_append, List.map_map]
  congr 1
  · exact List.map_congr_left fun j hj => by have := List.mem_range.1 hj; unfold ap; rw [if_pos this]
  · exact List.map_congr_left fun j _ => by show tnOf (ap F m f (m + j)) = _; unfold ap; rw [if_neg (by omega), Nat.add_sub_cancel_left]
/-- A node, and behind it trees, plainly. -/
theorem tnF_nF (d : Nd) (k : Nat → Kd) : ∀ i, tnF (nF d k i) (nM k i) = tnOf d :: ((List.range i).map fun j => tnF (k j).f (k j).n).flatten
  | 0 => rfl
  | i + 1 => by
    show tnF (ap (nF d k i) (nM k i) (k i).f) (nM k i + (k i).n) = _
    rw [tnF_ap, tnF_nF d k i, List.range_succ, List.map_append, List.flatten_append]
    simp
theorem tnF_same {f g : Nat → Nd} {n : Nat} (h : ∀ j, j < n → smN (f j) (g j) = true) : tnF f n = tnF g n := List.map_congr_left fun j hj => smN_tn.1 (h j (List.mem_range.1 hj))
/-- Nodes, and their numbers, lie in blocks from a base on. -/
def Nb (B : Nat) (a : Option Addr) (n : Nat) (f : Nat → Nd) : Prop := (0 < n → ∀ p, a = some p → B ≤ p.block) ∧ ∀ j, j < n → 0 < (f j).m → ∀ p, (f j).g = some p → B ≤ p.block
/-- A list of nodes in memory, as it is plainly, from a base on. -/
def Nl (B : Nat) (W : World) (a : Option Addr) (n c : Nat) (L : List Tn) : Prop := ∃ f, Nq W a n f ∧ n ≤ c ∧ c ≤ maxLen ∧ tnF f n = L ∧ Nb B a n f
section
variable {B B' : Nat} {W W' : World} {a : Option Addr} {n c : Nat} {L : List Tn}
theorem Nl.below (h : Nl B W a n c L) (hb : Below W.heap.size W W') : Nl B W' a n c L := by
  obtain ⟨f, h1, h2⟩ := h
  exact ⟨f, h1.below hb, h2⟩
theorem Nl.base (h : Nl B W a n c L) (hB : B' ≤ B) : Nl B' W a n c L := by
  obtain ⟨f, h1, h2, h3, h4, h5, h6⟩ := h
  exact ⟨f, h1, h2, h3, h4, fun hn p e => Nat.le_trans hB (h5 hn p e), fun j hj hm p e => Nat.le_trans hB (h6 j hj hm p e)⟩
theorem Nl.len (h : Nl B W a n c L) : L.length = n := by
  obtain ⟨f, _, _, _, e, _⟩ := h
  rw [← e, tnF_len]
/-- What lies ahead of the base may be filled. -/
theorem Nl.set (h : Nl B W a n c L) {p : Addr} (hp : p.block < B) (u : Value) : Nl B (W.setCell p u) a n c L := by
  obtain ⟨f, h1, h2, h3, h4, h5, h6⟩ := h
  have key : ∀ (q : Addr) x, B ≤ q.block → W.cell? q = some x → (W.setCell p u).cell? q = some x := fun q x hq hx => by
    rw [World.cell?_setCell_other _ _ _ _ (by rintro rfl; omega), hx]
  refine ⟨f, ⟨fun hn => ?_, fun j hj => { h1.on j hj with st := ⟨(h1.on j hj).st.1, fun hm => ?_⟩ }⟩, h2, h3, h4, h5, h6⟩
  · obtain ⟨b, off, e, hc⟩ := h1.ld hn
    have hb : B ≤ b := h5 hn _ e
    refine ⟨b, off, e, fun j hj => ?_⟩
    have hL := hc j hj
    exact ⟨key _ _ hb hL.c0, key _ _ hb hL.c1, key _ _ hb hL.c2, key _ _ hb hL.c3, key _ _ hb hL.c4⟩
  · obtain ⟨b, off, e, hc⟩ := (h1.on j hj).st.2 hm
    have hb : B ≤ b := h6 j hj hm _ e
    exact ⟨b, off, e, fun q hq => key _ _ hb (hc q hq)⟩
end
/-- What is in blocks that hold no texts doesn't matter. -/
theorem cell_but {W W' : World} {g b o : Nat} {x : Value} (hk : ∀ b, b ≠ g → W'.heap[b]? = W.heap[b]?) (h : W.cell? ⟨b, o, none⟩ = some x) (hb : b ≠ g) : W'.cell? ⟨b, o, none⟩ = some x := (World.cell?_of_block (a := ⟨b, o, none⟩) (hk b hb)).trans h
theorem Nq.but {W W' : World} {g : Nat} {a : Option Addr} {n : Nat} {f : Nat → Nd} (h : Nq W a n f) (hk : ∀ b, b ≠ g → W'.heap[b]? = W.heap[b]?) (hs : ∀ o s, W.cell? ⟨g, o, none⟩ ≠ some (.string s)) : Nq W' a n f := by
  refine ⟨fun hn => ?_, fun j hj => { h.on j hj with st := ⟨(h.on j hj).st.1, fun hn => ?_⟩ }⟩
  · obtain ⟨b, off, e, hc⟩ := h.ld hn
    refine ⟨b, off, e, fun j hj => ?_⟩
    have hL := hc j hj
    have hb : b ≠ g := fun e => hs _ _ (e ▸ hL.c1)
    exact ⟨cell_but hk hL.c0 hb, cell_but hk hL.c1 hb, cell_but hk hL.c2 hb, cell_but hk hL.c3 hb, cell_but hk hL.c4 hb⟩
  · obtain ⟨b, off, e, hc⟩ := (h.on j hj).st.2 hn
    exact ⟨b, off, e, fun q hq => cell_but hk (hc q hq) fun e => hs _ _ (e ▸ hc q hq)⟩
theorem Nl.but {B : Nat} {W W' : World} {g : Nat} {a : Option Addr} {n c : Nat} {L : List Tn} (h : Nl B W a n c L) (hk : ∀ b, b ≠ g → W'.heap[b]? = W.heap[b]?) (hs : ∀ o s, W.cell? ⟨g, o, none⟩ ≠ some (.string s)) : Nl B W' a n c L := by
  obtain ⟨f, h1, h2⟩ := h
  exact ⟨f, h1.but hk hs, h2⟩
theorem Bk.no {t : TypeId} {W : World} {g : Nat} {cs : List Value} (h : Bk t W g cs) (hc : cs.all (fun u => match u with | .string _ => false | _ => true) = true) : ∀ o s, W.cell? ⟨g, o, none⟩ ≠ some (.string s) := by
  intro o s e
  rw [h.c o] at e
  have := List.all_eq_true.1 hc _ (List.mem_of_getElem? e)
  cases this
theorem Nl.nil (B : Nat) (W : World) : Nl B W none 0 0 [] := ⟨fun _ => ⟨0, ⟨#[]⟩, ⟨#[]⟩, ⟨#[]⟩, none, 0, 0, []⟩, Nq.nil _ _ _, Nat.le_refl _, Nat.zero_le _, rfl, fun h => absurd h (by omega), fun j h => absurd h (by omega)⟩
def NlEnd (B : Nat) (L : List Tn) (W : World) (e : Ending) (W' : World) : Prop := ∃ a n c, e = .returned (.slice a n c) ∧ Nl B W' a n c L ∧ Below W.heap.size W W'
theorem nq_void {W : World} {a : Option Addr} {n : Nat} {f : Nat → Nd} (h : Nq W a n f) (ha : a = none) : n = 0 := by
  rcases Nat.eq_zero_or_pos n with h0 | h0
  · exact h0
  · obtain ⟨_, _, e, _⟩ := h.ld h0
    rw [ha] at e; cases e
set_option maxHeartbeats 3200000 in
theorem rnode_is (B : Nat) (d : Nd) (a1 a2 a3 : Option Addr) (n1 c1 n2 c2 n3 c3 : Nat) (L1 L2 L3 : List Tn) (W : World) (hB : B ≤ W.heap.size) (hdm : d.m = 0) (hd : d.on W) (h1 : Nl B W a1 n1 c1 L1) (h2 : Nl B W a2 n2 c2 L2) (h3 : Nl B W a3 n3 c3 L3) (z1 : n1 ≤ 100000) (z2 : n2 ≤ 100000) (z3 : n3 ≤ 100000) :
    Calls Tryz.prog 84 #[d.val, .slice a1 n1 c1, .slice a2 n2 c2, .slice a3 n3 c3] W (NlEnd B (tnOf d :: (L1 ++ L2 ++ L3)) W) := by
  obtain ⟨f1, q1, _, _, e1, b1⟩ := h1
  obtain ⟨f2, q2, _, _, e2, b2⟩ := h2
  obtain ⟨f3, q3, _, _, e3, b3⟩ := h3
  have HNB := Lib.hid (⟨b1, b2, b3, hB, hdm⟩ : Nb B a1 n1 f1 ∧ Nb B a2 n2 f2 ∧ Nb B a3 n3 f3 ∧ B ≤ W.heap.size ∧ d.m = 0)
  clear b1 b2 b3 hB hdm
  have HD := Lib.hid hd
  have HQ1 := Lib.hid q1
  have HQ2 := Lib.hid q2
  have HQ3 := Lib.hid q3
  have HE := Lib.hid (⟨e1, e2, e3⟩ : tnF f1 n1 = L1 ∧ tnF f2 n2 = L2 ∧ tnF f3 n3 = L3)
  have hbox := box_below W (.cells #[.int .i64 d.k, .string d.v, .string d.a, .string d.x, .slice d.g d.m d.c] 37)
  have s1 : (W.alloc (.cells #[.int .i64 d.k, .string d.v, .string d.a, .string d.x, .slice d.g d.m d.c] 37)).heap.size = W.heap.size + 1 := by simp
  have hA := (Bk.new 37 W d.cells).alloc (.cells #[] 37)
  have x0 : ((W.alloc (.cells d.cells.toArray 37)).alloc (.cells #[] 37)).cell? ⟨W.heap.size, 0, none⟩ = some (.int .i64 d.k) := hA.c 0
  have x1 : ((W.alloc (.cells d.cells.toArray 37)).alloc (.cells #[] 37)).cell? ⟨W.heap.size, 1, none⟩ = some (.string d.v) := hA.c 1
  have x2 : ((W.alloc (.cells d.cells.toArray 37)).alloc (.cells #[] 37)).cell? ⟨W.heap.size, 2, none⟩ = some (.string d.a) := hA.c 2
  have x3 : ((W.alloc (.cells d.cells.toArray 37)).alloc (.cells #[] 37)).cell? ⟨W.heap.size, 3, none⟩ = some (.string d.x) := hA.c 3
  have x4 : ((W.alloc (.cells d.cells.toArray 37)).alloc (.cells #[] 37)).cell? ⟨W.heap.size, 4, none⟩ = some (.slice d.g d.m d.c) := hA.c 4
  rw [show d.cells.toArray = #[.int .i64 d.k, .string d.v, .string d.a, .string d.x, .slice d.g d.m d.c] from rfl] at x0 x1 x2 x3 x4
  have HON := Lib.hid (fun w (hb : Below W.heap.size W w) => hd.below hb)
  clear hd q1 q2 q3 e1 e2 e3 hA
  show Calls _ _ #[.agg #[.int .i64 d.k, .string d.v, .string d.a, .string d.x, .slice d.g d.m d.c], .slice a1 n1 c1, .slice a2 n2 c2, .slice a3 n3 c3] W _
  obtain ⟨i0, hi0, hz0, hz1, hz2⟩ := info_parts infoN
  go_enter Tryz.func84, Tryz.ntmps84
  have hb0 := (hbox.alloc (by omega) (.cells #[] 37))
  have hrow : ((W.alloc (.cells #[.int .i64 d.k, .string d.v, .string d.a, .string d.x, .slice d.g d.m d.c] 37)).alloc (.cells #[] 37)).ownsRow W.heap.size 37 5 (.slice (some ⟨W.heap.size + 1, 0, none⟩) 0 0) 0 [] :=
    ⟨rfl, .inr ⟨W.heap.size + 1, 0, #[], rfl, by omega, by rw [← s1]; exact heap_alloc_new _ _, Nat.le_refl _, Nat.zero_le _, rfl, rfl⟩⟩
  have hs2 : ((W.alloc (.cells #[.int .i64 d.k, .string d.v, .string d.a, .string d.x, .slice d.g d.m d.c] 37)).alloc (.cells #[] 37)).heap.size = W.heap.size + 1 + 1 := by simp
  have HR := Lib.hid hrow
  have HB := Lib.hid hb0
  have HS := Lib.hid hs2
  clear hbox hrow hb0 hs2 s1
  go_wp2_with (at_builtin; refine wpList_append_own _ rfl (.tmp 10) (.tmp 12) 22 rfl W.heap.size 37 i0 (.agg #[.int .i64 0, .string ⟨#[]⟩, .string ⟨#[]⟩, .string ⟨#[]⟩, .slice none 0 0]) 5 80 Tryz.underlying22 hi0 hz0 hz1 hz2 rfl (by decide) _ _ _ rfl (HR.out.alloc _) ⟨W.heap.size + 1 + 1, 0, none⟩ 1 1 d.cells rfl rfl ?c1 ?c2 ?c3 ?c4 ?c5 ?_)
  case c1 =>
    intro j u hj
    rw [Go.WideShapes.add_plain, Nat.zero_add]
    have h9 := Bk.new' 37 ((W.alloc (.cells #[.int .i64 d.k, .string d.v, .string d.a, .string d.x, .slice d.g d.m d.c] 37)).alloc (.cells #[] 37)) HS.out.symm d.cells
    exact (h9.c j).trans hj
  case c2 =>
    intro u hu
    have hu : u ∈ [Value.int .i64 d.k, .string d.v, .string d.a, .string d.x, .slice d.g d.m d.c] := hu
    simp only [List.mem_cons, List.not_mem_nil, or_false] at hu
    rcases hu with rfl | rfl | rfl | rfl | rfl <;> rfl
  case c3 => unfold maxLen; omega
  case c4 => omega
  case c5 => simp; omega
  intro v1 w1 hown1 hg1 _
  have hb1 : Below W.heap.size W w1 := (HB.out.alloc HB.out.size _).grown hg1 (by simp; omega) (fun q hq => (HR.out.lt q hq).1)
  have q1 := HQ1.out.below hb1
  have ho1 : w1.ownsRow W.heap.size 37 5 v1 1 (nvs (fun _ => d) 1) := hown1
  have hsz1 := hb1.size
  clear hown1 hg1 HR HB HS x0 x1 x2 x3 x4
  go_wp2_with (at_builtin; refine wpList_append_all rfl (.tmp 14) (.tmp 15) 22 rfl W.heap.size 37 i0 (.agg #[.int .i64 0, .string ⟨#[]⟩, .string ⟨#[]⟩, .string ⟨#[]⟩, .slice none 0 0]) 5 80 Tryz.underlying22 hi0 hz0 hz1 hz2 rfl (by decide) _ _ _ rfl ho1 a1 n1 c1 (nvs f1 n1) rfl (nvs_len _ _) (nq_void q1) q1.cells (nvs_one _ _) ?c1 ?c2 hsz1 ?_)
  case c1 => unfold maxLen; omega
  case c2 => omega
  intro v2 w2 hown2 hg2
  have hb2 : Below W.heap.size W w2 := hb1.grown hg2 hsz1 (fun q hq => (ho1.lt q hq).1)
  have q2 := HQ2.out.below hb2
  rw [← nvs_ap] at hown2
  have hsz2 := hb2.size
  clear ho1 hg2 q1 hb1 hsz1
  go_wp2_with (at_builtin; refine wpList_append_all rfl (.tmp 17) (.tmp 18) 22 rfl W.heap.size 37 i0 (.agg #[.int .i64 0, .string ⟨#[]⟩, .string ⟨#[]⟩, .string ⟨#[]⟩, .slice none 0 0]) 5 80 Tryz.underlying22 hi0 hz0 hz1 hz2 rfl (by decide) _ _ _ rfl hown2 a2 n2 c2 (nvs f2 n2) rfl (nvs_len _ _) (nq_void q2) q2.cells (nvs_one _ _) ?c1 ?c2 hsz2 ?_)
  case c1 => unfold maxLen; omega
  case c2 => omega
  intro v3 w3 hown3 hg3
  have hb3 : Below W.heap.size W w3 := hb2.grown hg3 hsz2 (fun q hq => (hown2.lt q hq).1)
  have q3 := HQ3.out.below hb3
  rw [← nvs_ap] at hown3
  have hsz3 := hb3.size
  clear hown2 hg3 q2 hb2 hsz2
  go_wp2_with (at_builtin; refine wpList_append_all rfl (.tmp 20) (.tmp 21) 22 rfl W.heap.size 37 i0 (.agg #[.int .i64 0, .string ⟨#[]⟩, .string ⟨#[]⟩, .string ⟨#[]⟩, .slice none 0 0]) 5 80 Tryz.underlying22 hi0 hz0 hz1 hz2 rfl (by decide) _ _ _ rfl hown3 a3 n3 c3 (nvs f3 n3) rfl (nvs_len _ _) (nq_void q3) q3.cells (nvs_one _ _) ?c1 ?c2 hsz3 ?_)
  case c1 => unfold maxLen; omega
  case c2 => omega
  intro v4 w4 hown4 hg4
  have hb4 : Below W.heap.size W w4 := hb3.grown hg4 hsz3 (fun q hq => (hown3.lt q hq).1)
  rw [← nvs_ap] at hown4
  have hon : ∀ j, j < 1 + n1 + n2 + n3 → (ap (ap (ap (fun _ => d) 1 f1) (1 + n1) f2) (1 + n1 + n2) f3 j).on w4 := by
    intro j hj
    unfold ap
    by_cases j3 : j < 1 + n1 + n2
    · rw [if_pos j3]
      by_cases j2 : j < 1 + n1
      · rw [if_pos j2]
        by_cases j1 : j < 1
        · rw [if_pos j1]; exact HON.out _ hb4
        · rw [if_neg j1]; exact (HQ1.out.below hb4).on _ (by omega)
      · rw [if_neg j2]; exact (HQ2.out.below hb4).on _ (by omega)
    · rw [if_neg j3]; exact (HQ3.out.below hb4).on _ (by omega)
  have hlow := hown4.lt
  obtain ⟨a9, c9, rfl, hc1, hc2, hq9⟩ := own_nq hown4 hon
  have hnb : Nb B a9 (1 + n1 + n2 + n3) (ap (ap (ap (fun _ => d) 1 f1) (1 + n1) f2) (1 + n1 + n2) f3) := by
    obtain ⟨b1, b2, b3, hB, hdm⟩ := HNB.out
    refine ⟨fun _ p e => Nat.le_trans hB (hlow p.block (by rw [e]; rfl)).1, fun j hj => ?_⟩
    unfold ap
    by_cases j3 : j < 1 + n1 + n2
    · rw [if_pos j3]
      by_cases j2 : j < 1 + n1
      · rw [if_pos j2]
        by_cases j1 : j < 1
        · rw [if_pos j1, hdm]; exact fun h => absurd h (by omega)
        · rw [if_neg j1]; exact b1.2 _ (by omega)
      · rw [if_neg j2]; exact b2.2 _ (by omega)
    · rw [if_neg j3]; exact b3.2 _ (by omega)
  clear hlow
  have HFIN := Lib.hid (⟨_, hq9, hc1, hc2, by rw [tnF_ap, tnF_ap, tnF_ap, HE.out.1, HE.out.2.1, HE.out.2.2]; show (tnOf d :: []) ++ L1 ++ L2 ++ L3 = _; simp, hnb⟩ : Nl B w4 a9 (1 + n1 + n2 + n3) c9 (tnOf d :: (L1 ++ L2 ++ L3)))
  clear hown3 hown4 hg4 q3 hb3 hsz3 hon hq9
  go_wp2_with fail
  go_ret
  exact ⟨_, _, _, rfl, HFIN.out, hb4⟩
end Go.Proofs.YtljkmdmbndjngaaGreat
/-
  The parser in memory: its box, its stack, the trees that are there.
-/
namespace Go.Proofs.YtljkmdmbndjngaaGreat
set_option linter.unusedVariables false
set_option linter.unusedSimpArgs false
open Go.RowKit

/-- All blocks that there were are as they were, but for these. -/
structure Ex (S : List Nat) (W W' : World) : Prop where
  os : W'.os = W.os
  tape : W'.tape = W.tape
  output : W'.output = W.output
  size : W.heap.size ≤ W'.heap.size
  block : ∀ k, k < W.heap.size → k ∉ S → W'.heap[k]? = W.heap[k]?
section
variable {S S' : List Nat} {W w W' : World}
theorem Ex.refl (S : List Nat) (W : World) : Ex S W W := ⟨rfl, rfl, rfl, Nat.le_refl _, fun _ _ _ => rfl⟩
theorem Ex.trans (h : Ex S W w) (h2 : Ex S w W') : Ex S W W' := ⟨h2.os.trans h.os, h2.tape.trans h.tape, h2.output.trans h.output, Nat.le_trans h.size h2.size, fun k hk hs => (h2.block k (Nat.lt_of_lt_of_le hk h.size) hs).trans (h.block k hk hs)⟩
theorem Ex.mono (h : Ex S W W') (hs : ∀ k ∈ S, k ∈ S') : Ex S' W W' := { h with block := fun k hk hn => h.block k hk fun hm => hn (hs k hm) }
theorem Ex.of (S : List Nat) (h : Below W.heap.size W W') : Ex S W W' := ⟨h.os, h.tape, h.output, h.size, fun k hk _ => h.block k hk⟩
theorem Ex.below (h : Ex S W W') {B : Nat} (hB : B ≤ W.heap.size) (hs : ∀ k ∈ S, B ≤ k) : Below B W W' := ⟨h.os, h.tape, h.output, h.size, fun k hk => h.block k (by omega) fun hm => by have := hs k hm; omega⟩
theorem Ex.alloc (h : Ex S W W') (o : Obj) : Ex S W (W'.alloc o) := h.trans (.of _ ((Below.refl _ _).alloc (Nat.le_refl _) o))
theorem Ex.drew (h : Ex S W W') : Ex S W W'.drew := ⟨h.os, h.tape, h.output, h.size, h.block⟩
theorem Ex.drewN (h : Ex S W W') (n : Nat) : Ex S W (W'.drewN n) := ⟨h.os, h.tape, h.output, h.size, h.block⟩
theorem Ex.setCell (h : Ex S W W') {p : Addr} (hp : p.block ∈ S ∨ W.heap.size ≤ p.block) (u : Value) : Ex S W (W'.setCell p u) :=
  ⟨h.os, h.tape, h.output, by have := h.size; simpa [World.setCell] using this, fun k hk hs => (Below.heap_setCell _ _ _ _ (by rintro rfl; rcases hp with hp | hp; exact hs hp; omega)).trans (h.block k hk hs)⟩
theorem Ex.grown (h : Ex S W w) {row : Option Nat} (hg : w.grownBy W' row) (hr : ∀ k, row = some k → k ∈ S ∨ W.heap.size ≤ k) : Ex S W W' :=
  ⟨hg.os.trans h.os, hg.tape.trans h.tape, hg.output.trans h.output, Nat.le_trans h.size hg.size, fun k hk hs => (hg.block k (Nat.lt_of_lt_of_le hk h.size) fun e => by rcases hr k e.symm with h1 | h1; exact hs h1; omega).trans (h.block k hk hs)⟩
theorem Bk.ex {t : TypeId} {g : Nat} {cs : List Value} (h : Bk t W g cs) (hx : Ex S W W') (hg : g ∉ S) : Bk t W' g cs := (hx.block g h.lt hg).trans h
theorem own_ex {base e s n : Nat} {v : Value} {xs : List Value} (h : W.ownsRow base e s v n xs) (hx : Ex S W W') (hk : ∀ k, v.ownBlock = some k → k ∉ S) : W'.ownsRow base e s v n xs := by
  refine ⟨h.1, ?_⟩
  rcases h.2 with h1 | ⟨g, cap, cur, rfl, h1, h2, h3⟩
  · exact .inl h1
  · exact .inr ⟨g, cap, cur, rfl, h1, (hx.block g (Array.getElem?_eq_some_iff.1 h2).1 (hk g rfl)).trans h2, h3⟩
/-- These blocks hold no nodes, no texts, no parts. -/
def Off (S : List Nat) (W : World) : Prop := ∀ s ∈ S, ∀ cur fr t, W.heap[s]? = some (.cells cur t fr) → t ≠ 37 ∧ t ≠ 9 ∧ t ≠ 80
theorem Off.none (W : World) : Off [] W := fun s h => by cases h
theorem Off.app (h : Off S W) (h2 : Off S' W) : Off (S ++ S') W := fun s hs => (List.mem_append.1 hs).elim (h s) (h2 s)
theorem Off.one {g : Nat} {cs : Array Value} {t : TypeId} {fr : Nat × Nat} (h : W.heap[g]? = some (.cells cs t fr)) (h1 : t ≠ 37) (h2 : t ≠ 9) (h3 : t ≠ 80) : Off [g] W := by
  intro s hs cur fr' t' e
  rcases List.mem_singleton.1 hs with rfl
  rw [h] at e
  cases e
  exact ⟨h1, h2, h3⟩
theorem Off.row {base e s n : Nat} {v : Value} {xs : List Value} (h : W.ownsRow base e s v n xs) (h1 : e ≠ 37) (h2 : e ≠ 9) (h3 : e ≠ 80) : Off v.ownBlock.toList W := by
  rcases h.2 with ⟨rfl, _⟩ | ⟨g, cap, cur, rfl, _, hg, _⟩
  · exact Off.none W
  · exact Off.one hg h1 h2 h3
end
/-- A tree that is there: from a base on, its nodes in a row of nodes, their numbers in rows of texts. -/
structure Nt (B : Nat) (W : World) (k : Kd) (T : List Tn) : Prop where
  nq : Nq W k.a k.n k.f
  nc : k.n ≤ k.c
  cm : k.c ≤ maxLen
  tn : tnF k.f k.n = T
  ty : 0 < k.n → ∃ b off cur fr, k.a = some ⟨b, off, none⟩ ∧ W.heap[b]? = some (Obj.cells cur 37 fr)
  sb : ∀ j, j < k.n → Sb W (k.f j)
theorem Nt.ex {B : Nat} {W W' : World} {S : List Nat} {k : Kd} {T : List Tn} (h : Nt B W k T) (hx : Ex S W W') (ho : Off S W) : Nt B W' k T := by
  have nodes : ∀ b cur fr, W.heap[b]? = some (Obj.cells cur 37 fr) → W'.heap[b]? = W.heap[b]? := fun b cur fr hb => hx.block b (Array.getElem?_eq_some_iff.1 hb).1 fun hm => (ho b hm _ _ _ hb).1 rfl
  have texts : ∀ b cur fr, W.heap[b]? = some (Obj.cells cur 9 fr) → W'.heap[b]? = W.heap[b]? := fun b cur fr hb => hx.block b (Array.getElem?_eq_some_iff.1 hb).1 fun hm => (ho b hm _ _ _ hb).2.1 rfl
  refine ⟨⟨fun hn => ?_, fun j hj => { h.nq.on j hj with st := ⟨(h.nq.on j hj).st.1, fun hm => ?_⟩ }⟩, h.nc, h.cm, h.tn, fun hn => ?_, fun j hj => ?_⟩
  · obtain ⟨b, off, e, hc⟩ := h.nq.ld hn
    obtain ⟨b', off', cur, fr, e', hb⟩ := h.ty hn
    rw [e] at e'
    cases e'
    have hk := nodes b cur fr hb
    refine ⟨b, off, e, fun j hj => ?_⟩
    have g : ∀ o x, W.cell? ⟨b, o, none⟩ = some x → W'.cell? ⟨b, o, none⟩ = some x := fun o x hx => (World.cell?_of_block (a := ⟨b, o, none⟩) hk).trans hx
    have hL := hc j hj
    exact ⟨g _ _ hL.c0, g _ _ hL.c1, g _ _ hL.c2, g _ _ hL.c3, g _ _ hL.c4⟩
  · obtain ⟨b, off, e, hc⟩ := (h.nq.on j hj).st.2 hm
    rcases h.sb j hj with h0 | ⟨b', off', cur, fr, e', hb⟩
    · omega
    · rw [e] at e'
      cases e'
      exact ⟨b, off, e, fun q hq => (World.cell?_of_block (a := ⟨b, off + q, none⟩) (texts b cur fr hb)).trans (hc q hq)⟩
  · obtain ⟨b, off, cur, fr, e, hb⟩ := h.ty hn
    exact ⟨b, off, cur, fr, e, (nodes b cur fr hb).trans hb⟩
  · rcases h.sb j hj with h0 | ⟨b, off, cur, fr, e, hb⟩
    · exact .inl h0
    · exact .inr ⟨b, off, cur, fr, e, (texts b cur fr hb).trans hb⟩
theorem Nt.len {B : Nat} {W : World} {k : Kd} {T : List Tn} (h : Nt B W k T) : T.length = k.n := by rw [← h.tn, tnF_len]
/-- What is begun, in memory: a node, a row of slices of nodes, the mark; the row lies from a place on. -/
structure Mb where
  d : Nd
  ka : Option Addr
  kn : Nat
  kc : Nat
  kd : Nat → Kd
  u : ByteArray
  lo : Nat
def Mb.cells (b : Mb) : List Value := b.d.cells ++ [.slice b.ka b.kn b.kc, .string b.u]
def Mb.val (b : Mb) : Value := .agg #[.int .i64 b.d.k, .string b.d.v, .string b.d.a, .string b.d.x, .slice b.d.g b.d.m b.d.c, .slice b.ka b.kn b.kc, .string b.u]
/-- The cells of a stack, the top first. -/
def obs : List Mb → List Value
  | [] => []
  | b :: l => obs l ++ b.cells
theorem obs_len : ∀ l, (obs l).length = l.length * 7
  | [] => rfl
  | b :: l => by
    show (obs l ++ _).length = _
    rw [List.length_append, obs_len l]
    simp [Mb.cells, Nd.cells]
    omega
def kvs (k : Nat → Kd) : Nat → List Value
  | 0 => []
  | n + 1 => kvs k n ++ [.slice (k n).a (k n).n (k n).c]
theorem kvs_len (k : Nat → Kd) : ∀ n, (kvs k n).length = n
  | 0 => rfl
  | n + 1 => by show (kvs k n ++ _).length = _; rw [List.length_append, kvs_len k n]; rfl
theorem kvs_get (k : Nat → Kd) : ∀ n i, i < n → (kvs k n)[i]? = some (.slice (k i).a (k i).n (k i).c)
  | 0, i, h => by omega
  | n + 1, i, h => by
    show (kvs k n ++ _)[i]? = _
    have hl := kvs_len k n
    by_cases hi : i < n
    · rw [List.getElem?_append_left (by omega)]; exact kvs_get k n i hi
    · obtain rfl : i = n := by omega
      rw [List.getElem?_append_right (by omega), hl, Nat.sub_self]; rfl
theorem kvs_same {k k' : Nat → Kd} : ∀ n, (∀ i, i < n → k i = k' i) → kvs k n = kvs k' n
  | 0, _ => rfl
  | n + 1, h => by
    show kvs k n ++ _ = kvs k' n ++ _
    rw [kvs_same n fun i hi => h i (by omega), h n (by omega)]
/-- What is begun is, in memory, what it is plainly. -/
structure SOk (B : Nat) (W : World) (dp : Bool) (b : Mb) (p : Bg) : Prop where
  node : tnOf b.d = p.n
  dm : b.d.m = 0
  on : b.d.on W
  u : b.u.data.toList = p.u.toList
  kn : b.kn = p.ks.length
  row : W.ownsRow b.lo 22 1 (.slice b.ka b.kn b.kc) b.kn (kvs b.kd b.kn)
  lo : B ≤ b.lo
  nt : dp = false → ∀ i (h : i < p.ks.length), Nt B W (b.kd i) p.ks[i]
theorem on_any {d : Nd} {W W' : World} (h : d.on W) (h0 : d.m = 0) : d.on W' := { h with st := ⟨h.st.1, fun hm => by omega⟩ }
theorem SOk.ex {B : Nat} {W W' : World} {S : List Nat} {dp : Bool} {b : Mb} {p : Bg} (h : SOk B W dp b p) (hx : Ex S W W') (ho : Off S W) (hk : ∀ k, (Value.slice b.ka b.kn b.kc).ownBlock = some k → k ∉ S) : SOk B W' dp b p :=
  ⟨h.node, h.dm, on_any h.on h.dm, h.u, h.kn, own_ex h.row hx hk, h.lo, fun hd i hi => (h.nt hd i hi).ex hx ho⟩
/-- A stack in memory, the top first: each row of slices lies behind all that are below it. -/
def SR (B : Nat) (W : World) (dp : Bool) : List Mb → List Bg → Prop
  | [], [] => True
  | b :: l, p :: K => SOk B W dp b p ∧ (∀ c ∈ l, ∀ k, (Value.slice c.ka c.kn c.kc).ownBlock = some k → k < b.lo) ∧ SR B W dp l K
  | _, _ => False
theorem SR.ex {B : Nat} {W W' : World} {S : List Nat} {dp : Bool} (hx : Ex S W W') (ho : Off S W) : ∀ {l : List Mb} {K : List Bg}, SR B W dp l K → (∀ c ∈ l, ∀ k, (Value.slice c.ka c.kn c.kc).ownBlock = some k → k ∉ S) → SR B W' dp l K
  | [], [], _, _ => trivial
  | b :: l, p :: K, h, hk => ⟨h.1.ex hx ho (hk b List.mem_cons_self), h.2.1, SR.ex hx ho h.2.2 fun c hc => hk c (List.mem_cons_of_mem _ hc)⟩
  | [], _ :: _, h, _ => h.elim
  | _ :: _, [], h, _ => h.elim
theorem SR.len {B : Nat} {W : World} {dp : Bool} : ∀ {l : List Mb} {K : List Bg}, SR B W dp l K → l.length = K.length
  | [], [], _ => rfl
  | _ :: _, _ :: _, h => by rw [List.length_cons, List.length_cons, h.2.2.len]
  | [], _ :: _, h => h.elim
  | _ :: _, [], h => h.elim
theorem SR.lt {B : Nat} {W : World} {dp : Bool} : ∀ {l : List Mb} {K : List Bg}, SR B W dp l K → ∀ c ∈ l, ∀ k, (Value.slice c.ka c.kn c.kc).ownBlock = some k → k < W.heap.size ∧ ∃ cur fr, W.heap[k]? = some (.cells cur 22 fr)
  | [], [], _, c, hc => by cases hc
  | b :: l, p :: K, h, c, hc => by
    rcases List.mem_cons.1 hc with rfl | hc
    · intro k hk
      refine ⟨(h.1.row.lt k hk).2, ?_⟩
      rcases h.1.row.2 with ⟨h1, _⟩ | ⟨g, cap, cur, h1, _, h2, _⟩
      · rw [h1] at hk; cases hk
      · rw [h1] at hk
        cases hk
        exact ⟨_, _, h2⟩
    · exact h.2.2.lt c hc
  | [], _ :: _, h, _, _ => h.elim
  | _ :: _, [], h, _, _ => h.elim
/-- With trees too deep nothing is asked of them any more. -/
theorem SR.deep {B : Nat} {W : World} {dp : Bool} : ∀ {l : List Mb} {K : List Bg}, SR B W dp l K → SR B W true l K
  | [], [], _ => trivial
  | _ :: _, _ :: _, h => ⟨{ h.1 with nt := fun e => by cases e }, h.2.1, h.2.2.deep⟩
  | [], _ :: _, h => h.elim
  | _ :: _, [], h => h.elim
/-- A stack's kids' blocks are none of another type. -/
theorem SR.off {B : Nat} {W : World} {dp : Bool} {l : List Mb} {K : List Bg} (h : SR B W dp l K) {g : Nat} {cur : Array Value} {t : TypeId} {fr : Nat × Nat} (hg : W.heap[g]? = some (.cells cur t fr)) (ht : t ≠ 22) : ∀ c ∈ l, ∀ k, (Value.slice c.ka c.kn c.kc).ownBlock = some k → k ≠ g := by
  intro c hc k hk e
  obtain ⟨_, cur', fr', hb⟩ := h.lt c hc k hk
  rw [e, hg] at hb
  cases hb
  exact ht rfl
end Go.Proofs.YtljkmdmbndjngaaGreat
/-
  What is read has no more nodes than parts; a rule's answer of the reference, in memory.
-/
namespace Go.Proofs.YtljkmdmbndjngaaGreat
set_option linter.unusedVariables false
set_option linter.unusedSimpArgs false
open Go.RowKit

/-- How many nodes a rule begins with. -/
def Rl.many : Rl → Nat
  | .aft L | .brk L | .op _ L => L.length
  | .adv _ _ B => B.length + 1
  | _ => 0
theorem Rd'.few {M : List UInt8 → List UInt8} {R : Rl} {ts r : List Pk} {x : Option (List Tn)} (h : Rd' M R ts x r) : ∀ X, x = some X → X.length + r.length ≤ ts.length + R.many := by
  induction h with
  | e_verb h h1 i => exact fun X hx => i X hx
  | e_bad h h1 i => exact fun X hx => by cases hx
  | e_term h h1 h2 i j =>
    intro X hx
    have := i _ rfl
    have := j X hx
    simp only [Rl.many] at *
    omega
  | a_end h => intro X hx; cases hx; simp only [Rl.many]; omega
  | a_op h h1 i => exact fun X hx => i X hx
  | o_bad h1 i => exact fun X hx => by cases hx
  | @o_is k ts r r' L V x h1 h2 i j =>
    intro X hx
    cases x with
    | none => cases hx
    | some Y =>
      cases hx
      have := i _ rfl
      have := j _ rfl
      simp only [Rl.many, List.length_append] at *
      omega
  | v_one h h1 i => intro X hx; have := i X hx; simp only [Rl.many, List.length_cons, List.length_nil] at *; omega
  | v_bad h ht h1 i => exact fun X hx => by cases hx
  | v_body h ht h1 h2 i j => intro X hx; have := i _ rfl; have := j X hx; simp only [Rl.many, List.length_cons] at *; omega
  | d_none h => intro X hx; cases hx; simp only [Rl.many, List.length_cons]; omega
  | d_is h ht hc => intro X hx; cases hx; simp only [Rl.many, List.length_cons]; omega
  | d_bad h ht => exact fun X hx => by cases hx
  | t_bad h1 i => exact fun X hx => by cases hx
  | t_is h1 h2 i j => intro X hx; have := i _ rfl; have := j X hx; simp only [Rl.many] at *; omega
  | b_end h => intro X hx; cases hx; simp only [Rl.many]; omega
  | b_bad h ht h1 i => exact fun X hx => by cases hx
  | b_is h ht h1 h2 i j => intro X hx; have := i _ rfl; have := j X hx; simp only [Rl.many, List.length_cons, List.length_append] at *; omega
  | m_word h => intro X hx; cases hx; simp only [Rl.many, List.length_cons, List.length_nil]; omega
  | m_par h ht h1 i => intro X hx; have := i X hx; simp only [Rl.many, List.length_cons] at *; omega
  | m_bad h2 h6 h1 => exact fun X hx => by cases hx
  | m_many h => exact fun X hx => by cases hx
  | @m_nums ts h h1 =>
    intro X hx
    cases hx
    have := nmL_le ts
    simp only [Rl.many, List.length_cons, List.length_nil, List.length_drop]
    omega
  | c_bad h1 i => exact fun X hx => by cases hx
  | c_not h1 h i => exact fun X hx => by cases hx
  | c_is h1 h ht i => intro X hx; have := i X hx; simp only [Rl.many, List.length_cons] at *; omega
/-- What a rule of the reference tells: the nodes, the place, and whether it read. -/
def GtEnd (x : Option (List Tn)) (i : Nat) (W : World) (e : Ending) (W' : World) : Prop :=
  ∃ a n c L, e = .returned (.agg #[.slice a n c, .int .i64 i, .bool x.isSome]) ∧ Nl W.heap.size W' a n c L ∧ n ≤ 1000 ∧ (∀ X, x = some X → L = X) ∧ Below W.heap.size W W'
theorem suf_drop {ts r : List Pk} {i : Nat} (h : r <:+ ts.drop i) (hi : i ≤ ts.length) : r = ts.drop (ts.length - r.length) ∧ i ≤ ts.length - r.length := by
  have h1 := h.trans (List.drop_suffix i ts)
  have h2 := h.length_le
  rw [List.length_drop] at h2
  exact ⟨List.suffix_iff_eq_drop.1 h1, by omega⟩
/-- A rule's contract. -/
def RuleIs (R : Rl) (f : FuncId) (more : Array Value) (ts : List Tk) (i : Nat) : Prop :=
  ∀ (a : Option Addr) (n c : Nat) (W : World) (x : Option (List Tn)) (r : List Pk), Qs W a n (rtk ts) → n = ts.length → n ≤ 300 → i ≤ n → Rd' numT R ((pks ts).drop i) x r →
    Calls Tryz.prog f (#[.slice a n c, .int .i64 i] ++ more) W (GtEnd x (n - r.length) W)
/-- The numbers at the front, one by one. -/
theorem nmL_at {ts : List Pk} {k : Nat} (h : k < (nmL ts).length) : ∃ q l, ts.drop k = q :: l ∧ q.k = 1 ∧ (nmL ts)[k]? = some q.t := by
  induction ts generalizing k with
  | nil => simp [nmL] at h
  | cons q r ih =>
    unfold nmL at h ⊢
    split at h
    · rename_i hq
      rw [if_pos hq]
      cases k with
      | zero => exact ⟨q, r, rfl, hq, rfl⟩
      | succ k => exact ih (by simp only [List.length_cons] at h; omega)
    · simp at h
theorem nmL_stop {ts : List Pk} : ¬ isK 1 (ts.drop (nmL ts).length) := by
  induction ts with
  | nil => exact id
  | cons q r ih =>
    unfold nmL
    split
    · exact ih
    · rename_i hq
      exact hq
end Go.Proofs.YtljkmdmbndjngaaGreat

import Derived.Test.YtafdogcanjcbmaaMaa
/-
  What is read is a tree, plainly; its nodes; lines put together of lines. (Imports nothing of the program.)
-/
namespace Go.Proofs.Ytafdogcanjcbmaa
set_option linter.unusedVariables false
set_option linter.unusedSimpArgs false
variable {M : List UInt8 → List UInt8}

/-- How many trees are below a node. -/
def kdT (n : Tn) : Int :=
  if n.k = 1 ∨ n.k = 2 then 0
  else if n.k = 3 then (if n.v = [123] then 2 else 1)
  else if n.k = 4 then (if n.v = [123] then 3 else 2)
  else if n.k = 5 ∨ n.k = 7 then 1
  else if n.k = 6 ∨ n.k = 8 then 2
  else -1
theorem Fd.join {K : List Int} {p a e d1 : Nat} (h : Fd K p a e d1) {b f d2 : Nat} : Fd K e b f d2 → Fd K p (a + b) f (max d1 d2) := by
  induction h with
  | nil p => intro g; rw [Nat.zero_add, Nat.zero_max]; exact g
  | cons h h0 hk hr i1 i2 =>
    intro g
    rw [Nat.add_right_comm, Nat.max_assoc]
    exact .cons h h0 hk (i2 g)
theorem Fd.shift {K K' : List Int} {s p m e d : Nat} (h : Fd K p m e d) : (∀ i, p ≤ i → i < e → K'[i + s]? = K[i]?) → Fd K' (p + s) m (e + s) d := by
  induction h with
  | nil p => exact fun _ => .nil _
  | @cons p m q e d1 d2 k h h0 hk hr i1 i2 =>
    intro hK
    have l1 := hk.le.1
    have l2 := hr.le.1
    have g1 := i1 (fun i hi hi2 => hK i (by omega) (by omega))
    rw [Nat.add_right_comm] at g1
    exact .cons (by rw [hK p (Nat.le_refl _) (by omega)]; exact h) h0 g1 (i2 (fun i hi hi2 => hK i (by omega) (by omega)))
/-- A list of nodes is m trees, the deepest d deep. -/
def Dp (L : List Tn) (m d : Nat) : Prop := Fd (L.map kdT) 0 m L.length d
theorem Dp.nil : Dp [] 0 0 := Fd.nil 0
theorem Dp.app {A B : List Tn} {a b d1 d2 : Nat} (h : Dp A a d1) (g : Dp B b d2) : Dp (A ++ B) (a + b) (max d1 d2) := by
  have h' : Fd ((A ++ B).map kdT) 0 a A.length d1 := Fd.move h (K' := (A ++ B).map kdT) (s := 0) (Nat.le_refl _) fun i _ hi => by
    rw [Nat.sub_zero, List.map_append, List.getElem?_append_left (by rw [List.length_map]; exact hi)]
  have g' : Fd ((A ++ B).map kdT) (0 + A.length) b (B.length + A.length) d2 := Fd.shift g fun i _ hi => by
    rw [List.map_append, List.getElem?_append_right (by rw [List.length_map]; omega), List.length_map, Nat.add_sub_cancel]
  rw [Nat.zero_add, Nat.add_comm] at g'
  unfold Dp
  rw [List.length_append]
  exact h'.join g'
theorem Dp.cons {n : Tn} {X : List Tn} {k d : Nat} (hn : kdT n = k) (h : Dp X k d) : Dp (n :: X) 1 (1 + d) := by
  have g : Fd ((n :: X).map kdT) (0 + 1) k (X.length + 1) d := Fd.shift h fun i _ _ => by rw [List.map_cons, List.getElem?_cons_succ]
  have := Fd.cons (K := (n :: X).map kdT) (p := 0) (m := 0) (k := (k : Int)) (by rw [List.map_cons, hn]; rfl) (by omega) g (.nil _)
  rw [Nat.max_eq_left (by omega)] at this
  exact this
/-- One tree. -/
def Tr (L : List Tn) : Prop := ∃ d, Dp L 1 d
def Vt (V : List Tn) (m : Nat) : Prop := ∀ X d, Dp X m d → Tr (V ++ X)
def Rl.pre : Rl → Prop
  | .aft L | .brk L => Tr L
  | .op k L => (k = 3 ∧ L = []) ∨ (k = 4 ∧ Tr L)
  | .adv k v B => (k = 3 ∨ k = 4) ∧ ((v ≠ [123] ∧ B = []) ∨ (v = [123] ∧ Tr B))
  | .vb k => k = 3 ∨ k = 4
  | _ => True
def Rl.post : Rl → List Tn → Prop
  | .vb k | .adv k _ _ => fun V => Vt V (k - 2).toNat
  | _ => Tr
theorem tr_leaf {n : Tn} (h : n.k = 1 ∨ n.k = 2) : Tr [n] := ⟨_, .cons (k := 0) (by unfold kdT; rw [if_pos h]; rfl) .nil⟩
theorem tr_two {n : Tn} {A B : List Tn} (h : kdT n = 2) (hA : Tr A) (hB : Tr B) : Tr (n :: (A ++ B)) := by
  obtain ⟨d1, h1⟩ := hA
  obtain ⟨d2, h2⟩ := hB
  exact ⟨_, .cons h (h1.app h2)⟩
theorem vt_adv {k : Int} {v a : List UInt8} {B : List Tn} (hk : k = 3 ∨ k = 4) (h : (v ≠ [123] ∧ B = []) ∨ (v = [123] ∧ Tr B)) : Vt (⟨k, v, a, [], []⟩ :: B) (k - 2).toNat := by
  intro X d hX
  rcases h with ⟨hv, rfl⟩ | ⟨hv, e, hB⟩
  · refine ⟨_, .cons (k := (k - 2).toNat) ?_ hX⟩
    rcases hk with rfl | rfl
    · simp [kdT, hv]
    · simp [kdT, hv]
  · refine ⟨_, .cons (k := 1 + (k - 2).toNat) ?_ (hB.app hX)⟩
    rcases hk with rfl | rfl
    · simp [kdT, hv]
    · simp [kdT, hv]
/-- What is read is a tree. -/
theorem Rd'.tree {R : Rl} {ts r : List Pk} {x : Option (List Tn)} (h : Rd' M R ts x r) : (∀ q ∈ ts, q.k = 3 ∨ q.k = 4 → q.t ≠ [123]) → R.pre → ∀ X, x = some X → R.post X := by
  induction h with
  | e_verb h h1 i => exact fun hp _ X hx => i hp (.inl ⟨rfl, rfl⟩) X hx
  | e_bad h h1 i => exact fun _ _ X hx => by cases hx
  | e_term h h1 h2 i j => exact fun hp _ X hx => j (fun q hq => hp q (h1.suffix.mem hq)) (i hp trivial _ rfl) X hx
  | a_end h => exact fun _ hp X hx => by cases hx; exact hp
  | a_op h h1 i => exact fun hp hl X hx => i hp (.inr ⟨rfl, hl⟩) X hx
  | o_bad h1 i => exact fun _ _ X hx => by cases hx
  | @o_is k ts r r' L V x h1 h2 i j =>
    intro hp hl X hx
    cases x with
    | none => cases hx
    | some Y =>
      cases hx
      obtain ⟨d, hY⟩ := j (fun q hq => hp q (h1.suffix.mem hq)) trivial _ rfl
      show Tr (V ++ L ++ Y)
      rw [List.append_assoc]
      rcases hl with ⟨rfl, rfl⟩ | ⟨rfl, e, hL⟩
      · exact i hp (.inl rfl) _ rfl Y d hY
      · exact i hp (.inr rfl) _ rfl (L ++ Y) _ (hL.app hY)
  | @v_one k q r r' x h h1 i => exact fun hp hk X hx => i (fun q hq => hp q (List.mem_cons_of_mem _ hq)) ⟨hk, .inl ⟨hp q List.mem_cons_self h, rfl⟩⟩ X hx
  | v_bad h ht h1 i => exact fun _ _ X hx => by cases hx
  | @v_body k q r r' r2 B x h ht h1 h2 i j =>
    exact fun hp hk X hx => j (fun q hq => hp q (List.mem_cons_of_mem _ (h1.suffix.mem hq))) ⟨hk, .inr ⟨ht, i (fun q hq => hp q (List.mem_cons_of_mem _ hq)) trivial _ rfl⟩⟩ X hx
  | d_none h => exact fun _ hp X hx => by cases hx; exact vt_adv hp.1 hp.2
  | d_is h ht hc => exact fun _ hp X hx => by cases hx; exact vt_adv hp.1 hp.2
  | d_bad h ht => exact fun _ _ X hx => by cases hx
  | t_bad h1 i => exact fun _ _ X hx => by cases hx
  | t_is h1 h2 i j => exact fun hp _ X hx => j (fun q hq => hp q (h1.suffix.mem hq)) (i hp trivial _ rfl) X hx
  | b_end h => exact fun _ hp X hx => by cases hx; exact hp
  | b_bad h ht h1 i => exact fun _ _ X hx => by cases hx
  | @b_is q r r' r2 L I x h ht h1 h2 i j =>
    exact fun hp hl X hx => j (fun q hq => hp q (List.mem_cons_of_mem _ (h1.suffix.mem hq))) (tr_two rfl hl (i (fun q hq => hp q (List.mem_cons_of_mem _ hq)) trivial _ rfl)) X hx
  | m_word h => exact fun _ _ X hx => by cases hx; exact tr_leaf (.inr rfl)
  | m_par h ht h1 i => exact fun hp _ X hx => i (fun q hq => hp q (List.mem_cons_of_mem _ hq)) trivial X hx
  | m_bad h2 h6 h1 => exact fun _ _ X hx => by cases hx
  | m_many h => exact fun _ _ X hx => by cases hx
  | m_nums h h1 => exact fun _ _ X hx => by cases hx; exact tr_leaf (.inl rfl)
  | c_bad h1 i => exact fun _ _ X hx => by cases hx
  | c_not h1 h i => exact fun _ _ X hx => by cases hx
  | c_is h1 h ht i => exact fun hp _ X hx => i hp trivial X hx
/-- A line's tree. -/
theorem Ln.tree {ts r : List Pk} {X : List Tn} (h : Ln M ts (some X) r) (hp : ∀ q ∈ ts, q.k = 3 ∨ q.k = 4 → q.t ≠ [123]) : Tr X := by
  have key : ∀ {x : Option (List Tn)} (h : Ln M ts x r), x = some X → Tr X := by
    intro x h hx
    have c2 : ∀ {q w : Pk} {l : List Pk}, ts = q :: w :: l → ∀ u ∈ l, u.k = 3 ∨ u.k = 4 → u.t ≠ [123] := fun e u hu => hp u (by rw [e]; exact List.mem_cons_of_mem _ (List.mem_cons_of_mem _ hu))
    cases h with
    | @assign q w r r' x h h2 ht h1 =>
      cases x with
      | none => cases hx
      | some Y =>
        cases hx
        obtain ⟨d, g⟩ := h1.tree (c2 rfl) trivial _ rfl
        exact ⟨_, .cons (k := 1) rfl g⟩
    | defbad h h2 ht h1 => cases hx
    | @define q w b r r' x h h2 ht h3 hb h1 =>
      cases x with
      | none => cases hx
      | some Y =>
        cases hx
        obtain ⟨d, g⟩ := h1.tree (fun u hu => c2 rfl u (List.mem_cons_of_mem _ hu)) trivial _ rfl
        exact ⟨_, .cons (k := 1) rfl g⟩
    | idxbad h h2 ht h1 => cases hx
    | @amend q w d r r1 r' I x h h2 ht h1 h3 hd h4 =>
      cases x with
      | none => cases hx
      | some Y =>
        cases hx
        exact tr_two rfl (h1.tree (c2 rfl) trivial _ rfl) (h4.tree (fun u hu => c2 rfl u (h1.suffix.mem (List.mem_cons_of_mem _ hu))) trivial _ rfl)
    | ixbad h h2 ht h1 h3 h4 => cases hx
    | index h h2 ht h1 h3 h4 h5 =>
      have s1 := h1.tree (c2 rfl) trivial _ rfl
      have s2 := h4.tree (fun u hu => c2 rfl u (h1.suffix.mem hu)) (tr_two rfl (tr_leaf (.inr rfl)) s1) _ rfl
      exact h5.tree (fun u hu => c2 rfl u (h1.suffix.mem (h4.suffix.mem hu))) s2 X hx
    | plain h1 h2 h => exact h.tree hp trivial X hx
  exact key h rfl

/-- What a node that was read is, P being what each part is. -/
inductive Nok (M : List UInt8 → List UInt8) (P : Pk → Prop) : Tn → Prop
  | lit {l : List (List UInt8)} (h0 : 0 < l.length) (h1 : l.length ≤ 100) (h : ∀ s ∈ l, ∃ q, P q ∧ q.k = 1 ∧ s = M q.t) : Nok M P ⟨1, [], [], [], l⟩
  | name {q : Pk} (hq : P q) (h : q.k = 2) : Nok M P ⟨2, [], [], q.t, []⟩
  | one {k : Int} {q : Pk} {a : List UInt8} (hk : k = 3 ∨ k = 4) (hq : P q) (h : q.k = 3 ∨ q.k = 4) (ha : a = [] ∨ ∃ c ∈ advs k, a = [c]) : Nok M P ⟨k, q.t, a, [], []⟩
  | body {k : Int} {a : List UInt8} (hk : k = 3 ∨ k = 4) (ha : a = [] ∨ ∃ c ∈ advs k, a = [c]) : Nok M P ⟨k, [123], a, [], []⟩
  | index : Nok M P ⟨8, [], [], [], []⟩
def Rl.npre (M : List UInt8 → List UInt8) (P : Pk → Prop) : Rl → Prop
  | .aft L | .brk L => ∀ n ∈ L, Nok M P n
  | .op k L => (k = 3 ∨ k = 4) ∧ ∀ n ∈ L, Nok M P n
  | .adv k v B => (k = 3 ∨ k = 4) ∧ (v = [123] ∨ ∃ q, P q ∧ (q.k = 3 ∨ q.k = 4) ∧ v = q.t) ∧ ∀ n ∈ B, Nok M P n
  | .vb k => k = 3 ∨ k = 4
  | _ => True
theorem nok_adv {P : Pk → Prop} {k : Int} {v a : List UInt8} {B : List Tn} (h : (Rl.adv k v B).npre M P) (ha : a = [] ∨ ∃ c ∈ advs k, a = [c]) : ∀ n ∈ (⟨k, v, a, [], []⟩ :: B : List Tn), Nok M P n := by
  obtain ⟨hk, hv, hB⟩ := h
  intro n hn
  rcases List.mem_cons.1 hn with rfl | hn
  · rcases hv with rfl | ⟨q, hq, hk2, rfl⟩
    · exact .body hk ha
    · exact .one hk hq hk2 ha
  · exact hB n hn
theorem nmL_of {P : Pk → Prop} {ts : List Pk} (h : ∀ q ∈ ts, P q) : ∀ s ∈ nmL ts, ∃ q, P q ∧ q.k = 1 ∧ s = q.t := by
  induction ts with
  | nil => intro s hs; cases hs
  | cons q r ih =>
    intro s hs
    unfold nmL at hs
    split at hs
    · rename_i hq
      rcases List.mem_cons.1 hs with rfl | hs
      · exact ⟨q, h q List.mem_cons_self, hq, rfl⟩
      · exact ih (fun q hq => h q (List.mem_cons_of_mem _ hq)) s hs
    · cases hs
theorem Rd'.nodes {P : Pk → Prop} {R : Rl} {ts r : List Pk} {x : Option (List Tn)} (h : Rd' M R ts x r) : (∀ q ∈ ts, P q) → R.npre M P → ∀ X, x = some X → ∀ n ∈ X, Nok M P n := by
  induction h with
  | e_verb h h1 i => exact fun hp _ X hx => i hp ⟨.inl rfl, fun n hn => by cases hn⟩ X hx
  | e_bad h h1 i => exact fun _ _ X hx => by cases hx
  | e_term h h1 h2 i j => exact fun hp _ X hx => j (fun q hq => hp q (h1.suffix.mem hq)) (i hp trivial _ rfl) X hx
  | a_end h => exact fun _ hp X hx => by cases hx; exact hp
  | a_op h h1 i => exact fun hp hl X hx => i hp ⟨.inr rfl, hl⟩ X hx
  | o_bad h1 i => exact fun _ _ X hx => by cases hx
  | @o_is k ts r r' L V x h1 h2 i j =>
    intro hp hl X hx
    cases x with
    | none => cases hx
    | some Y =>
      cases hx
      intro n hn
      have hn : n ∈ V ++ L ++ Y := hn
      rcases List.mem_append.1 hn with hn | hn
      · rcases List.mem_append.1 hn with hn | hn
        · exact i hp hl.1 _ rfl n hn
        · exact hl.2 n hn
      · exact j (fun q hq => hp q (h1.suffix.mem hq)) trivial _ rfl n hn
  | @v_one k q r r' x h h1 i => exact fun hp hk X hx => i (fun q hq => hp q (List.mem_cons_of_mem _ hq)) ⟨hk, .inr ⟨q, hp q List.mem_cons_self, h, rfl⟩, fun n hn => by cases hn⟩ X hx
  | v_bad h ht h1 i => exact fun _ _ X hx => by cases hx
  | @v_body k q r r' r2 B x h ht h1 h2 i j =>
    exact fun hp hk X hx => j (fun q hq => hp q (List.mem_cons_of_mem _ (h1.suffix.mem hq))) ⟨hk, .inl ht, i (fun q hq => hp q (List.mem_cons_of_mem _ hq)) trivial _ rfl⟩ X hx
  | d_none h => exact fun _ hp X hx => by cases hx; exact nok_adv hp (.inl rfl)
  | d_is h ht hc => exact fun _ hp X hx => by cases hx; exact nok_adv hp (.inr ⟨_, hc, rfl⟩)
  | d_bad h ht => exact fun _ _ X hx => by cases hx
  | t_bad h1 i => exact fun _ _ X hx => by cases hx
  | t_is h1 h2 i j => exact fun hp _ X hx => j (fun q hq => hp q (h1.suffix.mem hq)) (i hp trivial _ rfl) X hx
  | b_end h => exact fun _ hp X hx => by cases hx; exact hp
  | b_bad h ht h1 i => exact fun _ _ X hx => by cases hx
  | @b_is q r r' r2 L I x h ht h1 h2 i j =>
    intro hp hl X hx
    refine j (fun q hq => hp q (List.mem_cons_of_mem _ (h1.suffix.mem hq))) (fun n hn => ?_) X hx
    rcases List.mem_cons.1 hn with rfl | hn
    · exact .index
    · rcases List.mem_append.1 hn with hn | hn
      · exact hl n hn
      · exact i (fun q hq => hp q (List.mem_cons_of_mem _ hq)) trivial _ rfl n hn
  | @m_word q r h =>
    intro hp _ X hx n hn
    cases hx
    rcases List.mem_singleton.1 hn with rfl
    exact .name (hp q List.mem_cons_self) h
  | m_par h ht h1 i => exact fun hp _ X hx => i (fun q hq => hp q (List.mem_cons_of_mem _ hq)) trivial X hx
  | m_bad h2 h6 h1 => exact fun _ _ X hx => by cases hx
  | m_many h => exact fun _ _ X hx => by cases hx
  | @m_nums ts h h1 =>
    intro hp _ X hx n hn
    cases hx
    rcases List.mem_singleton.1 hn with rfl
    refine .lit (by rw [List.length_map]; exact h) (by rw [List.length_map]; exact h1) fun s hs => ?_
    obtain ⟨t, ht, rfl⟩ := List.mem_map.1 hs
    obtain ⟨q, h1, h2, rfl⟩ := nmL_of hp t ht
    exact ⟨q, h1, h2, rfl⟩
  | c_bad h1 i => exact fun _ _ X hx => by cases hx
  | c_not h1 h i => exact fun _ _ X hx => by cases hx
  | c_is h1 h ht i => exact fun hp _ X hx => i hp trivial X hx
/-- What a line's head is, if it is none of an expression's. -/
inductive Hok (P : Pk → Prop) : Tn → Prop
  | assign {q : Pk} (hq : P q) (h : q.k = 2) : Hok P ⟨5, [], [], q.t, []⟩
  | amend {q : Pk} (hq : P q) (h : q.k = 2) : Hok P ⟨6, [], [], q.t, []⟩
  | define {q : Pk} (hq : P q) (h : q.k = 3) : Hok P ⟨7, [], [], q.t, []⟩
theorem Ln.nodes {P : Pk → Prop} {ts r : List Pk} {X : List Tn} (h : Ln M ts (some X) r) (hp : ∀ q ∈ ts, P q) (hb : ∀ q ∈ ts, q.k = 3 ∨ q.k = 4 → q.t ≠ [123]) : ∃ n Y, X = n :: Y ∧ (Nok M P n ∨ Hok P n) ∧ ∀ n ∈ Y, Nok M P n := by
  have all : ∀ {X : List Tn}, Tr X → (∀ n ∈ X, Nok M P n) → ∃ n Y, X = n :: Y ∧ (Nok M P n ∨ Hok P n) ∧ ∀ n ∈ Y, Nok M P n := by
    intro X hT h
    cases X with
    | nil =>
      obtain ⟨d, hd⟩ := hT
      have := hd.lt (by omega)
      simp at this
    | cons n Y => exact ⟨n, Y, rfl, .inl (h n List.mem_cons_self), fun m hm => h m (List.mem_cons_of_mem _ hm)⟩
  have key : ∀ {x : Option (List Tn)} (h : Ln M ts x r), x = some X → ∃ n Y, X = n :: Y ∧ (Nok M P n ∨ Hok P n) ∧ ∀ n ∈ Y, Nok M P n := by
    intro x h' hx
    have c2 : ∀ {q w : Pk} {l : List Pk}, ts = q :: w :: l → ∀ u ∈ l, P u := fun e u hu => hp u (by rw [e]; exact List.mem_cons_of_mem _ (List.mem_cons_of_mem _ hu))
    have c0 : ∀ {q w : Pk} {l : List Pk}, ts = q :: w :: l → P q := fun e => hp _ (by rw [e]; exact List.mem_cons_self)
    cases h' with
    | @assign q w r r' x hq h2 ht h1 =>
      cases x with
      | none => cases hx
      | some Y => cases hx; exact ⟨_, _, rfl, .inr (.assign (c0 rfl) hq), h1.nodes (c2 rfl) trivial _ rfl⟩
    | defbad h h2 ht h1 => cases hx
    | @define q w b r r' x hq h2 ht h3 hb h1 =>
      cases x with
      | none => cases hx
      | some Y => cases hx; exact ⟨_, _, rfl, .inr (.define (c0 rfl) hq), h1.nodes (fun u hu => c2 rfl u (List.mem_cons_of_mem _ hu)) trivial _ rfl⟩
    | idxbad h h2 ht h1 => cases hx
    | @amend q w d r r1 r' I x hq h2 ht h1 h3 hd h4 =>
      cases x with
      | none => cases hx
      | some Y =>
        cases hx
        refine ⟨_, _, rfl, .inr (.amend (c0 rfl) hq), fun n hn => ?_⟩
        rcases List.mem_append.1 hn with hn | hn
        · exact h1.nodes (c2 rfl) trivial _ rfl n hn
        · exact h4.nodes (fun u hu => c2 rfl u (h1.suffix.mem (List.mem_cons_of_mem _ hu))) trivial _ rfl n hn
    | ixbad h h2 ht h1 h3 h4 => cases hx
    | @index q w r r1 r2 r' I L x hq h2 ht h1 h3 h4 h5 =>
      have s1 := h1.nodes (c2 rfl) trivial _ rfl
      have s2 := h4.nodes (P := P) (fun u hu => c2 rfl u (h1.suffix.mem hu)) (fun n hn => by
        rcases List.mem_cons.1 hn with rfl | hn
        · exact .index
        · rcases List.mem_append.1 hn with hn | hn
          · rcases List.mem_singleton.1 hn with rfl
            exact .name (c0 rfl) hq
          · exact s1 n hn) _ rfl
      exact all (h.tree hb) (h5.nodes (fun u hu => c2 rfl u (h1.suffix.mem (h4.suffix.mem hu))) s2 X hx)
    | plain h1 h2 h' => exact all (h.tree hb) (h'.nodes hp trivial X hx)
  exact key h rfl

theorem shut_mk {c : Pk} {us : List Pk} (h : c.k = 6) {b : UInt8} (ht : c.t = [b]) (h1 : b ≠ 123) (h2 : b ≠ 91) : Shut (c :: us) where
  v := fun g => by
    rcases (show c.k = 3 ∨ c.k = 4 ∨ (c.k = 6 ∧ c.t = [123]) from g) with g | g | g
    · omega
    · omega
    · rw [ht] at g; exact h1 (by injection g.2)
  a := fun g => by have g : c.k = 5 := g; omega
  b := fun g => by have g : c.k = 6 ∧ c.t = [91] := g; rw [ht] at g; exact h2 (by injection g.2)
  n := fun g => by have g : c.k = 1 := g; omega
theorem shut_nil : Shut [] := ⟨id, id, id, id⟩
theorem not_mk {c : Pk} {us : List Pk} {b d : UInt8} (ht : c.t = [b]) (h : b ≠ d) : ¬ isMk d (c :: us) := fun g => by
  have g : c.k = 6 ∧ c.t = [d] := g
  rw [ht] at g
  exact h (by injection g.2)
/-- An expression begins with no adverb. -/
theorem Rd'.begins {ts r : List Pk} {L : List Tn} (h : Rd' M .expr ts (some L) r) : ¬ isK 5 ts := by
  intro g
  cases ts with
  | nil => exact g
  | cons q l =>
    have g : q.k = 5 := g
    cases h with
    | e_verb h h1 =>
      rcases (show q.k = 3 ∨ q.k = 4 ∨ (q.k = 6 ∧ q.t = [123]) from h) with h | h | h <;> omega
    | e_term h h1 h2 =>
      cases h1 with
      | t_is h1 h2 =>
        cases h1 with
        | m_word h => omega
        | m_par h => omega
        | m_nums h h1 =>
          unfold nmL at h
          rw [if_neg (by omega)] at h
          simp at h
/-- A line that can be reckoned is an expression. -/
theorem Ln.expr {ts r : List Pk} {L : List Tn} (h : Ln M ts (some L) r) (hd : ∀ n Y, L = n :: Y → n.k < 5 ∨ 7 < n.k) : Rd' M .expr ts (some L) r := by
  have key : ∀ {x : Option (List Tn)} (h : Ln M ts x r), x = some L → Rd' M .expr ts (some L) r := by
    intro x h' hx
    cases h' with
    | @assign q w r r' x h h2 ht h1 =>
      cases x with
      | none => cases hx
      | some Y => cases hx; have := hd _ _ rfl; simp only at this; omega
    | defbad h h2 ht h1 => cases hx
    | @define q w b r r' x h h2 ht h3 hb h1 =>
      cases x with
      | none => cases hx
      | some Y => cases hx; have := hd _ _ rfl; simp only at this; omega
    | idxbad h h2 ht h1 => cases hx
    | @amend q w d r r1 r' I x h h2 ht h1 h3 hd' h4 =>
      cases x with
      | none => cases hx
      | some Y => cases hx; have := hd _ _ rfl; simp only at this; omega
    | ixbad h h2 ht h1 h3 h4 => cases hx
    | @index q w r r1 r2 r' I X x hq h2 ht h1 h3 h4 h5 =>
      cases hx
      refine .e_term (fun g => ?_) (.t_is (.m_word hq) (.b_is h2 ht h1 h4)) h5
      rcases (show q.k = 3 ∨ q.k = 4 ∨ (q.k = 6 ∧ q.t = [123]) from g) with g | g | g <;> omega
    | plain h1 h2 h => cases hx; exact h
  exact key h rfl
/-- A number, and what is behind it. -/
theorem term_num {n : Pk} {us : List Pk} (hn : n.k = 1) (h1 : ¬ isK 1 us) (hb : ¬ isMk 91 us) : Rd' M .term (n :: us) (some [⟨1, [], [], [], [M n.t]⟩]) us := by
  have e : nmL (n :: us) = [n.t] := by
    show (if n.k = 1 then n.t :: nmL us else []) = _
    rw [if_pos hn]
    congr 1
    cases us with
    | nil => rfl
    | cons q r => exact if_neg h1
  have g := Rd'.m_nums (M := M) (ts := n :: us) (by rw [e]; simp) (by rw [e]; simp)
  rw [e] at g
  exact .t_is g (.b_end hb)
section
variable {ts : List Pk} {L : List Tn} (h : Rd' M .expr ts (some L) [])
include h
theorem line_paren {o c : Pk} (ho : o.k = 6) (hot : o.t = [40]) (hc : c.k = 6) (hct : c.t = [41]) : Ln M (o :: (ts ++ [c])) (some L) [] := by
  have g := h.app (us := [c]) (.inr ⟨by simp, shut_mk hc hct (by decide) (by decide)⟩)
  refine .plain (fun g => ?_) (fun g => ?_) (.e_term (fun g => ?_) (.t_is (.m_par ho hot (.c_is g hc hct)) (.b_end shut_nil.b)) (.a_end shut_nil.v))
  · have : o.k = 2 := g.1; omega
  · have : o.k = 3 := g.1; omega
  · rcases (show o.k = 3 ∨ o.k = 4 ∨ (o.k = 6 ∧ o.t = [123]) from g) with g | g | g
    · omega
    · omega
    · rw [hot] at g; simp at g
theorem line_index {w o c : Pk} (hw : w.k = 2) (ho : o.k = 6) (hot : o.t = [91]) (hc : c.k = 6) (hct : c.t = [93]) : Ln M (w :: o :: (ts ++ [c])) (some (⟨8, [], [], [], []⟩ :: ([⟨2, [], [], w.t, []⟩] ++ L))) [] := by
  have g := h.app (us := [c]) (.inr ⟨by simp, shut_mk hc hct (by decide) (by decide)⟩)
  exact .index hw ho hot (.c_is g hc hct) id (.b_end shut_nil.b) (.a_end shut_nil.v)
theorem line_assign {w d : Pk} (hw : w.k = 2) (hd : d.k = 6) (hdt : d.t = [58]) : Ln M (w :: d :: ts) (some (⟨5, [], [], w.t, []⟩ :: L)) [] := .assign hw hd hdt h
theorem line_define {w d o c : Pk} (hw : w.k = 3) (hd : d.k = 6) (hdt : d.t = [58]) (ho : o.k = 6) (hot : o.t = [123]) (hc : c.k = 6) (hct : c.t = [125]) : Ln M (w :: d :: o :: (ts ++ [c])) (some (⟨7, [], [], w.t, []⟩ :: L)) [] := by
  have g := h.app (us := [c]) (.inr ⟨by simp, shut_mk hc hct (by decide) (by decide)⟩)
  exact .define hw hd hdt ho hot (.c_is g hc hct)
theorem line_monad {v : Pk} (hv : v.k = 4) : Ln M (v :: ts) (some (⟨3, v.t, [], [], []⟩ :: L)) [] := by
  refine .plain (fun g => ?_) (fun g => ?_) (.e_verb (.inr (.inl hv)) (.o_is (L := []) (V := [⟨3, v.t, [], [], []⟩]) (x := some L) (.v_one (.inr hv) (.d_none h.begins)) h))
  · have : v.k = 2 := g.1; omega
  · have : v.k = 3 := g.1; omega
theorem line_dyad {n v : Pk} (hn : n.k = 1) (hv : v.k = 4) : Ln M (n :: v :: ts) (some (⟨4, v.t, [], [], []⟩ :: ([⟨1, [], [], [], [M n.t]⟩] ++ L))) [] := by
  have hb : ¬ isMk 91 (v :: ts) := fun g => by have g : v.k = 6 ∧ v.t = [91] := g; omega
  have h1 : ¬ isK 1 (v :: ts) := fun g => by have g : v.k = 1 := g; omega
  refine .plain (fun g => ?_) (fun g => ?_) (.e_term (fun g => ?_) (term_num hn h1 hb) (.a_op (.inr (.inl hv)) (.o_is (V := [⟨4, v.t, [], [], []⟩]) (x := some L) (.v_one (.inr hv) (.d_none h.begins)) h)))
  · have : n.k = 2 := g.1; omega
  · have : n.k = 3 := g.1; omega
  · rcases (show n.k = 3 ∨ n.k = 4 ∨ (n.k = 6 ∧ n.t = [123]) from g) with g | g | g <;> omega
theorem line_dyad_adv {n v a : Pk} (hn : n.k = 1) (hv : v.k = 4) (ha : a.k = 5) (hat : a.t = [39]) : Ln M (n :: v :: a :: ts) (some (⟨4, v.t, [39], [], []⟩ :: ([⟨1, [], [], [], [M n.t]⟩] ++ L))) [] := by
  have hb : ¬ isMk 91 (v :: a :: ts) := fun g => by have g : v.k = 6 ∧ v.t = [91] := g; omega
  have h1 : ¬ isK 1 (v :: a :: ts) := fun g => by have g : v.k = 1 := g; omega
  refine .plain (fun g => ?_) (fun g => ?_) (.e_term (fun g => ?_) (term_num hn h1 hb) (.a_op (.inr (.inl hv)) (.o_is (V := [⟨4, v.t, [39], [], []⟩]) (x := some L) (.v_one (.inr hv) (.d_is ha hat (by decide))) h)))
  · have : n.k = 2 := g.1; omega
  · have : n.k = 3 := g.1; omega
  · rcases (show n.k = 3 ∨ n.k = 4 ∨ (n.k = 6 ∧ n.t = [123]) from g) with g | g | g <;> omega
theorem line_two {us : List Pk} {K : List Tn} (h2 : Rd' M .expr us (some K) []) {n v w o c o2 c2 : Pk} (hn : n.k = 1) (hv : v.k = 4) (hw : w.k = 2) (ho : o.k = 6) (hot : o.t = [91]) (hc : c.k = 6) (hct : c.t = [93]) (ho2 : o2.k = 6) (hot2 : o2.t = [91]) (hc2 : c2.k = 6) (hct2 : c2.t = [93]) :
    Ln M (n :: v :: w :: o :: (ts ++ c :: o2 :: (us ++ [c2]))) (some (⟨4, v.t, [], [], []⟩ :: ([⟨1, [], [], [], [M n.t]⟩] ++ (⟨8, [], [], [], []⟩ :: ((⟨8, [], [], [], []⟩ :: ([⟨2, [], [], w.t, []⟩] ++ L)) ++ K))))) [] := by
  have g1 := h.app (us := c :: o2 :: (us ++ [c2])) (.inr ⟨by simp, shut_mk hc hct (by decide) (by decide)⟩)
  have g2 := h2.app (us := [c2]) (.inr ⟨by simp, shut_mk hc2 hct2 (by decide) (by decide)⟩)
  have hb : ∀ l, ¬ isMk 91 (v :: l) := fun l g => by have g : v.k = 6 ∧ v.t = [91] := g; omega
  have h1 : ∀ l, ¬ isK 1 (v :: l) := fun l g => by have g : v.k = 1 := g; omega
  have ev : ∀ l, ¬ isVb (w :: l) := fun l g => by
    rcases (show w.k = 3 ∨ w.k = 4 ∨ (w.k = 6 ∧ w.t = [123]) from g) with g | g | g <;> omega
  have ge : Rd' M .expr (w :: o :: (ts ++ c :: o2 :: (us ++ [c2]))) (some (⟨8, [], [], [], []⟩ :: ((⟨8, [], [], [], []⟩ :: ([⟨2, [], [], w.t, []⟩] ++ L)) ++ K))) [] :=
    .e_term (ev _) (.t_is (.m_word hw) (.b_is ho hot (.c_is g1 hc hct) (.b_is ho2 hot2 (.c_is g2 hc2 hct2) (.b_end shut_nil.b)))) (.a_end shut_nil.v)
  refine .plain (fun g => ?_) (fun g => ?_) (.e_term (fun g => ?_) (term_num hn (h1 _) (hb _)) (.a_op (.inr (.inl hv)) (.o_is (V := [⟨4, v.t, [], [], []⟩]) (x := some _) (.v_one (.inr hv) (.d_none ge.begins)) ge)))
  · have : n.k = 2 := g.1; omega
  · have : n.k = 3 := g.1; omega
  · rcases (show n.k = 3 ∨ n.k = 4 ∨ (n.k = 6 ∧ n.t = [123]) from g) with g | g | g <;> omega
end
end Go.Proofs.Ytafdogcanjcbmaa
/-
  A machine that reads lines with a stack of what is begun, plainly; that it tells what the grammar tells. (Imports nothing of the program.)
-/
namespace Go.Proofs.Ytafdogcanjcbmaa
set_option linter.unusedVariables false
set_option linter.unusedSimpArgs false
variable {M : List UInt8 → List UInt8}

/-- What is begun: a node, the trees below it that are there, the mark that ends it (none: it ends with what it stands in). -/
structure Bg where
  n : Tn
  ks : List (List Tn)
  u : Option UInt8
def Bg.put (b : Bg) (T : List Tn) : List Tn := b.n :: (b.ks ++ [T]).flatten
inductive Md where
  | to
  | vb (k : Int) (ls : List (List Tn))
  | ad (k : Int) (v : List UInt8) (ls : List (List Tn))
  | fr (T : List Tn)
  | dn (T : List Tn)
  | mk (b : Bg) (T : List Tn)
/-- How a node of a kind, and a verb, begins. -/
def nv (k : Int) (v a x : List UInt8) : Tn := ⟨k, v, a, x, []⟩
/-- What the machine tells of the parts that are left, with a stack: a tree, or the parts from the one on with which nothing goes on. -/
inductive Mc (M : List UInt8 → List UInt8) : Md → List Pk → List Bg → Option (List Tn) → List Pk → Prop
  | t_num {ts r : List Pk} {K : List Bg} {x : Option (List Tn)} (h : isK 1 ts) (h1 : Mc M (.fr [⟨1, [], [], [], ((nmL ts).take 100).map M⟩]) (ts.drop ((nmL ts).take 100).length) K x r) : Mc M .to ts K x r
  | t_word {q : Pk} {l r : List Pk} {K : List Bg} {x : Option (List Tn)} (h : q.k = 2) (h1 : Mc M (.fr [nv 2 [] [] q.t]) l K x r) : Mc M .to (q :: l) K x r
  | t_par {q : Pk} {l r : List Pk} {K : List Bg} {x : Option (List Tn)} (h : q.k = 6) (ht : q.t = [40]) (h1 : Mc M .to l (⟨nv 0 [] [] [], [], some 41⟩ :: K) x r) : Mc M .to (q :: l) K x r
  | t_verb {ts r : List Pk} {K : List Bg} {x : Option (List Tn)} (h : isVb ts) (h1 : Mc M (.vb 3 []) ts K x r) : Mc M .to ts K x r
  | t_bad {ts : List Pk} {K : List Bg} (h1 : ¬ isK 1 ts) (h2 : ¬ isK 2 ts) (h6 : ¬ isMk 40 ts) (hv : ¬ isVb ts) : Mc M .to ts K none ts
  | v_one {k : Int} {ls : List (List Tn)} {q : Pk} {l r : List Pk} {K : List Bg} {x : Option (List Tn)} (h : q.k = 3 ∨ q.k = 4) (h1 : Mc M (.ad k q.t ls) l K x r) : Mc M (.vb k ls) (q :: l) K x r
  | v_body {k : Int} {ls : List (List Tn)} {q : Pk} {l r : List Pk} {K : List Bg} {x : Option (List Tn)} (h : q.k = 6) (ht : q.t = [123]) (h1 : Mc M .to l (⟨nv k q.t [] [], ls, some 125⟩ :: K) x r) : Mc M (.vb k ls) (q :: l) K x r
  | d_is {k : Int} {v : List UInt8} {ls : List (List Tn)} {q : Pk} {c : UInt8} {l r : List Pk} {K : List Bg} {x : Option (List Tn)} (h : q.k = 5) (ht : q.t = [c]) (hc : c ∈ advs k) (h1 : Mc M .to l (⟨nv k v [c] [], ls, none⟩ :: K) x r) : Mc M (.ad k v ls) (q :: l) K x r
  | d_no {k : Int} {v : List UInt8} {ls : List (List Tn)} {ts r : List Pk} {K : List Bg} {x : Option (List Tn)} (h : ∀ q l, ts = q :: l → q.k = 5 → ∀ c ∈ advs k, q.t ≠ [c]) (h1 : Mc M .to ts (⟨nv k v [] [], ls, none⟩ :: K) x r) : Mc M (.ad k v ls) ts K x r
  | f_brk {T : List Tn} {q : Pk} {l r : List Pk} {K : List Bg} {x : Option (List Tn)} (h : q.k = 6) (ht : q.t = [91]) (h1 : Mc M .to l (⟨nv 8 [] [] [], [T], some 93⟩ :: K) x r) : Mc M (.fr T) (q :: l) K x r
  | f_verb {T : List Tn} {ts r : List Pk} {K : List Bg} {x : Option (List Tn)} (h : isVb ts) (h1 : Mc M (.vb 4 [T]) ts K x r) : Mc M (.fr T) ts K x r
  | f_done {T : List Tn} {ts r : List Pk} {K : List Bg} {x : Option (List Tn)} (h : ¬ isMk 91 ts) (hv : ¬ isVb ts) (h1 : Mc M (.dn T) ts K x r) : Mc M (.fr T) ts K x r
  | e_pop {T : List Tn} {b : Bg} {ts r : List Pk} {K : List Bg} {x : Option (List Tn)} (hb : b.u = none) (h1 : Mc M (.dn (b.put T)) ts K x r) : Mc M (.dn T) ts (b :: K) x r
  | e_mark {T : List Tn} {b : Bg} {c : UInt8} {q : Pk} {l r : List Pk} {K : List Bg} {x : Option (List Tn)} (hb : b.u = some c) (h : q.k = 6) (ht : q.t = [c]) (h1 : Mc M (.mk b T) l K x r) : Mc M (.dn T) (q :: l) (b :: K) x r
  | e_not {T : List Tn} {b : Bg} {c : UInt8} {ts : List Pk} {K : List Bg} (hb : b.u = some c) (h : ¬ isMk c ts) : Mc M (.dn T) ts (b :: K) none ts
  | e_end {T : List Tn} : Mc M (.dn T) [] [] (some T) []
  | e_more {T : List Tn} {ts : List Pk} (h : ts ≠ []) : Mc M (.dn T) ts [] none ts
  | k_verb {b : Bg} {T : List Tn} {ts r : List Pk} {K : List Bg} {x : Option (List Tn)} (hb : b.n.k = 3 ∨ b.n.k = 4) (h1 : Mc M (.ad b.n.k b.n.v (T :: b.ks)) ts K x r) : Mc M (.mk b T) ts K x r
  | k_amend {b : Bg} {T : List Tn} {q : Pk} {l r : List Pk} {K : List Bg} {x : Option (List Tn)} (hb : b.n.k = 6) (h : q.k = 6) (ht : q.t = [58]) (h1 : Mc M .to l (⟨b.n, [T], none⟩ :: K) x r) : Mc M (.mk b T) (q :: l) K x r
  | k_name {b : Bg} {T : List Tn} {ts r : List Pk} {K : List Bg} {x : Option (List Tn)} (hb : b.n.k = 6) (h : ¬ isMk 58 ts) (h1 : Mc M (.fr (nv 8 [] [] [] :: ([nv 2 [] [] b.n.x] ++ T))) ts K x r) : Mc M (.mk b T) ts K x r
  | k_index {b : Bg} {T : List Tn} {ts r : List Pk} {K : List Bg} {x : Option (List Tn)} (hb : b.n.k = 8) (h1 : Mc M (.fr (b.put T)) ts K x r) : Mc M (.mk b T) ts K x r
  | k_par {b : Bg} {T : List Tn} {ts r : List Pk} {K : List Bg} {x : Option (List Tn)} (hb : b.n.k = 0) (h1 : Mc M (.fr T) ts K x r) : Mc M (.mk b T) ts K x r
  | k_def {b : Bg} {T : List Tn} (hb : b.n.k = 7) : Mc M (.mk b T) [] [] (some (b.put T)) []
  | k_more {b : Bg} {T : List Tn} {ts : List Pk} {K : List Bg} (hb : b.n.k = 7) (h : ts ≠ [] ∨ K ≠ []) : Mc M (.mk b T) ts K none ts

/-- A part that is no mark ends nothing. -/
theorem mc_stop {T : List Tn} {q : Pk} {l : List Pk} (h : q.k ≠ 6) : ∀ K : List Bg, Mc M (.dn T) (q :: l) K none (q :: l) := by
  intro K
  induction K generalizing T with
  | nil => exact .e_more (by simp)
  | cons b K ih =>
    cases hb : b.u with
    | none => exact .e_pop hb ih
    | some c => exact .e_not hb fun g => h g.1
/-- What reading by a rule is for the machine. -/
def Sim (M : List UInt8 → List UInt8) : Rl → List Pk → Option (List Tn) → List Pk → Prop
  | .expr, ts, some X, r => ∀ K y s, Mc M (.dn X) r K y s → Mc M .to ts K y s
  | .expr, ts, none, r => ∀ K, Mc M .to ts K none r
  | .aft L, ts, some X, r => ¬ isMk 91 ts → ∀ K y s, Mc M (.dn X) r K y s → Mc M (.fr L) ts K y s
  | .aft L, ts, none, r => ∀ K, Mc M (.fr L) ts K none r
  | .op k L, ts, some X, r => k = 3 ∨ k = 4 → ∀ ls : List (List Tn), ls.flatten = L → ∀ K y s, Mc M (.dn X) r K y s → Mc M (.vb k ls) ts K y s
  | .op k L, ts, none, r => k = 3 ∨ k = 4 → ∀ (ls : List (List Tn)) K, Mc M (.vb k ls) ts K none r
  | .vb k, ts, some V, r => k = 3 ∨ k = 4 → ∃ n bs, V = n :: List.flatten bs ∧ ∀ (ls : List (List Tn)) K y s, Mc M .to r (⟨n, bs ++ ls, none⟩ :: K) y s → Mc M (.vb k ls) ts K y s
  | .vb k, ts, none, r => k = 3 ∨ k = 4 → ∀ (ls : List (List Tn)) K, Mc M (.vb k ls) ts K none r
  | .adv k v B, ts, some V, r => ∃ n, V = n :: B ∧ ∀ (ls : List (List Tn)) K y s, Mc M .to r (⟨n, ls, none⟩ :: K) y s → Mc M (.ad k v ls) ts K y s
  | .adv k v _, ts, none, r => ∀ (ls : List (List Tn)) K, Mc M (.ad k v ls) ts K none r
  | .term, ts, some L, r => ¬ isMk 91 r ∧ ∀ K y s, Mc M (.fr L) r K y s → Mc M .to ts K y s
  | .term, ts, none, r => ¬ isVb ts → ∀ K, Mc M .to ts K none r
  | .brk L, ts, some X, r => ¬ isMk 91 r ∧ ∀ K y s, Mc M (.fr X) r K y s → Mc M (.fr L) ts K y s
  | .brk L, ts, none, r => ∀ K, Mc M (.fr L) ts K none r
  | .atom, ts, some L, r => ∀ K y s, Mc M (.fr L) r K y s → Mc M .to ts K y s
  | .atom, ts, none, r => ¬ isVb ts → ∀ K, Mc M .to ts K none r
  | .cl c, ts, some L, r => ∀ b K y s, b.u = some c → Mc M (.mk b L) r K y s → Mc M .to ts (b :: K) y s
  | .cl c, ts, none, r => ∀ b K, b.u = some c → Mc M .to ts (b :: K) none r
theorem isK_drop {ts : List Pk} : ∀ {k : Nat}, k < (nmL ts).length → isK 1 (ts.drop k) := by
  induction ts with
  | nil => intro k h; simp [nmL] at h
  | cons q r ih =>
    intro k h
    unfold nmL at h
    split at h
    · rename_i hq
      cases k with
      | zero => exact hq
      | succ k => exact ih (by simp only [List.length_cons] at h; omega)
    · simp at h
theorem Rd'.sim {R : Rl} {ts r : List Pk} {x : Option (List Tn)} (h : Rd' M R ts x r) : Sim M R ts x r := by
  induction h with
  | @e_verb ts r x h h1 i =>
    cases x with
    | none => exact fun K => .t_verb h (i (.inl rfl) [] K)
    | some X => exact fun K y s g => .t_verb h (i (.inl rfl) [] rfl K y s g)
  | e_bad h h1 i => exact fun K => i h K
  | @e_term ts r r' L x h h1 h2 i j =>
    cases x with
    | none => exact fun K => i.2 K _ _ (j K)
    | some X => exact fun K y s g => i.2 K y s (j i.1 K y s g)
  | a_end h => exact fun h2 K y s g => .f_done h2 h g
  | @a_op ts r L x h h1 i =>
    cases x with
    | none => exact fun K => .f_verb h (i (.inr rfl) [L] K)
    | some X => exact fun _ K y s g => .f_verb h (i (.inr rfl) [L] (by simp) K y s g)
  | o_bad h1 i => exact fun hk ls K => i hk ls K
  | @o_is k ts r r' L V x h1 h2 i j =>
    cases x with
    | none =>
      intro hk ls K
      obtain ⟨n, bs, rfl, i2⟩ := i hk
      exact i2 ls K _ _ (j _)
    | some X =>
      intro hk ls hl K y s g
      obtain ⟨n, bs, rfl, i2⟩ := i hk
      refine i2 ls K y s (j _ y s (.e_pop rfl ?_))
      have e : Bg.put ⟨n, bs ++ ls, none⟩ X = (n :: bs.flatten) ++ L ++ X := by
        unfold Bg.put
        simp [hl]
      rw [e]
      exact g
  | @v_one k q r r' x h h1 i =>
    cases x with
    | none => exact fun _ ls K => .v_one h (i ls K)
    | some X =>
      obtain ⟨n, rfl, i⟩ := i
      exact fun _ => ⟨n, [], by simp, fun ls K y s g => .v_one h (i ls K y s g)⟩
  | v_bad h ht h1 i => exact fun _ ls K => .v_body h ht (i _ _ rfl)
  | @v_body k q r r' r2 B x h ht h1 h2 i j =>
    cases x with
    | none =>
      exact fun hk ls K => .v_body h ht (i _ _ _ _ rfl (.k_verb hk (j _ K)))
    | some X =>
      obtain ⟨n, rfl, j⟩ := j
      exact fun hk => ⟨n, [B], by simp, fun ls K y s g => .v_body h ht (i _ _ _ _ rfl (.k_verb hk (j _ K y s g)))⟩
  | @d_none k v B ts h => exact ⟨_, rfl, fun ls K y s g => .d_no (fun q l e hq => by rw [e] at h; exact absurd hq h) g⟩
  | d_is h ht hc => exact ⟨_, rfl, fun ls K y s g => .d_is h ht hc g⟩
  | @d_bad k v B q r h ht =>
    refine fun ls K => .d_no (fun q' l e hq => by injection e with e1 e2; rw [← e1]; exact ht) (.t_bad ?_ ?_ ?_ ?_)
    · intro g; have g : q.k = 1 := g; omega
    · intro g; have g : q.k = 2 := g; omega
    · intro g; have g := g.1; omega
    · intro g; rcases (show q.k = 3 ∨ q.k = 4 ∨ (q.k = 6 ∧ q.t = [123]) from g) with g | g | g <;> omega
  | t_bad h1 i => exact i
  | @t_is ts r r' L x h1 h2 i j =>
    cases x with
    | none => exact fun _ K => i K _ _ (j K)
    | some X => exact ⟨j.1, fun K y s g => i K y s (j.2 K y s g)⟩
  | b_end h => exact ⟨h, fun K y s g => g⟩
  | b_bad h ht h1 i => exact fun K => .f_brk h ht (i _ _ rfl)
  | @b_is q r r' r2 L I x h ht h1 h2 i j =>
    have e : Bg.put ⟨nv 8 [] [] [], [L], some 93⟩ I = ⟨8, [], [], [], []⟩ :: (L ++ I) := by
      unfold Bg.put nv
      simp
    cases x with
    | none => exact fun K => .f_brk h ht (i _ _ _ _ rfl (.k_index rfl (by rw [e]; exact j K)))
    | some X => exact ⟨j.1, fun K y s g => .f_brk h ht (i _ _ _ _ rfl (.k_index rfl (by rw [e]; exact j.2 K y s g)))⟩
  | m_word h => exact fun K y s g => .t_word h g
  | @m_par q r r' x h ht h1 i =>
    cases x with
    | none => exact fun _ K => .t_par h ht (i _ _ rfl)
    | some X => exact fun K y s g => .t_par h ht (i _ _ _ _ rfl (.k_par rfl g))
  | m_bad h2 h6 h1 => exact fun hv K => .t_bad h1 h2 h6 hv
  | @m_many ts h =>
    intro hv K
    have e : ((nmL ts).take 100).length = 100 := by rw [List.length_take]; omega
    have h1 : isK 1 ts := isK_drop (k := 0) (by omega)
    refine .t_num h1 ?_
    rw [e]
    have h2 := isK_drop h
    cases hd : ts.drop 100 with
    | nil => rw [hd] at h2; exact h2.elim
    | cons q l =>
      rw [hd] at h2
      have h2 : q.k = 1 := h2
      refine .f_done (fun g => ?_) (fun g => ?_) (mc_stop (by omega) K)
      · have := g.1; omega
      · rcases (show q.k = 3 ∨ q.k = 4 ∨ (q.k = 6 ∧ q.t = [123]) from g) with g | g | g <;> omega
  | @m_nums ts h h1 =>
    intro K y s g
    have e : (nmL ts).take 100 = nmL ts := List.take_of_length_le h1
    refine .t_num (isK_drop (k := 0) h) ?_
    rw [e]
    exact g
  | c_bad h1 i => exact fun b K hb => i (b :: K)
  | c_not h1 h i => exact fun b K hb => i (b :: K) _ _ (.e_not hb h)
  | c_is h1 h ht i => exact fun b K y s hb g => i (b :: K) y s (.e_mark hb h ht g)
/-- How the machine begins. -/
inductive Hd (M : List UInt8 → List UInt8) : List Pk → Option (List Tn) → List Pk → Prop
  | assign {q w : Pk} {l r : List Pk} {x : Option (List Tn)} (h : q.k = 2) (h2 : w.k = 6) (ht : w.t = [58]) (h1 : Mc M .to l [⟨nv 5 [] [] q.t, [], none⟩] x r) : Hd M (q :: w :: l) x r
  | amend {q w : Pk} {l r : List Pk} {x : Option (List Tn)} (h : q.k = 2) (h2 : w.k = 6) (ht : w.t = [91]) (h1 : Mc M .to l [⟨nv 6 [] [] q.t, [], some 93⟩] x r) : Hd M (q :: w :: l) x r
  | defbad {q w : Pk} {l : List Pk} (h : q.k = 3) (h2 : w.k = 6) (ht : w.t = [58]) (h1 : ¬ isMk 123 l) : Hd M (q :: w :: l) none l
  | define {q w b : Pk} {l r : List Pk} {x : Option (List Tn)} (h : q.k = 3) (h2 : w.k = 6) (ht : w.t = [58]) (h3 : b.k = 6) (hb : b.t = [123]) (h1 : Mc M .to l [⟨nv 7 [] [] q.t, [], some 125⟩] x r) : Hd M (q :: w :: b :: l) x r
  | plain {ts r : List Pk} {x : Option (List Tn)} (h1 : ¬ (isK 2 ts ∧ (isMk 58 ts.tail ∨ isMk 91 ts.tail))) (h2 : ¬ (isK 3 ts ∧ isMk 58 ts.tail)) (h : Mc M .to ts [] x r) : Hd M ts x r
/-- What is told of a line: the tree, if nothing is left. -/
def told (x : Option (List Tn)) (r : List Pk) : Option (List Tn) := match r with | [] => x | _ :: _ => none
theorem told_none (r : List Pk) : told none r = none := by cases r <;> rfl
theorem told_end (X : List Tn) (r : List Pk) : Mc M (.dn X) r [] (told (some X) r) r := by
  cases r with
  | nil => exact .e_end
  | cons q r => exact .e_more (by simp)
theorem told_def {b : Bg} (X : List Tn) (r : List Pk) (hb : b.n.k = 7) : Mc M (.mk b X) r [] (told (some (b.put X)) r) r := by
  cases r with
  | nil => exact .k_def hb
  | cons q r => exact .k_more hb (.inl (by simp))
theorem put_one (n : Tn) (u : Option UInt8) (X : List Tn) : Bg.put ⟨n, [], u⟩ X = n :: X := by unfold Bg.put; simp
/-- The machine tells of a line what the grammar tells. -/
theorem Ln.run {ts r : List Pk} {x : Option (List Tn)} (h : Ln M ts x r) : Hd M ts (told x r) r := by
  cases h with
  | @assign q w l r x h h2 ht h1 =>
    refine .assign h h2 ht ?_
    cases x with
    | none => rw [Option.map_none, told_none]; exact h1.sim _
    | some X =>
      refine h1.sim _ _ _ (.e_pop rfl ?_)
      rw [put_one]
      exact told_end _ _
  | defbad h h2 ht h1 => rw [told_none]; exact .defbad h h2 ht h1
  | @define q w b l r x h h2 ht h3 hb h1 =>
    refine .define h h2 ht h3 hb ?_
    cases x with
    | none => rw [Option.map_none, told_none]; exact h1.sim _ _ rfl
    | some X =>
      refine h1.sim _ _ _ _ rfl ?_
      have := told_def (M := M) (b := ⟨nv 7 [] [] q.t, [], some 125⟩) X r rfl
      rw [put_one] at this
      exact this
  | idxbad h h2 ht h1 => rw [told_none]; exact .amend h h2 ht (h1.sim _ _ rfl)
  | @amend q w d l r1 r I x h h2 ht h1 h3 hd h4 =>
    refine .amend h h2 ht (h1.sim _ _ _ _ rfl (.k_amend rfl h3 hd ?_))
    cases x with
    | none => rw [Option.map_none, told_none]; exact h4.sim _
    | some X =>
      refine h4.sim _ _ _ (.e_pop rfl ?_)
      have e : Bg.put ⟨nv 6 [] [] q.t, [I], none⟩ X = ⟨6, [], [], q.t, []⟩ :: (I ++ X) := by
        unfold Bg.put nv
        simp
      rw [e]
      exact told_end _ _
  | ixbad h h2 ht h1 h3 h4 =>
    rw [told_none]
    exact .amend h h2 ht (h1.sim _ _ _ _ rfl (.k_name rfl h3 (h4.sim _)))
  | @index q w l r1 r2 r I L x h h2 ht h1 h3 h4 h5 =>
    refine .amend h h2 ht (h1.sim _ _ _ _ rfl (.k_name rfl h3 (h4.sim.2 _ _ _ ?_)))
    cases x with
    | none => rw [told_none]; exact h5.sim _
    | some X => exact h5.sim h4.sim.1 _ _ _ (told_end _ _)
  | @plain ts r x h1 h2 h =>
    refine .plain h1 h2 ?_
    cases x with
    | none => rw [told_none]; exact h.sim _
    | some X => exact h.sim _ _ _ (told_end _ _)
end Go.Proofs.Ytafdogcanjcbmaa
/-
  The machine's invariants, plainly: what is begun, how deep the trees are that are there, how many nodes. (Imports nothing of the program.)
-/
namespace Go.Proofs.Ytafdogcanjcbmaa
set_option linter.unusedVariables false
set_option linter.unusedSimpArgs false

def Flat (T : List Tn) : Prop := ∃ d, Dp T 1 d ∧ d ≤ 40
def Deep (T : List Tn) : Prop := ∃ d, Dp T 1 d ∧ 40 < d
theorem tr_or {T : List Tn} (h : Tr T) : Flat T ∨ Deep T := by
  obtain ⟨d, hd⟩ := h
  rcases Nat.lt_or_ge 40 d with h | h
  · exact .inr ⟨d, hd, h⟩
  · exact .inl ⟨d, hd, h⟩
theorem Flat.tr {T : List Tn} (h : Flat T) : Tr T := by obtain ⟨d, hd, _⟩ := h; exact ⟨d, hd⟩
theorem Deep.tr {T : List Tn} (h : Deep T) : Tr T := by obtain ⟨d, hd, _⟩ := h; exact ⟨d, hd⟩
theorem Deep.not {T : List Tn} (h : Deep T) : ¬ Flat T := by
  rintro ⟨e, he, h2⟩
  obtain ⟨d, hd, h1⟩ := h
  have := (hd.det he).2
  omega
/-- Trees one behind the other. -/
theorem dp_list : ∀ l : List (List Tn), (∀ t ∈ l, Tr t) → ∃ d, Dp l.flatten l.length d ∧ ∀ t ∈ l, ∀ e, Dp t 1 e → e ≤ d
  | [], _ => ⟨0, .nil, fun t h => by cases h⟩
  | t :: l, h => by
    obtain ⟨d1, h1⟩ := h t List.mem_cons_self
    obtain ⟨d2, h2, h3⟩ := dp_list l fun t ht => h t (List.mem_cons_of_mem _ ht)
    refine ⟨max d1 d2, ?_, fun u hu e he => ?_⟩
    · have := h1.app h2
      rw [Nat.add_comm] at this
      exact this
    · rcases List.mem_cons.1 hu with rfl | hu
      · have := (h1.det he).2
        omega
      · have := h3 u hu e he
        omega
theorem tree_put {n : Tn} {l : List (List Tn)} (h : ∀ t ∈ l, Tr t) (hn : kdT n = l.length) : Tr (n :: l.flatten) ∧ ∀ t ∈ l, Deep t → Deep (n :: l.flatten) := by
  obtain ⟨d, h1, h2⟩ := dp_list l h
  refine ⟨⟨_, .cons hn h1⟩, fun t ht => ?_⟩
  rintro ⟨e, he, h40⟩
  have := h2 t ht e he
  exact ⟨_, .cons hn h1, by omega⟩
/-- What is begun: how many trees are still missing. -/
def BgOk (b : Bg) : Prop :=
  (b.u = none ∧ 1 ≤ b.n.k ∧ b.n.k ≤ 8 ∧ kdT b.n = (b.ks.length : Int) + 1) ∨ (∃ c, b.u = some c ∧ (c = 41 ∨ c = 93 ∨ c = 125)) ∧
    ((b.n.k = 0 ∧ b.ks = []) ∨ (b.n.k = 7 ∧ b.ks = []) ∨ (b.n.k = 8 ∧ b.ks.length = 1) ∨ (b.n.k = 6 ∧ b.ks = []) ∨ ((b.n.k = 3 ∨ b.n.k = 4) ∧ b.n.v = [123] ∧ b.n.a = [] ∧ b.n.x = [] ∧ kdT b.n = (b.ks.length : Int) + 2))
def trs (K : List Bg) : List (List Tn) := K.flatMap Bg.ks
def wl (l : List (List Tn)) : Nat := (l.map List.length).sum
def wB (b : Bg) : Nat := (if b.n.k = 6 then 2 else 1) + wl b.ks
def wK (K : List Bg) : Nat := (K.map wB).sum
theorem wl_flat : ∀ l : List (List Tn), l.flatten.length = wl l
  | [] => rfl
  | t :: l => by
    rw [List.flatten_cons, List.length_append, wl_flat l]
    unfold wl
    simp
theorem wl_cons (t : List Tn) (l : List (List Tn)) : wl (t :: l) = t.length + wl l := by unfold wl; simp
theorem wl_app (l m : List (List Tn)) : wl (l ++ m) = wl l + wl m := by unfold wl; simp
/-- The invariant: trees that are there besides the stack's, how many parts are left. -/
structure Iv (dp : Bool) (N : Nat) (K : List Bg) (l : List (List Tn)) (m : Nat) : Prop where
  tr : ∀ t ∈ l ++ trs K, Tr t ∧ ∀ x ∈ t, x.ns.length ≤ 100
  fl : dp = false → ∀ t ∈ l ++ trs K, Flat t
  de : dp = true → ∃ t ∈ l ++ trs K, Deep t
  ok : ∀ b ∈ K, BgOk b
  wt : wK K + wl l + m ≤ N
variable {dp : Bool} {N m m' : Nat} {K : List Bg} {l : List (List Tn)}
theorem trs_cons (b : Bg) (K : List Bg) : trs (b :: K) = b.ks ++ trs K := by unfold trs; simp
theorem wK_cons (b : Bg) (K : List Bg) : wK (b :: K) = wB b + wK K := by unfold wK; simp
theorem Iv.less (h : Iv dp N K l m) (hm : m' ≤ m) : Iv dp N K l m' := { h with wt := Nat.le_trans (by omega) h.wt }
/-- Something is begun with the trees that are there. -/
theorem Iv.push (h : Iv dp N K l m) {b : Bg} (hk : b.ks = l) (hb : BgOk b) (hm : wB b + m' ≤ wl l + m) : Iv dp N (b :: K) [] m' := by
  refine ⟨?_, ?_, ?_, ?_, ?_⟩
  · rw [List.nil_append, trs_cons, hk]; exact h.tr
  · rw [List.nil_append, trs_cons, hk]; exact h.fl
  · rw [List.nil_append, trs_cons, hk]; exact h.de
  · intro c hc
    rcases List.mem_cons.1 hc with rfl | hc
    · exact hb
    · exact h.ok c hc
  · have := h.wt
    rw [wK_cons, show wl [] = 0 from rfl]
    omega
/-- A node without trees below it. -/
theorem Iv.leaf (h : Iv dp N K [] m) {n : Tn} (hk : n.k = 1 ∨ n.k = 2) (hn : n.ns.length ≤ 100) (hm : m' + 1 ≤ m) : Iv dp N K [[n]] m' := by
  have ht : Dp [n] 1 1 := .cons (k := 0) (by unfold kdT; rw [if_pos hk]; rfl) .nil
  refine ⟨?_, ?_, ?_, h.ok, ?_⟩
  · intro t hh
    rcases List.mem_cons.1 hh with rfl | hh
    · exact ⟨⟨1, ht⟩, fun x hx => by rcases List.mem_singleton.1 hx with rfl; exact hn⟩
    · exact h.tr t hh
  · intro hd t hh
    rcases List.mem_cons.1 hh with rfl | hh
    · exact ⟨1, ht, by omega⟩
    · exact h.fl hd t hh
  · intro hd
    obtain ⟨t, h1, h2⟩ := h.de hd
    exact ⟨t, List.mem_cons_of_mem _ h1, h2⟩
  · have := h.wt
    rw [wl_cons]
    simp only [List.length_singleton]
    rw [show wl [] = 0 from rfl] at *
    omega
/-- Trees are put below a node: D says whether it is too deep then. -/
theorem Iv.put {dp' : Bool} (h : Iv dp N K l m) {n : Tn} (hk : kdT n = l.length) (hn : n.ns.length ≤ 100) (hd : dp = true → dp' = true) (hd2 : dp = false → (dp' = true ↔ Deep (n :: l.flatten))) (hm : m' + 1 ≤ m) : Iv dp' N K [n :: l.flatten] m' := by
  obtain ⟨h1, h2⟩ := tree_put (fun t ht => (h.tr t (List.mem_append_left _ ht)).1) hk
  refine ⟨?_, ?_, ?_, h.ok, ?_⟩
  · intro t hh
    rcases List.mem_cons.1 hh with rfl | hh
    · refine ⟨h1, fun x hx => ?_⟩
      rcases List.mem_cons.1 hx with rfl | hx
      · exact hn
      · obtain ⟨t, ht, hx⟩ := List.mem_flatten.1 hx
        exact (h.tr t (List.mem_append_left _ ht)).2 x hx
    · exact h.tr t (List.mem_append_right _ hh)
  · intro hd'
    have hdf : dp = false := by cases dp with | false => rfl | true => rw [hd rfl] at hd'; cases hd'
    intro t hh
    rcases List.mem_cons.1 hh with rfl | hh
    · rcases tr_or h1 with h | h
      · exact h
      · rw [(hd2 hdf).2 h] at hd'; cases hd'
    · exact h.fl hdf t (List.mem_append_right _ hh)
  · intro hd'
    cases dp with
    | false => exact ⟨_, List.mem_cons_self, (hd2 rfl).1 hd'⟩
    | true =>
      obtain ⟨t, ht, hde⟩ := h.de rfl
      rcases List.mem_append.1 ht with ht | ht
      · exact ⟨_, List.mem_cons_self, h2 t ht hde⟩
      · exact ⟨t, List.mem_cons_of_mem _ ht, hde⟩
  · have := h.wt
    rw [wl_cons, show wl [] = 0 from rfl, List.length_cons, wl_flat]
    omega
/-- What was begun last is taken away: its trees, and the last one, are there. -/
theorem Iv.pop {b : Bg} {T : List Tn} (h : Iv dp N (b :: K) [T] m) : Iv dp N K (b.ks ++ [T]) (m + 1) ∧ BgOk b := by
  have perm : ∀ t, t ∈ (b.ks ++ [T]) ++ trs K ↔ t ∈ [T] ++ trs (b :: K) := by
    intro t
    rw [trs_cons]
    simp only [List.mem_append, List.mem_singleton]
    constructor
    · rintro ((h | h) | h)
      · exact .inr (.inl h)
      · exact .inl h
      · exact .inr (.inr h)
    · rintro (h | h | h)
      · exact .inl (.inr h)
      · exact .inl (.inl h)
      · exact .inr h
  refine ⟨⟨fun t ht => h.tr t ((perm t).1 ht), fun hd t ht => h.fl hd t ((perm t).1 ht), fun hd => ?_, fun c hc => h.ok c (List.mem_cons_of_mem _ hc), ?_⟩, h.ok b List.mem_cons_self⟩
  · obtain ⟨t, ht, hde⟩ := h.de hd
    exact ⟨t, (perm t).2 ht, hde⟩
  · have := h.wt
    rw [wK_cons] at this
    rw [wl_app]
    unfold wB at this
    have : 1 ≤ if b.n.k = 6 then 2 else 1 := by split <;> omega
    omega
/-- The same, its own node not counted: an Amend's counts two. -/
theorem Iv.pop6 {b : Bg} {T : List Tn} (h : Iv dp N (b :: K) [T] m) (hb : b.n.k = 6) : Iv dp N K (b.ks ++ [T]) (m + 2) := by
  have := h.pop.1
  refine { this with wt := ?_ }
  have := h.wt
  rw [wK_cons] at this
  rw [wl_app]
  unfold wB at this
  rw [if_pos hb] at this
  omega
theorem Iv.size {T : List Tn} (h : Iv dp N K [T] m) : T.length ≤ N := by
  have := h.wt
  rw [wl_cons] at this
  omega
theorem Iv.kids {l1 : List (List Tn)} (h : Iv dp N K (l1) m) : wl l1 ≤ N := by have := h.wt; omega
theorem Iv.start (N : Nat) : Iv false N [] [] N := ⟨(fun t h => by cases h), (fun _ t h => by cases h), (fun h => by cases h), (fun b h => by cases h), by unfold wK wl; simp⟩
/-- At the end it is the tree alone that tells. -/
theorem Iv.last {T : List Tn} (h : Iv dp N [] [T] m) : ∃ d, Dp T 1 d ∧ (dp = true ↔ 40 < d) := by
  obtain ⟨d, hd⟩ := (h.tr T (by simp)).1
  refine ⟨d, hd, fun e => ?_, fun h40 => ?_⟩
  · obtain ⟨t, ht, e, he, h1⟩ := h.de e
    have ht : t = T := by simpa [trs] using ht
    subst ht
    have := (hd.det he).2
    omega
  · cases dp with
    | true => rfl
    | false => exact absurd (h.fl rfl T (by simp)) (Deep.not ⟨d, hd, h40⟩)
end Go.Proofs.Ytafdogcanjcbmaa

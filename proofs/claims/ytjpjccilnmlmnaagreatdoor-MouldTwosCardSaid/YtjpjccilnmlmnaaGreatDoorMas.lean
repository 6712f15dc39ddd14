import Derived.Test.YtjpjccilnmlmnaaGreatDoorMal
import Derived.Test.YtjpjccilnmlmnaaGreatDoorMam
import Derived.Test.YtjpjccilnmlmnaaGreatDoorMar
import Derived.Deep.RegionLaw
import Derived.Deep.AppendLies
/-
  Arrays as what signs are done with: their axes, and their elements as numbers; or none, if they may not be. Slices cloned, with what they may hold. (Where spread is there too, its texts have most of this.)
-/
namespace Go.Proofs.YtjpjccilnmlmnaaGreatDoor
set_option linter.unusedVariables false
set_option linter.unusedSimpArgs false
open Go.RowKit

theorem nums_of {es : List ByteArray} (h : ∀ s ∈ es, mayL s.data.toList = true) : ∃ xs : List Int, es = xs.map S ∧ ∀ x ∈ xs, x.natAbs < lim := by
  induction es with
  | nil => exact ⟨[], rfl, fun x hx => by cases hx⟩
  | cons s r ih =>
    obtain ⟨xs, h1, h2⟩ := ih fun t ht => h t (List.mem_cons_of_mem _ ht)
    obtain ⟨x, hx, hl⟩ := mayL_is (h s (List.mem_cons_self ..))
    have e : s = S x := by
      obtain ⟨⟨d⟩⟩ := s
      show _ = (⟨(Lib.itoa x).toArray⟩ : ByteArray)
      have : d = Lib.itoa x := hx
      rw [this]
    refine ⟨x :: xs, by rw [h1, e]; rfl, ?_⟩
    intro y hy
    rcases List.mem_cons.1 hy with rfl | hy
    · exact hl
    · exact h2 y hy
/-- What an array is: these axes and numbers, or none. -/
def AIs (l : List Int) (es : List ByteArray) : Option Ar → Prop
  | some q => q.1 = l ∧ es = q.2.map S ∧ MayVl l es ∧ ∀ x ∈ q.2, x.natAbs < lim
  | none => mayV l es = false
theorem ais_ex (l : List Int) (es : List ByteArray) : ∃ o, AIs l es o := by
  cases h : mayV l es
  · exact ⟨none, h⟩
  · have hm := mayV_yes.1 h
    obtain ⟨xs, h1, h2⟩ := nums_of (es := es) fun s hs => by
      obtain ⟨j, hj, rfl⟩ := List.getElem_of_mem hs
      have := hm.all j hj
      rwa [List.getD_eq_getElem?_getD, List.getElem?_eq_getElem hj] at this
    exact ⟨some (l, xs), rfl, h1, hm, h2⟩
theorem AIs.may {l : List Int} {es : List ByteArray} {o : Option Ar} (h : AIs l es o) : mayV l es = o.isSome := by
  cases o with
  | none => exact h
  | some q => exact mayV_yes.2 h.2.2.1
/-- The axes and the elements that are told. -/
def TS (o : Option Ar) : List Int × List ByteArray := match o with
  | some q => (q.1, q.2.map S)
  | none => ([], [])
/-- An array and an error are told, new, and nothing that was there has turned. -/
def AEnd (l : List Int) (es : List ByteArray) (ec : Int) (W : World) (e : Ending) (W' : World) : Prop :=
  ∃ a n c b m d, e = .returned (.tuple #[.agg #[.slice a n c, .slice b m d], .int .i64 ec]) ∧ Vl W' a n b m l es ∧ Cp n c m d ∧ Below W.heap.size W W'
theorem valsS_snoc (l : List ByteArray) (s : ByteArray) : valsS (l ++ [s]) = valsS l ++ [.string s] := by simp [valsS]
theorem Bx.newG (W : World) (g : Nat) (hg : g = W.heap.size) (a : Option Addr) (n c : Nat) (b : Option Addr) (m d : Nat) : Bx (W.alloc (.cells #[.slice a n c, .slice b m d] 25)) g a n c b m d := by rw [hg]; exact Bx.new W a n c b m d
theorem Bx.set1 {W : World} {g : Nat} {a : Option Addr} {n c : Nat} {b : Option Addr} {m d : Nat} (h : Bx W g a n c b m d) (b' : Option Addr) (m' d' : Nat) : Bx (W.setCell ⟨g, 1, none⟩ (.slice b' m' d')) g a n c b' m' d' := by
  unfold Bx at h ⊢
  simp [World.setCell, Array.getElem?_modify, h]
theorem ais_none : AIs [] [] none := by show mayV [] [] = false; decide
theorem mayL_S {x : Int} (h : x.natAbs < lim) : mayL (S x).data.toList = true := by
  have hi : Is (S x) (some x) := ⟨rfl, h⟩
  exact hi.may
/-- Axes that may be, and as many numbers, not too large: an array that may be. -/
theorem ais_of {l xs : List Int} (h : szE l = 0) (hl : (xs.length : Int) = pr l) (hb : ∀ x ∈ xs, x.natAbs < lim) : AIs l (xs.map S) (some (l, xs)) := by
  refine ⟨rfl, rfl, ⟨h, by rw [List.length_map]; exact hl, fun j hj => ?_⟩, hb⟩
  rw [List.length_map] at hj
  rw [List.getD_eq_getElem?_getD, List.getElem?_map, List.getElem?_eq_getElem hj]
  exact mayL_S (hb _ (List.getElem_mem hj))
theorem AIs.len {l : List Int} {es : List ByteArray} {q : Ar} (h : AIs l es (some q)) : q.1 = l ∧ es.length = q.2.length ∧ szE l = 0 ∧ (q.2.length : Int) = pr l ∧ ∀ x ∈ q.2, x.natAbs < lim := by
  obtain ⟨h1, h2, h3, h4⟩ := h
  have e : es.length = q.2.length := by rw [h2, List.length_map]
  exact ⟨h1, e, h3.e, by rw [← e]; exact h3.len, h4⟩
theorem getD_S {xs : List Int} {j : Nat} (hj : j < xs.length) : (xs.map S).getD j ByteArray.empty = S (xs.getD j 0) := by
  simp [List.getD_eq_getElem?_getD, List.getElem?_eq_getElem hj]
theorem getD_bd {xs : List Int} (h : ∀ x ∈ xs, x.natAbs < lim) (j : Nat) : (xs.getD j 0).natAbs < lim := by
  rw [List.getD_eq_getElem?_getD]
  cases e : xs[j]? with
  | none => simp; exact Nat.lt_of_lt_of_le (by decide) lim_big
  | some x => exact h x (List.mem_of_getElem? e)

theorem ais_sz {l : List Int} {es : List ByteArray} {q : Ar} (h : AIs l es (some q)) {m : Nat} (hm : m = es.length) : ∀ j, j < m → (es.getD j ByteArray.empty).size ≤ maxLen := by
  intro j hj
  obtain ⟨_, h2, _, h4⟩ := h
  have hl : j < q.2.length := by rw [hm, h2, List.length_map] at hj; exact hj
  rw [h2, getD_S hl]
  exact (show Is (S (q.2.getD j 0)) (some (q.2.getD j 0)) from ⟨rfl, getD_bd h4 j⟩).size
theorem own_caps {w : World} {base n c : Nat} {a : Option Addr} {e : TypeId} {xs : List Value} (h : w.ownsRow base e 1 (.slice a n c) n xs) : n ≤ c ∧ c ≤ maxLen := by
  rcases h.2 with ⟨e, h0⟩ | ⟨g, cap, cur, e, _, _, h1, h2, _⟩
  · injection e with _ _ e
    subst e
    exact ⟨by omega, by unfold maxLen; omega⟩
  · injection e with _ _ e
    subst e
    exact ⟨h1, h2⟩
theorem owns_ss {w : World} {base n : Nat} {v : Value} {es : List ByteArray} (h : w.ownsRow base 9 1 v n (valsS es)) : ∃ a c, v = .slice a n c ∧ St w a n es := by
  obtain ⟨a, c, rfl⟩ := own_form h
  exact ⟨a, c, rfl, own_st h⟩
/-- A slice of the call's own. -/
def OwI (W W' : World) (a : Option Addr) (n c : Nat) (l : List Int) : Prop := W'.ownsRow W.heap.size 3 1 (.slice a n c) n (valsI l)
def OwS (W W' : World) (a : Option Addr) (n c : Nat) (l : List ByteArray) : Prop := W'.ownsRow W.heap.size 9 1 (.slice a n c) n (valsS l)
def ClI (n : Nat) (l : List Int) (W : World) (x : Ending) (W' : World) : Prop := ∃ a c, x = .returned (.slice a n c) ∧ OwI W W' a n c l ∧ Below W.heap.size W W'
def ClS (n : Nat) (l : List ByteArray) (W : World) (x : Ending) (W' : World) : Prop := ∃ a c, x = .returned (.slice a n c) ∧ OwS W W' a n c l ∧ Below W.heap.size W W'
theorem Clone_o (a : Option Addr) (n c : Nat) (l : List Int) (W : World) (h : Sl W a n l) (hn : n ≤ 1000000) : Calls Tryz.prog 41 #[.slice a n c] W (ClI n l W) := by
  have hl := h.1
  subst hl
  rcases a with _ | a
  · have h0 : l.length = 0 := by
      rcases Nat.eq_zero_or_pos l.length with h0 | h0
      · exact h0
      · obtain ⟨b, off, e, _⟩ := h.2 h0; cases e
    obtain rfl := List.length_eq_zero_iff.1 h0
    refine (Tryz.slices_Clone_int_nil 0 c W).mono ?_
    rintro x w ⟨rfl, rfl⟩
    exact ⟨none, 0, rfl, World.ownsRow_nil _ _ _ _, Below.refl _ _⟩
  · by_cases h0 : l.length = 0
    · obtain rfl := List.length_eq_zero_iff.1 h0
      refine (Tryz.slices_Clone_int_zero a c W).mono ?_
      rintro x w ⟨v', rfl, hown, _, hb⟩
      obtain ⟨a', c', rfl⟩ := own_form hown
      exact ⟨a', c', rfl, hown, hb⟩
    · obtain ⟨b, off, e, hc⟩ := h.2 (by omega)
      injection e with e
      subst e
      refine (Tryz.slices_Clone_int b off l.length c l W (Nat.le_refl _) (by omega) (fun j hj => hc j hj)).mono ?_
      rintro x w ⟨v', rfl, hown, _, hb⟩
      rw [List.take_of_length_le (Nat.le_refl _)] at hown
      obtain ⟨a', c', rfl⟩ := own_form hown
      exact ⟨a', c', rfl, hown, hb⟩
theorem CloneS_o (a : Option Addr) (n c : Nat) (es : List ByteArray) (W : World) (h : St W a n es) (hn : n ≤ 1000000) : Calls Tryz.prog 71 #[.slice a n c] W (ClS n es W) := by
  have hl := h.1
  subst hl
  rcases a with _ | a
  · have h0 : es.length = 0 := by
      rcases Nat.eq_zero_or_pos es.length with h0 | h0
      · exact h0
      · obtain ⟨b, off, e, _⟩ := h.2 h0; cases e
    obtain rfl := List.length_eq_zero_iff.1 h0
    refine (Tryz.slices_Clone_string_nil 0 c W).mono ?_
    rintro x w ⟨rfl, rfl⟩
    exact ⟨none, 0, rfl, World.ownsRow_nil _ _ _ _, Below.refl _ _⟩
  · by_cases h0 : es.length = 0
    · obtain rfl := List.length_eq_zero_iff.1 h0
      refine (Tryz.slices_Clone_string_zero a c W).mono ?_
      rintro x w ⟨v', rfl, hown, _, hb⟩
      obtain ⟨a', c', rfl⟩ := own_form hown
      exact ⟨a', c', rfl, hown, hb⟩
    · obtain ⟨b, off, e, hc⟩ := h.2 (by omega)
      injection e with e
      subst e
      refine (Tryz.slices_Clone_string b off es.length c es W (Nat.le_refl _) (by omega) (fun j hj => hc j hj)).mono ?_
      rintro x w ⟨v', rfl, hown, _, hb⟩
      rw [List.take_of_length_le (Nat.le_refl _)] at hown
      obtain ⟨a', c', rfl⟩ := own_form hown
      exact ⟨a', c', rfl, hown, hb⟩
/-- A slice of the call's own may be read, and told. -/
theorem OwI.sl {W w : World} {a : Option Addr} {n c : Nat} {l : List Int} (h : OwI W w a n c l) : Sl w a n l := own_sl h
theorem OwS.st {W w : World} {a : Option Addr} {n c : Nat} {l : List ByteArray} (h : OwS W w a n c l) : St w a n l := own_st h
theorem OwI.caps {W w : World} {a : Option Addr} {n c : Nat} {l : List Int} (h : OwI W w a n c l) : n ≤ c ∧ c ≤ maxLen := own_caps h
theorem OwS.caps {W w : World} {a : Option Addr} {n c : Nat} {l : List ByteArray} (h : OwS W w a n c l) : n ≤ c ∧ c ≤ maxLen := own_caps h
/-- An array that may be handed on: its slices, what they may hold, and what it is. -/
structure Av (W : World) (a : Option Addr) (n c : Nat) (b : Option Addr) (m d : Nat) (l : List Int) (es : List ByteArray) (o : Option Ar) : Prop where
  v : Vl W a n b m l es
  c : Cp n c m d
  z : ∀ j, j < m → (es.getD j ByteArray.empty).size ≤ maxLen
  i : AIs l es o
/-- What a sign tells is an array, if it is one. -/
def Rok : Option Ar → Prop
  | none => True
  | some q => szE q.1 = 0 ∧ (q.2.length : Int) = pr q.1 ∧ ∀ x ∈ q.2, x.natAbs < lim
theorem Rok.ais : ∀ {o : Option Ar}, Rok o → AIs (TS o).1 (TS o).2 o
  | none, _ => ais_none
  | some _, h => ais_of h.1 h.2.1 h.2.2
theorem AIs.rok {l : List Int} {es : List ByteArray} : ∀ {o : Option Ar}, AIs l es o → Rok o
  | none, _ => trivial
  | some _, h => by
    obtain ⟨h1, _, h3, h4, h5⟩ := h.len
    exact ⟨by rw [h1]; exact h3, by rw [h1]; exact h4, h5⟩
theorem Rok.sz {o : Option Ar} (h : Rok o) {m : Nat} (hm : m = (TS o).2.length) : ∀ j, j < m → ((TS o).2.getD j ByteArray.empty).size ≤ maxLen := by
  cases o with
  | none => intro j hj; rw [hm] at hj; cases hj
  | some q => exact ais_sz h.ais hm
section
variable {W w : World} {a b : Option Addr} {n c m d : Nat} {l : List Int} {es : List ByteArray} {o : Option Ar} {q : Ar}
theorem Av.below (h : Av W a n c b m d l es o) (hb : Below W.heap.size W w) : Av w a n c b m d l es o := ⟨h.v.below hb, h.c, h.z, h.i⟩
theorem Av.stb : Stb fun w => Av w a n c b m d l es o := fun _ _ h hb => h.below hb
theorem Av.no (h : Av W a n c b m d l es none) : mayV l es = false := h.i
theorem Av.may (h : Av W a n c b m d l es (some q)) : mayV l es = true := h.i.may
theorem Av.sz (h : Av W a n c b m d l es (some q)) : szE l = 0 := h.i.len.2.2.1
theorem Av.fst (h : Av W a n c b m d l es (some q)) : q.1 = l := h.i.1
theorem Av.n3 (h : Av W a n c b m d l es (some q)) : n ≤ 3 := may_n3 h.sz h.v.s.1
theorem Av.mlen (h : Av W a n c b m d l es (some q)) : m = q.2.length ∧ (m : Int) = pr l ∧ m ≤ 4096 := by
  obtain ⟨h1, h2, h3, h4, _⟩ := h.i.len
  have e := h.v.t.1
  have h5 := (may_pr h3).2
  exact ⟨by omega, by omega, by omega⟩
theorem Av.fits (h : Av W a n c b m d l es (some q)) : Fits q.1 q.2 := by
  obtain ⟨h1, _, h3, h4, _⟩ := h.i.len
  exact ⟨by rw [h1]; exact szE_may.1 h3, by rw [h1]; exact h4⟩
/-- An array and an error are told. -/
def MEnd (r : Option Ar × Int) (W : World) (e : Ending) (W' : World) : Prop :=
  ∃ a n c b m d, e = .returned (.tuple #[.agg #[.slice a n c, .slice b m d], .int .i64 r.2]) ∧ Av W' a n c b m d (TS r.1).1 (TS r.1).2 r.1 ∧ Below W.heap.size W W'
/-- What is stored into the result's box, and told. -/
theorem mend_box {g n0 c0 m0 d0 : Nat} {a0 b0 : Option Addr} {r : Option Ar × Int} (h : Bx w g a0 n0 c0 b0 m0 d0) (hb : Below W.heap.size W w) (hg : W.heap.size ≤ g) (hv : Vl w a n b m (TS r.1).1 (TS r.1).2) (hc : Cp n c m d) (hr : Rok r.1) :
    MEnd r W (.returned (.tuple #[.agg #[.slice a n c, .slice b m d], .int .i64 r.2])) ((w.setCell ⟨g, 0, none⟩ (.slice a n c)).setCell ⟨g, 1, none⟩ (.slice b m d)) :=
  ⟨a, n, c, b, m, d, rfl, ⟨⟨h.sl hv.s _ _, h.st hv.t _ _, hv.mm⟩, hc, hr.sz hv.t.1.symm, hr.ais⟩, below_made hb hg _ _⟩
theorem cp0 : Cp 0 0 0 0 := ⟨by omega, by unfold maxLen; omega, by omega, by unfold maxLen; omega⟩
theorem mend_no {g n0 c0 m0 d0 : Nat} {a0 b0 : Option Addr} {k : Int} (h : Bx w g a0 n0 c0 b0 m0 d0) (hb : Below W.heap.size W w) (hg : W.heap.size ≤ g) :
    MEnd (none, k) W (.returned (.tuple #[.agg #[.slice none 0 0, .slice none 0 0], .int .i64 k])) ((w.setCell ⟨g, 0, none⟩ (.slice none 0 0)).setCell ⟨g, 1, none⟩ (.slice none 0 0)) :=
  mend_box (r := (none, k)) h hb hg (Vl.none_ w) cp0 trivial
/-- One array comes in, and a box for what is told. -/
theorem live1 (W : World) (a : Option Addr) (n c : Nat) (b : Option Addr) (m d : Nat) :
    Lv (fun w => Bx w (W.heap.size + 1) none 0 0 none 0 0 ∧ Bx w W.heap.size a n c b m d ∧ Below W.heap.size W w) ((W.alloc (.cells #[.slice a n c, .slice b m d] 25)).alloc (.cells #[.slice none 0 0, .slice none 0 0] 25)) :=
  ⟨⟨Bx.two W _ _ _ _ _ _ _, (Bx.new W a n c b m d).alloc _, ((Below.refl _ _).alloc (Nat.le_refl _) _).alloc (by simp) _⟩⟩
/-- Two arrays come in, and a box for what is told. -/
theorem live2 (W : World) (a : Option Addr) (n c : Nat) (b : Option Addr) (m d : Nat) (a2 : Option Addr) (n2 c2 : Nat) (b2 : Option Addr) (m2 d2 : Nat) :
    Lv (fun w => Bx w (W.heap.size + 1 + 1) none 0 0 none 0 0 ∧ Bx w (W.heap.size + 1) a2 n2 c2 b2 m2 d2 ∧ Bx w W.heap.size a n c b m d ∧ Below W.heap.size W w)
      (((W.alloc (.cells #[.slice a n c, .slice b m d] 25)).alloc (.cells #[.slice a2 n2 c2, .slice b2 m2 d2] 25)).alloc (.cells #[.slice none 0 0, .slice none 0 0] 25)) := by
  have h2 := Bx.two (W.alloc (.cells #[.slice a n c, .slice b m d] 25)) (.cells #[.slice a2 n2 c2, .slice b2 m2 d2] 25) none 0 0 none 0 0
  rw [World.size_alloc] at h2
  exact ⟨⟨h2, (Bx.two W _ _ _ _ _ _ _).alloc _, ((Bx.new W a n c b m d).alloc _).alloc _, (((Below.refl _ _).alloc (Nat.le_refl _) _).alloc (by simp) _).alloc (by simp; omega) _⟩⟩
end
end Go.Proofs.YtjpjccilnmlmnaaGreatDoor

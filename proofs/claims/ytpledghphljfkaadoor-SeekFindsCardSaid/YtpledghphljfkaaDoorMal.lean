import Derived.Test.YtpledghphljfkaaDoorMaj
import Derived.Test.YtpledghphljfkaaDoorMak
import Derived.Test.YtpledghphljfkaaDoorMai
import Derived.Deep.RegionLaw
import Derived.Deep.AppendLies
import Derived.Test.YtpledghphljfkaaDoorMah
import Derived.WalkKit
import Derived.WalkSpells
import Derived.WalkLawsBesides
import Derived.Lib.Hide
import Derived.BigQuiet
import Derived.Deep.QuietTactic
import Derived.Deep.RegionWith
import Derived.Deep.OwnRows
/-
  What stays behind a call, as one: what is live is carried by one lemma.
-/
namespace Go.Proofs.YtpledghphljfkaaDoor
set_option linter.unusedVariables false
set_option linter.unusedSimpArgs false
open Go.RowKit

def Stb (P : World → Prop) : Prop := ∀ w w', P w → Below w.heap.size w w' → P w'
theorem Stb.and {P Q : World → Prop} (h : Stb P) (g : Stb Q) : Stb fun w => P w ∧ Q w := fun w w' k hb => ⟨h w w' k.1 hb, g w w' k.2 hb⟩
theorem Stb.bel (W : World) : Stb fun w => Below W.heap.size W w := fun _ _ h hb => h.trans (hb.mono h.size)
theorem Stb.bx {g : Nat} {a b : Option Addr} {n c m d : Nat} : Stb fun w => Bx w g a n c b m d := fun _ _ h hb => h.below hb h.lt
theorem Stb.vl {a b : Option Addr} {n m : Nat} {l : List Int} {es : List ByteArray} : Stb fun w => Vl w a n b m l es := fun _ _ h hb => h.below hb
theorem Stb.triv {p : Prop} : Stb fun _ => p := fun _ _ h _ => h
/-- What is live at a world, as one. -/
structure Lv (P : World → Prop) (w : World) : Prop where
  out : P w
theorem live {P : World → Prop} {w : World} {f : FuncId} {args : Array Value} {R : Ending → World → Prop} (h : Lv P w) (hc : Calls Tryd.prog f args w fun e w' => R e w' ∧ Below w.heap.size w w')
    (hs : Stb P := by repeat' (first | exact Stb.bel _ | exact Stb.bx | exact Stb.vl | refine Stb.and ?_ ?_ | exact Stb.triv)) : Calls Tryd.prog f args w fun e w' => R e w' ∧ Lv P w' := hc.mono fun _ _ k => ⟨k.1, ⟨hs _ _ h.out k.2⟩⟩
/-- An array that is told is laid into a box: what is live then. -/
theorem live_box {P : World → Prop} {w : World} {a b : Option Addr} {n m : Nat} {l : List Int} {es : List ByteArray} (h : Lv P w) (hv : Vl w a n b m l es) (c d : Nat)
    (hs : Stb P := by repeat' (first | exact Stb.bel _ | exact Stb.bx | exact Stb.vl | refine Stb.and ?_ ?_ | exact Stb.triv)) :
    Lv (fun w' => Bx w' w.heap.size a n c b m d ∧ Vl w' a n b m l es ∧ P w') (w.alloc (.cells #[.slice a n c, .slice b m d] 25)) :=
  have hb : Below w.heap.size w (w.alloc (.cells #[.slice a n c, .slice b m d] 25)) := (Below.refl _ _).alloc (Nat.le_refl _) _
  ⟨⟨Bx.new _ _ _ _ _ _ _, hv.below hb, hs _ _ h.out hb⟩⟩
/-- A law's array, laid into a box. -/
theorem live_one {a b : Option Addr} {n m : Nat} {l : List Int} {es : List ByteArray} (W : World) (hv : Vl W a n b m l es) (c d : Nat) :
    Lv (fun w' => Bx w' W.heap.size a n c b m d ∧ Vl w' a n b m l es ∧ Below W.heap.size W w') (W.alloc (.cells #[.slice a n c, .slice b m d] 25)) := live_box ⟨Below.refl _ _⟩ hv c d
end Go.Proofs.YtpledghphljfkaaDoor
/-
  Arrays as what signs are done with: their axes, and their elements as numbers; or none, if they may not be. Slices cloned, with what they may hold. (Where spread is there too, its texts have most of this.)
-/
namespace Go.Proofs.YtpledghphljfkaaDoor
set_option linter.unusedVariables false
set_option linter.unusedSimpArgs false
open Go.RowKit

theorem nums_of {es : List ByteArray} (h : ∀ s ∈ es, mayL s.data.toList = true) : ∃ xs : List Int, es = xs.map S ∧ ∀ x ∈ xs, x.natAbs < lim := by
  induction es with
  | nil => exact ⟨[], rfl, fun x hx => by cases hx⟩
  | cons s r ih =>
    obtain ⟨xs, h1, h2⟩ := ih fun t ht => h t (List.mem_cons_of_mem _ ht)
    obtain ⟨x, hx, hl⟩ := mayL_is (h s (List.mem_cons_self ..))
    have e : s = S x := by
      obtain ⟨⟨d⟩⟩ := s
      show _ = (⟨(Lib.itoa x).toArray⟩ : ByteArray)
      have : d = Lib.itoa x := hx
      rw [this]
    refine ⟨x :: xs, by rw [h1, e]; rfl, ?_⟩
    intro y hy
    rcases List.mem_cons.1 hy with rfl | hy
    · exact hl
    · exact h2 y hy
/-- What an array is: these axes and numbers, or none. -/
def AIs (l : List Int) (es : List ByteArray) : Option Ar → Prop
  | some q => q.1 = l ∧ es = q.2.map S ∧ MayVl l es ∧ ∀ x ∈ q.2, x.natAbs < lim
  | none => mayV l es = false
theorem ais_ex (l : List Int) (es : List ByteArray) : ∃ o, AIs l es o := by
  cases h : mayV l es
  · exact ⟨none, h⟩
  · have hm := mayV_yes.1 h
    obtain ⟨xs, h1, h2⟩ := nums_of (es := es) fun s hs => by
      obtain ⟨j, hj, rfl⟩ := List.getElem_of_mem hs
      have := hm.all j hj
      rwa [List.getD_eq_getElem?_getD, List.getElem?_eq_getElem hj] at this
    exact ⟨some (l, xs), rfl, h1, hm, h2⟩
theorem AIs.may {l : List Int} {es : List ByteArray} {o : Option Ar} (h : AIs l es o) : mayV l es = o.isSome := by
  cases o with
  | none => exact h
  | some q => exact mayV_yes.2 h.2.2.1
/-- The axes and the elements that are told. -/
def TS (o : Option Ar) : List Int × List ByteArray := match o with
  | some q => (q.1, q.2.map S)
  | none => ([], [])
/-- An array and an error are told, new, and nothing that was there has turned. -/
def AEnd (l : List Int) (es : List ByteArray) (ec : Int) (W : World) (e : Ending) (W' : World) : Prop :=
  ∃ a n c b m d, e = .returned (.tuple #[.agg #[.slice a n c, .slice b m d], .int .i64 ec]) ∧ Vl W' a n b m l es ∧ Cp n c m d ∧ Below W.heap.size W W'
theorem valsS_snoc (l : List ByteArray) (s : ByteArray) : valsS (l ++ [s]) = valsS l ++ [.string s] := by simp [valsS]
theorem Bx.newG (W : World) (g : Nat) (hg : g = W.heap.size) (a : Option Addr) (n c : Nat) (b : Option Addr) (m d : Nat) : Bx (W.alloc (.cells #[.slice a n c, .slice b m d] 25)) g a n c b m d := by rw [hg]; exact Bx.new W a n c b m d
theorem Bx.set1 {W : World} {g : Nat} {a : Option Addr} {n c : Nat} {b : Option Addr} {m d : Nat} (h : Bx W g a n c b m d) (b' : Option Addr) (m' d' : Nat) : Bx (W.setCell ⟨g, 1, none⟩ (.slice b' m' d')) g a n c b' m' d' := by
  unfold Bx at h ⊢
  simp [World.setCell, Array.getElem?_modify, h]
theorem ais_none : AIs [] [] none := by show mayV [] [] = false; decide
theorem mayL_S {x : Int} (h : x.natAbs < lim) : mayL (S x).data.toList = true := by
  have hi : Is (S x) (some x) := ⟨rfl, h⟩
  exact hi.may
/-- Axes that may be, and as many numbers, not too large: an array that may be. -/
theorem ais_of {l xs : List Int} (h : szE l = 0) (hl : (xs.length : Int) = pr l) (hb : ∀ x ∈ xs, x.natAbs < lim) : AIs l (xs.map S) (some (l, xs)) := by
  refine ⟨rfl, rfl, ⟨h, by rw [List.length_map]; exact hl, fun j hj => ?_⟩, hb⟩
  rw [List.length_map] at hj
  rw [List.getD_eq_getElem?_getD, List.getElem?_map, List.getElem?_eq_getElem hj]
  exact mayL_S (hb _ (List.getElem_mem hj))
theorem AIs.len {l : List Int} {es : List ByteArray} {q : Ar} (h : AIs l es (some q)) : q.1 = l ∧ es.length = q.2.length ∧ szE l = 0 ∧ (q.2.length : Int) = pr l ∧ ∀ x ∈ q.2, x.natAbs < lim := by
  obtain ⟨h1, h2, h3, h4⟩ := h
  have e : es.length = q.2.length := by rw [h2, List.length_map]
  exact ⟨h1, e, h3.e, by rw [← e]; exact h3.len, h4⟩
theorem getD_S {xs : List Int} {j : Nat} (hj : j < xs.length) : (xs.map S).getD j ByteArray.empty = S (xs.getD j 0) := by
  simp [List.getD_eq_getElem?_getD, List.getElem?_eq_getElem hj]
theorem getD_bd {xs : List Int} (h : ∀ x ∈ xs, x.natAbs < lim) (j : Nat) : (xs.getD j 0).natAbs < lim := by
  rw [List.getD_eq_getElem?_getD]
  cases e : xs[j]? with
  | none => simp; exact Nat.lt_of_lt_of_le (by decide) lim_big
  | some x => exact h x (List.mem_of_getElem? e)

theorem ais_sz {l : List Int} {es : List ByteArray} {q : Ar} (h : AIs l es (some q)) {m : Nat} (hm : m = es.length) : ∀ j, j < m → (es.getD j ByteArray.empty).size ≤ maxLen := by
  intro j hj
  obtain ⟨_, h2, _, h4⟩ := h
  have hl : j < q.2.length := by rw [hm, h2, List.length_map] at hj; exact hj
  rw [h2, getD_S hl]
  exact (show Is (S (q.2.getD j 0)) (some (q.2.getD j 0)) from ⟨rfl, getD_bd h4 j⟩).size
theorem own_caps {w : World} {base n c : Nat} {a : Option Addr} {e : TypeId} {xs : List Value} (h : w.ownsRow base e 1 (.slice a n c) n xs) : n ≤ c ∧ c ≤ maxLen := by
  rcases h.2 with ⟨e, h0⟩ | ⟨g, cap, cur, e, _, _, h1, h2, _⟩
  · injection e with _ _ e
    subst e
    exact ⟨by omega, by unfold maxLen; omega⟩
  · injection e with _ _ e
    subst e
    exact ⟨h1, h2⟩
theorem owns_ss {w : World} {base n : Nat} {v : Value} {es : List ByteArray} (h : w.ownsRow base 9 1 v n (valsS es)) : ∃ a c, v = .slice a n c ∧ St w a n es := by
  obtain ⟨a, c, rfl⟩ := own_form h
  exact ⟨a, c, rfl, own_st h⟩
/-- A slice of the call's own. -/
def OwI (W W' : World) (a : Option Addr) (n c : Nat) (l : List Int) : Prop := W'.ownsRow W.heap.size 3 1 (.slice a n c) n (valsI l)
def OwS (W W' : World) (a : Option Addr) (n c : Nat) (l : List ByteArray) : Prop := W'.ownsRow W.heap.size 9 1 (.slice a n c) n (valsS l)
def ClI (n : Nat) (l : List Int) (W : World) (x : Ending) (W' : World) : Prop := ∃ a c, x = .returned (.slice a n c) ∧ OwI W W' a n c l ∧ Below W.heap.size W W'
def ClS (n : Nat) (l : List ByteArray) (W : World) (x : Ending) (W' : World) : Prop := ∃ a c, x = .returned (.slice a n c) ∧ OwS W W' a n c l ∧ Below W.heap.size W W'
theorem Clone_o (a : Option Addr) (n c : Nat) (l : List Int) (W : World) (h : Sl W a n l) (hn : n ≤ 1000000) : Calls Tryd.prog 33 #[.slice a n c] W (ClI n l W) := by
  have hl := h.1
  subst hl
  rcases a with _ | a
  · have h0 : l.length = 0 := by
      rcases Nat.eq_zero_or_pos l.length with h0 | h0
      · exact h0
      · obtain ⟨b, off, e, _⟩ := h.2 h0; cases e
    obtain rfl := List.length_eq_zero_iff.1 h0
    refine (Tryd.slices_Clone_int_nil 0 c W).mono ?_
    rintro x w ⟨rfl, rfl⟩
    exact ⟨none, 0, rfl, World.ownsRow_nil _ _ _ _, Below.refl _ _⟩
  · by_cases h0 : l.length = 0
    · obtain rfl := List.length_eq_zero_iff.1 h0
      refine (Tryd.slices_Clone_int_zero a c W).mono ?_
      rintro x w ⟨v', rfl, hown, _, hb⟩
      obtain ⟨a', c', rfl⟩ := own_form hown
      exact ⟨a', c', rfl, hown, hb⟩
    · obtain ⟨b, off, e, hc⟩ := h.2 (by omega)
      injection e with e
      subst e
      refine (Tryd.slices_Clone_int b off l.length c l W (Nat.le_refl _) (by omega) (fun j hj => hc j hj)).mono ?_
      rintro x w ⟨v', rfl, hown, _, hb⟩
      rw [List.take_of_length_le (Nat.le_refl _)] at hown
      obtain ⟨a', c', rfl⟩ := own_form hown
      exact ⟨a', c', rfl, hown, hb⟩
theorem CloneS_o (a : Option Addr) (n c : Nat) (es : List ByteArray) (W : World) (h : St W a n es) (hn : n ≤ 1000000) : Calls Tryd.prog 50 #[.slice a n c] W (ClS n es W) := by
  have hl := h.1
  subst hl
  rcases a with _ | a
  · have h0 : es.length = 0 := by
      rcases Nat.eq_zero_or_pos es.length with h0 | h0
      · exact h0
      · obtain ⟨b, off, e, _⟩ := h.2 h0; cases e
    obtain rfl := List.length_eq_zero_iff.1 h0
    refine (Tryd.slices_Clone_string_nil 0 c W).mono ?_
    rintro x w ⟨rfl, rfl⟩
    exact ⟨none, 0, rfl, World.ownsRow_nil _ _ _ _, Below.refl _ _⟩
  · by_cases h0 : es.length = 0
    · obtain rfl := List.length_eq_zero_iff.1 h0
      refine (Tryd.slices_Clone_string_zero a c W).mono ?_
      rintro x w ⟨v', rfl, hown, _, hb⟩
      obtain ⟨a', c', rfl⟩ := own_form hown
      exact ⟨a', c', rfl, hown, hb⟩
    · obtain ⟨b, off, e, hc⟩ := h.2 (by omega)
      injection e with e
      subst e
      refine (Tryd.slices_Clone_string b off es.length c es W (Nat.le_refl _) (by omega) (fun j hj => hc j hj)).mono ?_
      rintro x w ⟨v', rfl, hown, _, hb⟩
      rw [List.take_of_length_le (Nat.le_refl _)] at hown
      obtain ⟨a', c', rfl⟩ := own_form hown
      exact ⟨a', c', rfl, hown, hb⟩
/-- A slice of the call's own may be read, and told. -/
theorem OwI.sl {W w : World} {a : Option Addr} {n c : Nat} {l : List Int} (h : OwI W w a n c l) : Sl w a n l := own_sl h
theorem OwS.st {W w : World} {a : Option Addr} {n c : Nat} {l : List ByteArray} (h : OwS W w a n c l) : St w a n l := own_st h
theorem OwI.caps {W w : World} {a : Option Addr} {n c : Nat} {l : List Int} (h : OwI W w a n c l) : n ≤ c ∧ c ≤ maxLen := own_caps h
theorem OwS.caps {W w : World} {a : Option Addr} {n c : Nat} {l : List ByteArray} (h : OwS W w a n c l) : n ≤ c ∧ c ≤ maxLen := own_caps h
/-- An array that may be handed on: its slices, what they may hold, and what it is. -/
structure Av (W : World) (a : Option Addr) (n c : Nat) (b : Option Addr) (m d : Nat) (l : List Int) (es : List ByteArray) (o : Option Ar) : Prop where
  v : Vl W a n b m l es
  c : Cp n c m d
  z : ∀ j, j < m → (es.getD j ByteArray.empty).size ≤ maxLen
  i : AIs l es o
/-- What a sign tells is an array, if it is one. -/
def Rok : Option Ar → Prop
  | none => True
  | some q => szE q.1 = 0 ∧ (q.2.length : Int) = pr q.1 ∧ ∀ x ∈ q.2, x.natAbs < lim
theorem Rok.ais : ∀ {o : Option Ar}, Rok o → AIs (TS o).1 (TS o).2 o
  | none, _ => ais_none
  | some _, h => ais_of h.1 h.2.1 h.2.2
theorem AIs.rok {l : List Int} {es : List ByteArray} : ∀ {o : Option Ar}, AIs l es o → Rok o
  | none, _ => trivial
  | some _, h => by
    obtain ⟨h1, _, h3, h4, h5⟩ := h.len
    exact ⟨by rw [h1]; exact h3, by rw [h1]; exact h4, h5⟩
theorem Rok.sz {o : Option Ar} (h : Rok o) {m : Nat} (hm : m = (TS o).2.length) : ∀ j, j < m → ((TS o).2.getD j ByteArray.empty).size ≤ maxLen := by
  cases o with
  | none => intro j hj; rw [hm] at hj; cases hj
  | some q => exact ais_sz h.ais hm
section
variable {W w : World} {a b : Option Addr} {n c m d : Nat} {l : List Int} {es : List ByteArray} {o : Option Ar} {q : Ar}
theorem Av.below (h : Av W a n c b m d l es o) (hb : Below W.heap.size W w) : Av w a n c b m d l es o := ⟨h.v.below hb, h.c, h.z, h.i⟩
theorem Av.stb : Stb fun w => Av w a n c b m d l es o := fun _ _ h hb => h.below hb
theorem Av.no (h : Av W a n c b m d l es none) : mayV l es = false := h.i
theorem Av.may (h : Av W a n c b m d l es (some q)) : mayV l es = true := h.i.may
theorem Av.sz (h : Av W a n c b m d l es (some q)) : szE l = 0 := h.i.len.2.2.1
theorem Av.fst (h : Av W a n c b m d l es (some q)) : q.1 = l := h.i.1
theorem Av.n3 (h : Av W a n c b m d l es (some q)) : n ≤ 3 := may_n3 h.sz h.v.s.1
theorem Av.mlen (h : Av W a n c b m d l es (some q)) : m = q.2.length ∧ (m : Int) = pr l ∧ m ≤ 4096 := by
  obtain ⟨h1, h2, h3, h4, _⟩ := h.i.len
  have e := h.v.t.1
  have h5 := (may_pr h3).2
  exact ⟨by omega, by omega, by omega⟩
theorem Av.fits (h : Av W a n c b m d l es (some q)) : Fits q.1 q.2 := by
  obtain ⟨h1, _, h3, h4, _⟩ := h.i.len
  exact ⟨by rw [h1]; exact szE_may.1 h3, by rw [h1]; exact h4⟩
/-- An array and an error are told. -/
def MEnd (r : Option Ar × Int) (W : World) (e : Ending) (W' : World) : Prop :=
  ∃ a n c b m d, e = .returned (.tuple #[.agg #[.slice a n c, .slice b m d], .int .i64 r.2]) ∧ Av W' a n c b m d (TS r.1).1 (TS r.1).2 r.1 ∧ Below W.heap.size W W'
/-- What is stored into the result's box, and told. -/
theorem mend_box {g n0 c0 m0 d0 : Nat} {a0 b0 : Option Addr} {r : Option Ar × Int} (h : Bx w g a0 n0 c0 b0 m0 d0) (hb : Below W.heap.size W w) (hg : W.heap.size ≤ g) (hv : Vl w a n b m (TS r.1).1 (TS r.1).2) (hc : Cp n c m d) (hr : Rok r.1) :
    MEnd r W (.returned (.tuple #[.agg #[.slice a n c, .slice b m d], .int .i64 r.2])) ((w.setCell ⟨g, 0, none⟩ (.slice a n c)).setCell ⟨g, 1, none⟩ (.slice b m d)) :=
  ⟨a, n, c, b, m, d, rfl, ⟨⟨h.sl hv.s _ _, h.st hv.t _ _, hv.mm⟩, hc, hr.sz hv.t.1.symm, hr.ais⟩, below_made hb hg _ _⟩
theorem cp0 : Cp 0 0 0 0 := ⟨by omega, by unfold maxLen; omega, by omega, by unfold maxLen; omega⟩
theorem mend_no {g n0 c0 m0 d0 : Nat} {a0 b0 : Option Addr} {k : Int} (h : Bx w g a0 n0 c0 b0 m0 d0) (hb : Below W.heap.size W w) (hg : W.heap.size ≤ g) :
    MEnd (none, k) W (.returned (.tuple #[.agg #[.slice none 0 0, .slice none 0 0], .int .i64 k])) ((w.setCell ⟨g, 0, none⟩ (.slice none 0 0)).setCell ⟨g, 1, none⟩ (.slice none 0 0)) :=
  mend_box (r := (none, k)) h hb hg (Vl.none_ w) cp0 trivial
/-- One array comes in, and a box for what is told. -/
theorem live1 (W : World) (a : Option Addr) (n c : Nat) (b : Option Addr) (m d : Nat) :
    Lv (fun w => Bx w (W.heap.size + 1) none 0 0 none 0 0 ∧ Bx w W.heap.size a n c b m d ∧ Below W.heap.size W w) ((W.alloc (.cells #[.slice a n c, .slice b m d] 25)).alloc (.cells #[.slice none 0 0, .slice none 0 0] 25)) :=
  ⟨⟨Bx.two W _ _ _ _ _ _ _, (Bx.new W a n c b m d).alloc _, ((Below.refl _ _).alloc (Nat.le_refl _) _).alloc (by simp) _⟩⟩
/-- Two arrays come in, and a box for what is told. -/
theorem live2 (W : World) (a : Option Addr) (n c : Nat) (b : Option Addr) (m d : Nat) (a2 : Option Addr) (n2 c2 : Nat) (b2 : Option Addr) (m2 d2 : Nat) :
    Lv (fun w => Bx w (W.heap.size + 1 + 1) none 0 0 none 0 0 ∧ Bx w (W.heap.size + 1) a2 n2 c2 b2 m2 d2 ∧ Bx w W.heap.size a n c b m d ∧ Below W.heap.size W w)
      (((W.alloc (.cells #[.slice a n c, .slice b m d] 25)).alloc (.cells #[.slice a2 n2 c2, .slice b2 m2 d2] 25)).alloc (.cells #[.slice none 0 0, .slice none 0 0] 25)) := by
  have h2 := Bx.two (W.alloc (.cells #[.slice a n c, .slice b m d] 25)) (.cells #[.slice a2 n2 c2, .slice b2 m2 d2] 25) none 0 0 none 0 0
  rw [World.size_alloc] at h2
  exact ⟨⟨h2, (Bx.two W _ _ _ _ _ _ _).alloc _, ((Bx.new W a n c b m d).alloc _).alloc _, (((Below.refl _ _).alloc (Nat.le_refl _) _).alloc (by simp) _).alloc (by simp; omega) _⟩⟩
end
end Go.Proofs.YtpledghphljfkaaDoor
namespace Go.Proofs.YtpledghphljfkaaDoor
set_option linter.unusedVariables false
set_option linter.unusedSimpArgs false
section
open Go.RowKit
theorem SDrawn.sl {w w' : World} (h : SDrawn w w') {a : Option Addr} {n : Nat} {l : List Int} (hs : Sl w a n l) : Sl w' a n l := by obtain ⟨m, rfl⟩ := h; exact hs
theorem ofB_in {l t : List Int} {k : Nat} (hk : k < l.length) (h : t.getD k 0 < 0 ∨ l.getD k 0 ≤ t.getD k 0) : ofB l t = false ∧ ofV l t = 0 := by
  have e : ofB l t = false := by unfold ofB; rw [inL_not hk h]; simp
  exact ⟨e, by unfold ofV; rw [e]; rfl⟩
theorem ofB_bad {l t : List Int} (h : szE l ≠ 0 ∨ l.length ≠ t.length) : ofB l t = false ∧ ofV l t = 0 := by
  have e : ofB l t = false := by
    unfold ofB
    rcases h with h | h
    · rw [decide_eq_false h]; rfl
    · rw [decide_eq_false h]; simp
  exact ⟨e, by unfold ofV; rw [e]; rfl⟩
def OffIs (f : Nat) (a1 a2 : Option Addr) (n c m d : Nat) (v : Int) (b : Bool) (W : World) : Prop :=
  Calls Tryd.prog f #[.slice a1 n c, .slice a2 m d] W fun x W' => x = .returned (.tuple #[.int .i64 v, .bool b]) ∧ SDrawn W W'
end
section
open Go.RowKit
theorem infoInt : (Tryd.prog.info? 3).map (fun i => (i.zero, i.size, i.bytes)) = some (some (.int .i64 0), 1, 8) := by kernel_rfl
theorem run_mk (n : Nat) (hn : n ≤ 20) (w : World) :
    (Instr.makeSlice 22 (.int .i64 (n : Int)) (.int .i64 (n : Int))).run Tryd.prog w = .ok (.slice (some ⟨w.heap.size, 0, none⟩) n n) (w.alloc (.cells (madeCells #[.int .i64 0] n) 3)) :=
  run_make_row' 22 3 _ 8 Tryd.underlying22 infoInt rfl _ _ n (by omega) (by omega) w
def upd (F : Nat → Int) (i : Nat) (x : Int) : Nat → Int := fun j => if j = i then x else F j
theorem SRw.frozen {w : World} {g N : Nat} {F : Nat → Int} (h : SRw w g N F) (i : Nat) : w.frozen? ⟨g, i, none⟩ = false := World.rowIs.frozen h i
theorem SRw.set {w : World} {g N : Nat} {F : Nat → Int} (h : SRw w g N F) (i : Nat) (v : Int) : SRw (w.setCell ⟨g, i, none⟩ (.int .i64 v)) g N (upd F i v) := by
  refine (World.rowIs.set h i _).congr fun j _ => ?_
  unfold upd
  split <;> rfl
theorem SRw.made (w : World) (n : Nat) : SRw (w.alloc (.cells (madeCells #[.int .i64 0] n) 3)) w.heap.size n (fun _ => 0) := World.rowIs_made w _ n _
theorem SRw.sl {w : World} {g N : Nat} {F : Nat → Int} (h : SRw w g N F) {l : List Int} (hl : l.length = N) (e : ∀ j, j < N → F j = l.getD j 0) : Sl w (some ⟨g, 0, none⟩) N l :=
  ⟨hl, fun _ => ⟨g, 0, rfl, fun j hj => by rw [Nat.zero_add, h.cell hj, e j hj]⟩⟩
def plB (l : List Int) (k : Int) : Bool := decide (szE l = 0) && (decide (0 ≤ k) && decide (k < pr l))
def plO (l : List Int) (k : Int) : List Int := if plB l k then plL l k else []
def PlPost (b : Bool) (p : List Int) (W : World) (x : Ending) (W' : World) : Prop := ∃ a' n' c', x = .returned (.tuple #[.slice a' n' c', .bool b]) ∧ Sl W' a' n' p ∧ n' ≤ 20 ∧ Below W.heap.size W W'
def PlIs (f : Nat) (a : Option Addr) (n c : Nat) (k : Int) (b : Bool) (p : List Int) (W : World) : Prop := Calls Tryd.prog f #[.slice a n c, .int .i64 k] W (PlPost b p W)
theorem plB_no {l : List Int} {k : Int} (h : szE l ≠ 0 ∨ k < 0 ∨ pr l ≤ k) : plB l k = false ∧ plO l k = [] := by
  have e : plB l k = false := by
    unfold plB
    rcases h with h | h | h
    · rw [decide_eq_false h]; rfl
    · rw [decide_eq_false (show ¬ 0 ≤ k by omega)]; simp
    · rw [decide_eq_false (show ¬ k < pr l by omega)]; simp
  exact ⟨e, by unfold plO; rw [e]; rfl⟩
theorem plB_yes {l : List Int} {k : Int} (h : szE l = 0) (h0 : 0 ≤ k) (h1 : k < pr l) : plB l k = true ∧ plO l k = plL l k := by
  have e : plB l k = true := by unfold plB; rw [decide_eq_true h, decide_eq_true h0, decide_eq_true h1]; rfl
  exact ⟨e, by unfold plO; rw [e]; rfl⟩
/-- What Place tells, of the call's own. -/
def PlOwn (b : Bool) (p : List Int) (W : World) (x : Ending) (W' : World) : Prop := ∃ a' c', x = .returned (.tuple #[.slice a' p.length c', .bool b]) ∧ W'.ownsRow W.heap.size 3 1 (.slice a' p.length c') p.length (valsI p) ∧ Below W.heap.size W W'
def PlOw (f : Nat) (a : Option Addr) (n c : Nat) (k : Int) (b : Bool) (p : List Int) (W : World) : Prop := Calls Tryd.prog f #[.slice a n c, .int .i64 k] W (PlOwn b p W)
theorem SRw.own {w : World} {B g n : Nat} {F : Nat → Int} (h : SRw w g n F) {l : List Int} (hl : l.length = n) (e : ∀ j, j < n → F j = l.getD j 0) (hg : B ≤ g) (hn : n ≤ maxLen) : w.ownsRow B 3 1 (.slice (some ⟨g, 0, none⟩) n n) n (valsI l) := by
  obtain ⟨c, hc, hs, hv⟩ := h
  refine ⟨by simp [valsI, hl], .inr ⟨g, n, c, rfl, hg, hc, Nat.le_refl _, hn, by rw [hs, Nat.mul_one], ?_⟩⟩
  apply List.ext_getElem?
  intro j
  by_cases hj : j < n
  · rw [List.getElem?_take_of_lt (by omega), Array.getElem?_toList, hv j hj]
    show some (Value.int .i64 (F j)) = _
    rw [e j hj]
    simp [valsI, List.getD_eq_getElem?_getD, List.getElem?_eq_getElem (show j < l.length by omega)]
  · rw [List.getElem?_eq_none (by rw [List.length_take]; omega), List.getElem?_eq_none (by simp [valsI]; omega)]
end
end Go.Proofs.YtpledghphljfkaaDoor
/-
  mould's helpers: a list cut with three indexes, how many elements an item has; shape.Items, Place, slices.Reverse, with what is of the call's own.
-/
namespace Go.Proofs.YtpledghphljfkaaDoor
set_option linter.unusedVariables false
set_option linter.unusedSimpArgs false
open Go.RowKit

/-! ### cut -/
def cutA (b : Option Addr) (f t : Nat) : Option Addr := if t = f then b else b.map (·.add f)
theorem run_cut {T e : TypeId} (ht : Tryd.prog.underlying T = some (.slice e)) (hs : ∀ w, (Go.sizeOf e).run Tryd.prog w = .ok 1 w) (a : Option Addr) (n c f t : Nat) (h1 : f ≤ t) (h2 : t ≤ c) (w : World) :
    (Instr.slice T (.slice a n c) (some (.int .i64 (f : Int))) (some (.int .i64 (t : Int))) (some (.int .i64 (t : Int)))).run Tryd.prog w = .ok (.slice (cutA a f t) (t - f) (t - f)) w := by
  simp [Instr.slice, Instr.sliceBounds, Instr.sliceBound, run_underlying ht, hs, asIntOf, h1, h2, cutA]
theorem sizeInt (w : World) : (Go.sizeOf 3).run Tryd.prog w = .ok 1 w := by
  obtain ⟨i0, hi, _, hz1, _⟩ := info_parts infoInt1
  simp [Go.sizeOf, typeInfo, hi, hz1]
theorem sizeStr (w : World) : (Go.sizeOf 9).run Tryd.prog w = .ok 1 w := by
  obtain ⟨i0, hi, _, hz1, _⟩ := info_parts infoStr
  simp [Go.sizeOf, typeInfo, hi, hz1]
def CutEnd (b : Option Addr) (f t : Nat) (W : World) (x : Ending) (W' : World) : Prop := x = .returned (.slice (cutA b f t) (t - f) (t - f)) ∧ W = W'
theorem St.cut {W : World} {b : Option Addr} {m f t : Nat} {es : List ByteArray} (h : St W b m es) (h1 : f ≤ t) (h2 : t ≤ m) : St W (cutA b f t) (t - f) ((es.drop f).take (t - f)) := by
  refine ⟨by rw [List.length_take, List.length_drop, h.1]; omega, fun hp => ?_⟩
  obtain ⟨bb, off, rfl, hc⟩ := h.2 (by omega)
  refine ⟨bb, off + f, ?_, fun j hj => ?_⟩
  · unfold cutA
    rw [if_neg (by omega)]
    show some ((⟨bb, off, none⟩ : Addr).add f) = _
    rw [Lib.add_plain]
  · rw [Nat.add_assoc, hc (f + j) (by omega)]
    simp only [List.getD_eq_getElem?_getD, List.getElem?_take_of_lt hj, List.getElem?_drop]
theorem Sl.cut {W : World} {b : Option Addr} {m f t : Nat} {l : List Int} (h : Sl W b m l) (h1 : f ≤ t) (h2 : t ≤ m) : Sl W (cutA b f t) (t - f) ((l.drop f).take (t - f)) := by
  refine ⟨by rw [List.length_take, List.length_drop, h.1]; omega, fun hp => ?_⟩
  obtain ⟨bb, off, rfl, hc⟩ := h.2 (by omega)
  refine ⟨bb, off + f, ?_, fun j hj => ?_⟩
  · unfold cutA
    rw [if_neg (by omega)]
    show some ((⟨bb, off, none⟩ : Addr).add f) = _
    rw [Lib.add_plain]
  · rw [Nat.add_assoc, hc (f + j) (by omega)]
    simp only [List.getD_eq_getElem?_getD, List.getElem?_take_of_lt hj, List.getElem?_drop]
theorem Sl.cut1 {W : World} {b : Option Addr} {m : Nat} {l : List Int} (h : Sl W b m l) (h1 : 1 ≤ m) : Sl W (cutA b 1 m) (m - 1) l.tail := by
  have := h.cut h1 (Nat.le_refl m)
  rwa [List.drop_one, List.take_of_length_le (by rw [List.length_tail, h.1]; exact Nat.le_refl _)] at this

/-! ### itemSize -/
/-- How many items, as a number; how many elements each has, if there is one. -/
def mN (l : List Int) : Nat := (itV l).toNat
def iS (l : List Int) (m : Nat) : Nat := if m = 0 then 0 else kI l
theorem Fits.all {α : Type} {l : List Int} {es : List α} (h : Fits l es) : es.length = mN l * kI l ∧ ((mN l : Nat) : Int) = itV l := by
  by_cases hl : l = []
  · subst hl
    have := h.2
    refine ⟨?_, rfl⟩
    show _ = 1 * 1
    simp [pr] at this
    omega
  · have e : itV l = l.getD 0 0 := if_neg fun h => hl (List.length_eq_zero_iff.1 h)
    have e2 : mN l = nI l := by unfold mN nI; rw [e]
    rw [e2]
    exact ⟨h.cut hl, by rw [e]; exact nI_head hl h.1⟩
theorem maM_is (l : List Int) : maM l = itV l := rfl
section
variable {W : World} {a b : Option Addr} {n c m d : Nat} {l : List Int} {es : List ByteArray} {o : Option Ar} {q : Ar}
theorem Av.items (h : Av W a n c b m d l es (some q)) : m = mN l * kI l ∧ ((mN l : Nat) : Int) = itV l ∧ mN l ≤ 1099511627776 ∧ m = mN l * iS l m := by
  have hf := h.fits
  rw [h.fst] at hf
  obtain ⟨h1, h2⟩ := hf.all
  have h3 := h.mlen.1
  have e : itV l ≤ 1099511627776 := by
    unfold itV
    split
    · omega
    · exact hf.1.le 0 (by omega)
  refine ⟨by omega, h2, by omega, ?_⟩
  unfold iS
  split
  · omega
  · omega
end

/-! ### Items, with what is of the call's own -/
def ItO (v : Int) (n : Nat) (l : List Int) (W : World) (x : Ending) (W' : World) : Prop := ∃ a c, x = .returned (.tuple #[.int .i64 v, .slice a n c]) ∧ OwI W W' a n c l ∧ Below W.heap.size W W'
set_option maxRecDepth 10000 in
set_option maxHeartbeats 800000 in
theorem Items_o (a : Option Addr) (n c : Nat) (l : List Int) (W : World) (h : Sl W a n l) (hn : n ≤ 20) (hc : n ≤ c) (hc2 : c ≤ maxLen) :
    Calls Tryd.prog 24 #[.slice a n c] W (ItO (itV l) (n - 1) l.tail W) := by
  unfold maxLen at hc2
  by_cases h0 : n = 0
  · subst h0
    obtain rfl := List.length_eq_zero_iff.1 h.1
    clear h
    rw [show itV [] = 1 from rfl, List.tail_nil]
    go_enter Tryd.func24, Tryd.ntmps24
    go_wp2_with fail
    go_ret2
    exact ⟨none, 0, rfl, World.ownsRow_nil _ _ _ _, Below.refl _ _⟩
  · obtain ⟨b, off, rfl, hcell⟩ := h.2 (by omega)
    have HT := Lib.hid (h.tail (by omega))
    have hv : itV l = l.getD 0 0 := if_neg (by rw [h.1]; exact h0)
    rw [hv]
    have hc0 := hcell 0 (by omega)
    rw [Nat.add_zero] at hc0
    have hlt : b < W.heap.size := World.block_lt_of_cell? W _ hc0
    generalize l.getD 0 0 = v at hc0 ⊢
    clear hv hcell h
    have e1 : (n : Int) ≠ 0 := by omega
    have e2 : (0 : Int) < n := by omega
    by_cases h1 : c = 1
    · subst h1
      obtain rfl : n = 1 := by omega
      have KC := Lib.hid (fun w a c => Clone_o a (1 - 1) c l.tail w ⟨HT.out.1, fun h => by omega⟩ (by omega))
      go_enter Tryd.func24, Tryd.ntmps24
      go_wp2_with fail
      go_region_with (go_at_call 33; refine (KC.out _ _ _).mono ?_; rintro e w2 ⟨a', c', rfl, hs, hb2⟩; have hc2 : w2.cell? ⟨b, off, none⟩ = some (.int .i64 v) := (hb2.cell (p := ⟨b, off, none⟩) (by exact hlt)).trans hc0)
      all_goals
        go_wp2_with fail
        go_ret2
        exact ⟨_, _, rfl, hs, ⟨hb2.os, hb2.tape, hb2.output, hb2.size, hb2.block⟩⟩
    · have KC := Lib.hid (fun w c (hw : Below W.heap.size W w) => Clone_o _ (n - 1) c l.tail w (HT.out.below hw) (by omega))
      go_enter Tryd.func24, Tryd.ntmps24
      go_wp2_with fail
      go_region_with (go_at_call 33; refine (KC.out _ _ (by exact (Below.refl _ _).drew)).mono ?_; rintro e w2 ⟨a', c', rfl, hs, hb2⟩; have hc2 : w2.cell? ⟨b, off, none⟩ = some (.int .i64 v) := (hb2.cell (p := ⟨b, off, none⟩) (by exact hlt)).trans hc0)
      all_goals
        go_wp2_with fail
        go_ret2
        exact ⟨_, _, rfl, hs, ⟨hb2.os, hb2.tape, hb2.output, hb2.size, hb2.block⟩⟩
end Go.Proofs.YtpledghphljfkaaDoor

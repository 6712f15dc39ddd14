import Derived.Test.YtpledghphljfkaaDoorMaq
import Derived.Test.YtpledghphljfkaaDoorMan
import Derived.Test.YtpledghphljfkaaDoorMao
import Derived.BigQuiet
import Derived.BigRegion
/-
  An append of one number or text as a step of a region that draws, with all that it leaves; the reference's Item, by its contract.
-/
namespace Go.Proofs.YtpledghphljfkaaDoor
set_option linter.unusedVariables false
set_option linter.unusedSimpArgs false
open Go.RowKit

theorem Stb.sl {a : Option Addr} {n : Nat} {l : List Int} : Stb fun w => Sl w a n l := fun _ _ h hb => h.below hb
theorem Stb.st {a : Option Addr} {n : Nat} {l : List ByteArray} : Stb fun w => St w a n l := fun _ _ h hb => h.below hb
theorem liveS {P : World → Prop} {w : World} {f : FuncId} {args : Array Value} {R : Ending → World → Prop} (h : Lv P w) (hc : Calls Tryd.prog f args w fun e w' => R e w' ∧ Below w.heap.size w w')
    (hs : Stb P := by repeat' (first | exact Stb.bel _ | exact Stb.bx | exact Stb.vl | exact Stb.sl | exact Stb.st | refine Stb.and ?_ ?_ | exact Stb.triv)) : Calls Tryd.prog f args w fun e w' => R e w' ∧ Lv P w' := hc.mono fun _ _ k => ⟨k.1, ⟨hs _ _ h.out k.2⟩⟩
theorem live_it2 {P : World → Prop} {w : World} {f : FuncId} {args : Array Value} {v : Int} {l : List Int} (h : Lv P w) (hc : Calls Tryd.prog f args w (ItPost v l w)) (hs : Stb P := by repeat' (first | exact Stb.bel _ | exact Stb.bx | exact Stb.vl | exact Stb.sl | exact Stb.st | refine Stb.and ?_ ?_ | exact Stb.triv)) :
    Calls Tryd.prog f args w fun e w' => ∃ a n c, e = .returned (.tuple #[.int .i64 v, .slice a n c]) ∧ Lv (fun z => Sl z a n l ∧ P z) w' ∧ n ≤ 20 :=
  hc.mono fun _ _ ⟨a, n, c, h1, h2, h3, h4⟩ => ⟨a, n, c, h1, ⟨h2, hs _ _ h.out h4⟩, h3⟩
theorem live_belS {P : World → Prop} {w w' : World} {B : Nat} (h : Lv P w) (hb : Below B w w') (hB : w.heap.size ≤ B) (hs : Stb P := by repeat' (first | exact Stb.bel _ | exact Stb.bx | exact Stb.vl | exact Stb.sl | exact Stb.st | refine Stb.and ?_ ?_ | exact Stb.triv)) : Lv P w' := ⟨hs _ _ h.out (hb.mono hB)⟩
/-- What lies elsewhere than in a box stays when the box is stored into. -/
theorem Bx.far1 {w : World} {g n c m d : Nat} {a b : Option Addr} (h : Bx w g a n c b m d) {p : Addr} {x : Value} (hp : w.cell? p = some x) (hx : ∀ a n c, x ≠ .slice a n c) {i : Nat} (hi : i = 0 ∨ i = 1) (u : Value) : (w.setCell ⟨g, i, none⟩ u).cell? p = some x := by
  have p1 : p ≠ ⟨g, i, none⟩ := by
    rintro rfl
    rcases hi with rfl | rfl
    · rw [h.c0] at hp
      injection hp with hp
      exact hx _ _ _ hp.symm
    · rw [h.c1] at hp
      injection hp with hp
      exact hx _ _ _ hp.symm
  rw [World.cell?_setCell_other _ _ _ _ p1.symm, hp]
theorem Bx.sl1 {w : World} {g n c m d : Nat} {a b : Option Addr} (h : Bx w g a n c b m d) {a' : Option Addr} {n' : Nat} {l : List Int} (hs : Sl w a' n' l) {i : Nat} (hi : i = 0 ∨ i = 1) (u : Value) : Sl (w.setCell ⟨g, i, none⟩ u) a' n' l :=
  ⟨hs.1, fun h0 => by obtain ⟨bb, off, e, hc⟩ := hs.2 h0; exact ⟨bb, off, e, fun j hj => h.far1 (hc j hj) (fun _ _ _ e => by cases e) hi u⟩⟩
theorem Bx.st1 {w : World} {g n c m d : Nat} {a b : Option Addr} (h : Bx w g a n c b m d) {a' : Option Addr} {n' : Nat} {l : List ByteArray} (hs : St w a' n' l) {i : Nat} (hi : i = 0 ∨ i = 1) (u : Value) : St (w.setCell ⟨g, i, none⟩ u) a' n' l :=
  ⟨hs.1, fun h0 => by obtain ⟨bb, off, e, hc⟩ := hs.2 h0; exact ⟨bb, off, e, fun j hj => h.far1 (hc j hj) (fun _ _ _ e => by cases e) hi u⟩⟩
/-- A row of numbers or texts doesn't lie in a box: it stays, whatever is put there. -/
theorem own_set_bx {w : World} {B N : Nat} {e : TypeId} {v : Value} {xs : List Value} (ho : w.ownsRow B e 1 v N xs) (he : e ≠ 25) {g n c m d : Nat} {a b : Option Addr} (hB : Bx w g a n c b m d) (i : Nat) (u : Value) : (w.setCell ⟨g, i, none⟩ u).ownsRow B e 1 v N xs := by
  refine ⟨ho.1, ?_⟩
  rcases ho.2 with h0 | ⟨g', cap, cur, e1, e2, hg, h2⟩
  · exact .inl h0
  · refine .inr ⟨g', cap, cur, e1, e2, (Below.heap_setCell _ _ _ g' ?_).trans hg, h2⟩
    show g' ≠ g
    rintro rfl
    have hx : w.heap[g']? = _ := hB
    rw [hx] at hg
    injection hg with hg
    injection hg with _ hg
    exact he hg.symm
/-- What an append turns is no box. -/
theorem Bx.grownV {w w' : World} {B N : Nat} {e : TypeId} {v : Value} {xs : List Value} (ho : w.ownsRow B e 1 v N xs) (he : e ≠ 25) (hg : w.grownBy w' v.ownBlock) {g n c m d : Nat} {a b : Option Addr} (hB : Bx w g a n c b m d) : Bx w' g a n c b m d := by
  refine (hg.block g hB.lt ?_).trans hB
  rcases ho.2 with ⟨h0, _⟩ | ⟨g', cap, cur, e1, e2, hg', h2⟩
  · rw [h0]; simp [Value.ownBlock]
  · rw [e1]
    simp only [Value.ownBlock]
    intro e3
    have e4 : g' = g := by simpa using e3.symm
    subst e4
    have hx : w.heap[g']? = _ := hB
    rw [hx] at hg'
    injection hg' with hg'
    injection hg' with _ hg'
    exact he hg'.symm
theorem own_grown {w w' : World} {B N : Nat} {e : TypeId} {v : Value} {xs : List Value} (ho : w.ownsRow B e 1 v N xs) (hg : w.grownBy w' v.ownBlock) (hB : B ≤ w.heap.size) : Below B w w' := grown_below' hg (fun g' hg' => (ho.lt g' hg').1) hB
theorem stepI {ops : Array Oper} {o : Oper} {a : Act} {K : Act → World → Prop} {Q : Exit → Act → World → Prop} {E : Prop} {w : World} (wr : World) (B : Nat) (s x : Operand) (av : Option Addr) (n cv : Nat) (xs : List Value) (v : Int)
    (ho : o.op = .call { callee := .builtin .append, args := #[s, x], argTypes := #[22, 22] }) (hgd : o.guard = none)
    (hs : a.eval s = .slice av n cv) (hx : a.eval x = .slice (some ⟨wr.heap.size, 0, none⟩) 1 1) (hh : w.heap = wr.heap.push (.cells #[.int .i64 v] 3)) (h1 : w.os = wr.os) (h2 : w.tape = wr.tape) (h3 : w.output = wr.output)
    (hown : wr.ownsRow B 3 1 (.slice av n cv) n xs) (hsz : B ≤ wr.heap.size) (hn : n ≤ 100000)
    (h : ∀ av' cv' w', w'.ownsRow B 3 1 (.slice av' (n + 1) cv') (n + 1) (xs ++ [.int .i64 v]) → wr.grownBy w' (Value.slice av n cv).ownBlock → ((Value.slice av' (n + 1) cv').ownBlock = (Value.slice av n cv).ownBlock ∨ ∃ g, (Value.slice av' (n + 1) cv').ownBlock = some g ∧ wr.heap.size ≤ g) → K (a.put o.dst (.slice av' (n + 1) cv')) w') :
    if Region.wanted o (yielded ops a.tmps) = true then Oper.wp Tryd.prog o a w K Q else E := by
  obtain ⟨i0, hi, hz0, hz1, hz2⟩ := info_parts infoInt
  have hown2 : w.ownsRow B 3 1 (.slice av n cv) n xs := by
    have h4 := hown.alloc (.cells #[.int .i64 v] 3)
    unfold World.ownsRow at h4 ⊢
    rw [hh]
    exact h4
  refine step_append_lies w hgd s x 22 ho B 3 i0 (.int .i64 0) 1 8 Tryd.underlying22 hi hz0 hz1 hz2 rfl (by decide) _ _ _ hs hown2 ⟨wr.heap.size, 0, none⟩ 1 1 [.int .i64 v] hx rfl ?_ ?_ (by decide) (by unfold maxLen; omega) (by omega) (by rw [hh, Array.size_push]; omega) _ rfl ?_
  · exact World.news_of_block (t := 3) (fr := (0, 0)) (cs := #[.int .i64 v]) (by rw [hh]; simp)
  · intro u hu
    rw [List.mem_singleton] at hu
    rw [hu]; rfl
  · intro g cap w' o1 o2 o3 _
    refine h _ _ w' o1 ⟨o2.os.trans h1, o2.tape.trans h2, o2.output.trans h3, ?_, fun k hk hne => ?_⟩ ?_
    · have := o2.size; rw [hh, Array.size_push] at this; omega
    · rw [o2.block k (by rw [hh, Array.size_push]; omega) hne, hh, Array.getElem?_push, if_neg (by omega)]
    · rcases o3 with e | e
      · exact .inl e.symm
      · exact .inr ⟨g, rfl, by rw [e, hh, Array.size_push]; omega⟩
theorem stepS {ops : Array Oper} {o : Oper} {a : Act} {K : Act → World → Prop} {Q : Exit → Act → World → Prop} {E : Prop} {w : World} (wr : World) (B : Nat) (s x : Operand) (av : Option Addr) (n cv : Nat) (xs : List Value) (v : ByteArray)
    (ho : o.op = .call { callee := .builtin .append, args := #[s, x], argTypes := #[23, 23] }) (hgd : o.guard = none)
    (hs : a.eval s = .slice av n cv) (hx : a.eval x = .slice (some ⟨wr.heap.size, 0, none⟩) 1 1) (hh : w.heap = wr.heap.push (.cells #[.string v] 9)) (h1 : w.os = wr.os) (h2 : w.tape = wr.tape) (h3 : w.output = wr.output)
    (hown : wr.ownsRow B 9 1 (.slice av n cv) n xs) (hsz : B ≤ wr.heap.size) (hn : n ≤ 100000)
    (h : ∀ av' cv' w', w'.ownsRow B 9 1 (.slice av' (n + 1) cv') (n + 1) (xs ++ [.string v]) → wr.grownBy w' (Value.slice av n cv).ownBlock → ((Value.slice av' (n + 1) cv').ownBlock = (Value.slice av n cv).ownBlock ∨ ∃ g, (Value.slice av' (n + 1) cv').ownBlock = some g ∧ wr.heap.size ≤ g) → K (a.put o.dst (.slice av' (n + 1) cv')) w') :
    if Region.wanted o (yielded ops a.tmps) = true then Oper.wp Tryd.prog o a w K Q else E := by
  obtain ⟨i0, hi, hz0, hz1, hz2⟩ := info_parts infoStr
  have hown2 : w.ownsRow B 9 1 (.slice av n cv) n xs := by
    have h4 := hown.alloc (.cells #[.string v] 9)
    unfold World.ownsRow at h4 ⊢
    rw [hh]
    exact h4
  refine step_append_lies w hgd s x 23 ho B 9 i0 (.string ⟨#[]⟩) 1 16 Tryd.underlying23 hi hz0 hz1 hz2 rfl (by decide) _ _ _ hs hown2 ⟨wr.heap.size, 0, none⟩ 1 1 [.string v] hx rfl ?_ ?_ (by decide) (by unfold maxLen; omega) (by omega) (by rw [hh, Array.size_push]; omega) _ rfl ?_
  · exact World.news_of_block (t := 9) (fr := (0, 0)) (cs := #[.string v]) (by rw [hh]; simp)
  · intro u hu
    rw [List.mem_singleton] at hu
    rw [hu]; rfl
  · intro g cap w' o1 o2 o3 _
    refine h _ _ w' o1 ⟨o2.os.trans h1, o2.tape.trans h2, o2.output.trans h3, ?_, fun k hk hne => ?_⟩ ?_
    · have := o2.size; rw [hh, Array.size_push] at this; omega
    · rw [o2.block k (by rw [hh, Array.size_push]; omega) hne, hh, Array.getElem?_push, if_neg (by omega)]
    · rcases o3 with e | e
      · exact .inl e.symm
      · exact .inr ⟨g, rfl, by rw [e, hh, Array.size_push]; omega⟩
theorem takeS_snoc {l : List ByteArray} {k : Nat} (hk : k < l.length) : valsS (l.take (k + 1)) = valsS (l.take k) ++ [.string (l.getD k ByteArray.empty)] := by
  rw [List.take_add_one, List.getD_eq_getElem?_getD, List.getElem?_eq_getElem hk]
  exact valsS_snoc _ _
theorem item_tail {l : List Int} (h : szE l = 0) (hl : l ≠ []) (hp : 0 < nI l) : szE l.tail = 0 ∧ szV l.tail = ((kI l : Nat) : Int) := by
  obtain ⟨m1, m2, m3, m4⟩ := szE_may.1 h
  cases l with
  | nil => exact absurd rfl hl
  | cons x r =>
    have hr : 0 ≤ pr r := pr_nonneg fun j hj => m2 (j + 1) (by simpa using hj)
    have hx : 0 < x := by have : 0 < x.toNat := hp; omega
    have e : pr (x :: r) = x * pr r := rfl
    have e2 : pr r ≤ x * pr r := by
      have := Int.mul_le_mul_of_nonneg_right (show (1 : Int) ≤ x by omega) hr
      omega
    have hz : szE r = 0 := szE_may.2 ⟨by simp at m1; omega, fun j hj => m2 (j + 1) (by simpa using hj), fun j hj => m3 (j + 1) (by simpa using hj), by omega⟩
    refine ⟨hz, ?_⟩
    show szV r = (((pr r).toNat : Nat) : Int)
    rw [szV_pr hz]; omega
def ItmEnd (r : List Int) (xs : List ByteArray) (W : World) (e : Ending) (W' : World) : Prop := ∃ a n c b m d, e = .returned (.tuple #[.agg #[.slice a n c, .slice b m d], .bool true]) ∧ Vl W' a n b m r xs ∧ Below W.heap.size W W' ∧ ∀ p, b = some p → W.heap.size ≤ p.block
end Go.Proofs.YtpledghphljfkaaDoor
/-
  order's methods, by their contracts; container/heap's calls over them.
-/
namespace Go.Proofs.YtpledghphljfkaaDoor
set_option linter.unusedVariables false
set_option linter.unusedSimpArgs false
open Go.RowKit

/-- Where an order stands: its elements, and what must stay. -/
structure OC (G B1 : Nat) (b : Option Addr) (m d : Nat) (sg : Int) (K : Nat → Prop) (W0 : World) (pf : Option Addr → Prop) (M : Nat) (xs : List Int) : Prop where
  hK : ∀ k, K k → k < W0.heap.size
  hKG : ¬ K G
  hB : B1 = G + 1
  hpf : ∀ R, pf (some ⟨R, 0, none⟩) → B1 ≤ R → ¬ K R
  hE : ∀ w, Kep K W0 w → St w b m (xs.map S)
  hX : ∀ x ∈ xs, x.natAbs < lim
  hM : M = m
  hm : m ≤ 5000
  hsg : sg = 1 ∨ sg = -1
theorem OC.hG {G B1 : Nat} {b : Option Addr} {m d : Nat} {sg : Int} {K : Nat → Prop} {W0 : World} {pf : Option Addr → Prop} {M : Nat} {xs : List Int} (C : OC G B1 b m d sg K W0 pf M xs) : G < B1 := by have := C.hB; omega
def OS (G B1 : Nat) (b : Option Addr) (m d : Nat) (sg : Int) (K : Nat → Prop) (W0 : World) (pf : Option Addr → Prop) (M : Nat) (a : Nat → Nat) (n : Nat) (w : World) : Prop := ∃ pa pc, Od G B1 b m d sg K W0 pf M a n w pa pc
def LsEnd (P : Prop) (X : World → Prop) (e : Ending) (w' : World) : Prop := ∃ t : Bool, e = .returned (.bool t) ∧ (t = true ↔ P) ∧ X w'
theorem sg_cmp {sg x y : Int} (h : sg = 1 ∨ sg = -1) : (sg * cmpI x y < 0 ↔ sg * x < sg * y) ∧ (sg * cmpI x y = 0 ↔ sg * x = sg * y) ∧ -1 ≤ sg * cmpI x y ∧ sg * cmpI x y ≤ 1 := by
  rcases h with rfl | rfl <;> unfold cmpI <;> split <;> (try split) <;> refine ⟨?_, ?_, ?_, ?_⟩ <;> omega
section
variable {G B1 : Nat} {b : Option Addr} {m d : Nat} {sg : Int} {K : Nat → Prop} {W0 : World} {pf : Option Addr → Prop} {M : Nat} {xs : List Int} {a : Nat → Nat} {n : Nat} {w w' : World}
set_option maxRecDepth 100000 in
theorem olen_q {pa : Option Addr} {pc : Nat} (h : Od G B1 b m d sg K W0 pf M a n w pa pc) : Calls Tryd.prog 40 #[.pointer (some ⟨G, 0, none⟩)] w fun e w' => e = .returned (.int .i64 (n : Int)) ∧ w = w' := by
  have y1 := h.c1
  clear h
  go_enter Tryd.func40, Tryd.ntmps40
  go_wp2_with fail
  go_ret
  exact ⟨rfl, rfl⟩
theorem olen_is (h : OS G B1 b m d sg K W0 pf M a n w) : Calls Tryd.prog 40 #[.pointer (some ⟨G, 0, none⟩)] w fun e w' => e = .returned (.int .i64 (n : Int)) ∧ OS G B1 b m d sg K W0 pf M a n w' := by
  obtain ⟨pa, pc, h⟩ := h
  exact (olen_q h).mono fun e w' k => ⟨k.1, pa, pc, by rw [← k.2]; exact h⟩
set_option maxRecDepth 100000 in
set_option maxHeartbeats 3200000 in
theorem opop_is (C : OC G B1 b m d sg K W0 pf M xs) (h : OS G B1 b m d sg K W0 pf M a (n + 1) w) : Calls Tryd.prog 112 #[.pointer (some ⟨G, 0, none⟩)] w fun e w' => e = .returned (.iface 3 (.int .i64 (a n : Int))) ∧ OS G B1 b m d sg K W0 pf M a n w' := by
  obtain ⟨pa, pc, h⟩ := h
  obtain ⟨R, rfl, hBR, hRl, hc⟩ := h.at (by omega)
  have y1 := h.c1
  have hcn := (hc n (by omega)).1
  have hw : IntKind.i64.wrap (n : Int) = (n : Int) := IntWalk.i64_in _ (by have := h.nle; have := C.hm; have := C.hM; omega)
  have hcap : n ≤ pc := by have := h.caps; omega
  have hfz := frozen_of_row w G 1 _ _ h.box
  have H := Lib.hid (h.popped C.hKG C.hG)
  obtain ⟨x, hx⟩ : ∃ x : Int, x = (a n : Int) := ⟨_, rfl⟩
  rw [← hx] at hcn ⊢
  clear h hc C hx
  go_enter Tryd.func112, Tryd.ntmps112
  go_wp2_with fail
  go_ret
  exact ⟨rfl, _, _, H.out⟩
set_option maxRecDepth 100000 in
set_option maxHeartbeats 6400000 in
theorem oswap_is (C : OC G B1 b m d sg K W0 pf M xs) (h : OS G B1 b m d sg K W0 pf M a n w) {i j : Nat} (hi : i < n) (hj : j < n) : Calls Tryd.prog 114 #[.pointer (some ⟨G, 0, none⟩), .int .i64 (i : Int), .int .i64 (j : Int)] w fun e w' => e = .returned (.tuple #[]) ∧ OS G B1 b m d sg K W0 pf M (swp a i j) n w' := by
  obtain ⟨pa, pc, h⟩ := h
  obtain ⟨R, rfl, hBR, hRl, hc⟩ := h.at (by omega)
  have y1 := h.c1
  have ci := (hc i hi).1
  have cj := (hc j hj).1
  have fi := (hc i hi).2
  have fj := (hc j hj).2
  have H := Lib.hid (h.swap C.hG C.hpf rfl hBR hi hj)
  obtain ⟨x, hx⟩ : ∃ x : Int, x = (a i : Int) := ⟨_, rfl⟩
  obtain ⟨y, hy⟩ : ∃ y : Int, y = (a j : Int) := ⟨_, rfl⟩
  rw [← hx] at ci H
  rw [← hy] at cj H
  have hi2 : (i : Int) < (n : Int) := by omega
  have hj2 : (j : Int) < (n : Int) := by omega
  have cj3 : (w.setCell ⟨R, i, none⟩ (.int .i64 y)).cell? ⟨R, j, none⟩ = some (.int .i64 y) := by
    by_cases e : i = j
    · subst e; exact World.cell?_setCell_same' _ _ _ (by rw [ci]; rfl)
    · rw [World.cell?_setCell_other _ _ _ _ (by simp [e]), cj]
  clear h hc C hx hy
  go_enter Tryd.func114, Tryd.ntmps114
  go_wp2_with fail
  go_region
  all_goals
    go_wp2_with fail
    go_end0
    exact ⟨rfl, _, _, by first | exact H.out | exact H.out.drew⟩
set_option maxRecDepth 100000 in
set_option maxHeartbeats 6400000 in
theorem opush_is (C : OC G B1 b m d sg K W0 pf M xs) (hall : ∀ q, pf q) (h : OS G B1 b m d sg K W0 pf M a n w) (hn : n < M) : Calls Tryd.prog 113 #[.pointer (some ⟨G, 0, none⟩), .iface 3 (.int .i64 (n : Int))] w fun e w' => e = .returned (.tuple #[]) ∧ ∃ c, OS G B1 b m d sg K W0 pf M c (n + 1) w' ∧ c n = n ∧ ∀ k, k < n → c k = a k := by
  obtain ⟨pa, pc, h⟩ := h
  have y1 := h.c1
  have HX := Lib.hid h
  have HC := Lib.hid C
  have hn5 : n ≤ 100000 := by have := C.hm; have := C.hM; omega
  have hB : B1 ≤ w.heap.size := by have := h.gl; have := C.hB; omega
  have y1a : (w.alloc (.cells #[.int .i64 (n : Int)] 3)).cell? ⟨G, 1, none⟩ = some (.slice pa n pc) := (((Below.refl w.heap.size w).alloc (Nat.le_refl _) _).cell (p := ⟨G, 1, none⟩) h.gl).trans y1
  have hta : ∀ w, (Instr.typeAssert (.iface 3 (.int .i64 (n : Int))) 20 3 false).run Tryd.prog w = .ok (.int .i64 (n : Int)) w := fun w => by kernel_rfl
  clear h C
  go_enter Tryd.func113, Tryd.ntmps113
  go_wp2_with fail
  go_region_law (refine stepI w B1 (.tmp 8) (.tmp 11) pa n pc _ (n : Int) rfl rfl rfl rfl rfl rfl rfl rfl HX.out.row (by omega) (by omega) ?_; intro av' cv' w9 hown9 hg9 _; have hO9 := HX.out.box3 HC.out.hG HC.out.hpf hg9; have g9 := frozen_of_row w9 G 1 _ _ hO9; have z9 : w9.cell? ⟨G, 1, none⟩ = some (.slice pa n pc) := by rw [cell_of_row _ _ _ _ _ _ hO9]; rfl)
  all_goals
    have hP := Lib.hid (HX.out.pushed HC.out.hK HC.out.hKG HC.out.hG HC.out.hpf hall hn hown9 hg9)
    clear hown9 hg9 hO9 g9 z9
    go_wp2_with fail
    go_end0
    exact ⟨rfl, _, ⟨_, _, hP.out⟩, if_pos rfl, fun k hk => if_neg (by omega)⟩
set_option maxRecDepth 100000 in
set_option maxHeartbeats 6400000 in
theorem oless_is (C : OC G B1 b m d sg K W0 pf M xs) (h : OS G B1 b m d sg K W0 pf M a n w) {i j : Nat} (hi : i < n) (hj : j < n) : Calls Tryd.prog 111 #[.pointer (some ⟨G, 0, none⟩), .int .i64 (i : Int), .int .i64 (j : Int)] w (LsEnd (Lf (fun k => sg * xs.getD k 0) (a i) (a j)) (OS G B1 b m d sg K W0 pf M a n)) := by
  obtain ⟨pa, pc, h⟩ := h
  obtain ⟨R, rfl, hBR, hRl, hc⟩ := h.at (by omega)
  have y0 := h.c0
  have y1 := h.c1
  have y2 := h.c2
  have hE := C.hE w h.kep
  have hai : a i < m := by have := h.lt i hi; have := C.hM; omega
  have haj : a j < m := by have := h.lt j hj; have := C.hM; omega
  have ci := (hc i hi).1
  have cj := (hc j hj).1
  obtain ⟨bb, off, rfl, hcE⟩ := hE.2 (by omega)
  have hxl : xs.length = m := by have := hE.1; rwa [List.length_map] at this
  have ei := hcE (a i) hai
  have ej := hcE (a j) haj
  rw [getD_S (by omega)] at ei ej
  have HL : Hid (Lf (fun k => sg * xs.getD k 0) (a i) (a j) ↔ sg * cmpI (xs.getD (a i) 0) (xs.getD (a j) 0) < 0 ∨ (sg * cmpI (xs.getD (a i) 0) (xs.getD (a j) 0) = 0 ∧ a i < a j)) := Lib.hid (by
    obtain ⟨s1, s2, _⟩ := sg_cmp (x := xs.getD (a i) 0) (y := xs.getD (a j) 0) C.hsg
    unfold Lf
    rw [s1, s2])
  obtain ⟨-, -, b1, b2⟩ := sg_cmp (x := xs.getD (a i) 0) (y := xs.getD (a j) 0) C.hsg
  have KQ : Hid (∀ z, Below w.heap.size w z → Calls Tryd.prog 13 #[.string (S (xs.getD (a i) 0)), .string (S (xs.getD (a j) 0))] z fun e w' => e = .returned (.int .i64 (cmpI (xs.getD (a i) 0) (xs.getD (a j) 0))) ∧ Below w.heap.size w w') := Lib.hid fun z hz => (Cmp_yes (xs.getD (a i) 0) (xs.getD (a j) 0) z (getD_bd C.hX _) (getD_bd C.hX _)).mono fun e w' k => ⟨k.1, hz.trans (k.2.mono hz.size)⟩
  obtain ⟨u, hu⟩ : ∃ u : Int, u = (a i : Int) := ⟨_, rfl⟩
  obtain ⟨v, hv⟩ : ∃ v : Int, v = (a j : Int) := ⟨_, rfl⟩
  obtain ⟨q, hq⟩ : ∃ q : Int, q = sg * cmpI (xs.getD (a i) 0) (xs.getD (a j) 0) := ⟨_, rfl⟩
  rw [← hq] at HL b1 b2
  obtain ⟨s, hs⟩ : ∃ s, s = S (xs.getD (a i) 0) := ⟨_, rfl⟩
  obtain ⟨t, ht⟩ : ∃ t, t = S (xs.getD (a j) 0) := ⟨_, rfl⟩
  rw [← hs] at ei KQ
  rw [← ht] at ej KQ
  obtain ⟨z, hz⟩ : ∃ z : Int, z = cmpI (xs.getD (a i) 0) (xs.getD (a j) 0) := ⟨_, rfl⟩
  rw [← hz] at KQ hq
  have hw : IntKind.i64.wrap (sg * z) = q := by rw [← hq]; exact IntWalk.i64_in _ (by omega)
  have ha1 : 0 ≤ u := by omega
  have ha2 : u < (m : Int) := by omega
  have ha3 : 0 ≤ v := by omega
  have ha4 : v < (m : Int) := by omega
  have e1 : u.toNat = a i := by omega
  have e2 : v.toNat = a j := by omega
  rw [← hu] at ci
  rw [← hv] at cj
  have ei' : w.cell? ⟨bb, off + u.toNat, none⟩ = some (.string s) := by rw [e1]; exact ei
  have ej' : w.cell? ⟨bb, off + v.toNat, none⟩ = some (.string t) := by rw [e2]; exact ej
  have HUV : Hid (a i < a j ↔ u < v) := Lib.hid (by omega)
  have hi2 : (i : Int) < (n : Int) := by omega
  have hj2 : (j : Int) < (n : Int) := by omega
  have HO := Lib.hid (fun z (hb : Below w.heap.size w z) => (⟨_, _, h.on C.hK hb⟩ : OS G B1 (some ⟨bb, off, none⟩) m d sg K W0 pf M a n z))
  have l0 := h.gl
  have lE := World.block_lt_of_cell? w _ ei
  clear h hc C hE hcE ei ej hai haj hxl hu hv hq hs ht hz e1 e2
  go_enter Tryd.func111, Tryd.ntmps111
  have hq3 : q = -1 ∨ q = 0 ∨ q = 1 := by omega
  have HQ3 := Lib.hid hq3
  clear hq3
  go_wp2_with fail
  go_quiet (fail)
  go_wp2_with fail
  have hq := below_drewN (Below.refl w.heap.size w) nq
  generalize w.drewN nq = wq at hq ⊢
  have hqz := hq.size
  clear ci cj
  go_region_held3 (fun w' => w'.cell? ⟨G, 0, none⟩ = some (.slice (some ⟨bb, off, none⟩) m d) ∧ w'.cell? ⟨G, 2, none⟩ = some (.int .i64 sg) ∧ w'.cell? ⟨bb, off + u.toNat, none⟩ = some (.string s) ∧ w'.cell? ⟨bb, off + v.toNat, none⟩ = some (.string t))
    (first | exact ⟨(Below.cell (p := ⟨G, 0, none⟩) (by repeat' (first | exact hq | refine Below.drew ?_ | refine below_drewN ?_ _ | refine Below.alloc ?_ ?_ _ | refine Below.setCell ?_ ?_ _ | exact hqz | exact Nat.le_refl _ | omega | (simp; done) | (simp; omega))) l0).trans y0, (Below.cell (p := ⟨G, 2, none⟩) (by repeat' (first | exact hq | refine Below.drew ?_ | refine below_drewN ?_ _ | refine Below.alloc ?_ ?_ _ | refine Below.setCell ?_ ?_ _ | exact hqz | exact Nat.le_refl _ | omega | (simp; done) | (simp; omega))) l0).trans y2, (Below.cell (p := ⟨bb, off + u.toNat, none⟩) (by repeat' (first | exact hq | refine Below.drew ?_ | refine below_drewN ?_ _ | refine Below.alloc ?_ ?_ _ | refine Below.setCell ?_ ?_ _ | exact hqz | exact Nat.le_refl _ | omega | (simp; done) | (simp; omega))) lE).trans ei', (Below.cell (p := ⟨bb, off + v.toNat, none⟩) (by repeat' (first | exact hq | refine Below.drew ?_ | refine below_drewN ?_ _ | refine Below.alloc ?_ ?_ _ | refine Below.setCell ?_ ?_ _ | exact hqz | exact Nat.le_refl _ | omega | (simp; done) | (simp; omega))) lE).trans ej'⟩ | fail)
    (first
      | (go_at_call 13; (with_reducible refine (KQ.out _ (by repeat' (first | exact hq | refine Below.drew ?_ | refine below_drewN ?_ _ | refine Below.alloc ?_ ?_ _ | refine Below.setCell ?_ ?_ _ | exact hqz | exact Nat.le_refl _ | omega | (simp; done) | (simp; omega)))).mono ?_); rintro e wa ⟨rfl, hq⟩; have hqz := hq.size)
      | fail)
  all_goals
    have hb9 := Lib.hid (HO.out _ (by repeat' (first | exact hq | refine Below.drew ?_ | refine below_drewN ?_ _ | refine Below.alloc ?_ ?_ _ | refine Below.setCell ?_ ?_ _ | exact hqz | exact Nat.le_refl _ | omega | (simp; done) | (simp; omega))))
    clear hq hqz y0 y1 y2 ei' ej' KQ HO hw b1 b2
    rcases HQ3.out with h | h | h
    · subst h
      go_wp2_with fail
      go_ret
      exact ⟨true, rfl, ⟨fun _ => HL.out.2 (.inl (by omega)), fun _ => rfl⟩, hb9.out⟩
    · subst h
      by_cases huv : u < v
      · go_wp2_with fail
        go_ret
        exact ⟨true, rfl, ⟨fun _ => HL.out.2 (.inr ⟨(by first | rfl | trivial), HUV.out.2 huv⟩), fun _ => rfl⟩, hb9.out⟩
      · go_wp2_with fail
        go_ret
        exact ⟨false, rfl, ⟨fun k => (by cases k), fun k => by
          rcases HL.out.1 k with k | k
          · omega
          · have := HUV.out.1 k.2; omega⟩, hb9.out⟩
    · subst h
      go_wp2_with fail
      go_ret
      exact ⟨false, rfl, ⟨fun k => (by cases k), fun k => by
        rcases HL.out.1 k with k | k <;> omega⟩, hb9.out⟩
end
end Go.Proofs.YtpledghphljfkaaDoor
/-
  What follows for seek's calls, plain: indexed by its order a vector rises, or falls; the order of the order; what is found, among each once; as often as a number says.
-/
namespace Go.Proofs.YtpledghphljfkaaDoor
set_option linter.unusedVariables false
set_option linter.unusedSimpArgs false
open Go.RowKit

theorem up_yes (sg : Int) {q : Ar} (h : q.1.length = 1) : upK sg (some q) = (some ([(q.2.length : Int)], intL (orL (fun i => sg * q.2.getD i 0) q.2.length)), 0) := by
  unfold upK
  dsimp only
  rw [if_neg (fun e => e h)]
theorem vec_sz {n : Nat} (h : n ≤ 4096) : szE [(n : Int)] = 0 := szE_may.2 ⟨by simp, fun j hj => by
  obtain rfl : j = 0 := by simpa using hj
  show (0 : Int) ≤ (n : Int); omega, fun j hj => by
  obtain rfl : j = 0 := by simpa using hj
  show (n : Int) ≤ 1099511627776; omega, by show (n : Int) * 1 ≤ 4096; omega⟩
theorem nears {l : List Int} (h : ∀ x ∈ l, 0 ≤ x ∧ x ≤ 1099511627776) : l.all nearM = true := by
  rw [List.all_eq_true]
  exact fun x hx => nearM_yes.2 (by have := h x hx; omega)
theorem plE_yes {l : List Int} {s : List Int} {many : Int} (h : ∀ x ∈ l, 0 ≤ x ∧ x < many) (hm : many ≤ 1099511627776) : plE (s, l) many = 0 := by
  unfold plE
  rw [nears (fun x hx => by have := h x hx; omega), if_neg (by simp), if_neg]
  rintro ⟨x, hx, hc⟩
  have := h x hx
  omega
/-- A vector, indexed by places. -/
theorem ix_vec {q : Ar} (hq : q.1 = [(q.2.length : Int)]) (hl : q.2.length ≤ 4096) {L : List Nat} (hL : ∀ i ∈ L, i < q.2.length) (hn : L.length ≤ 4096) :
    ixK (some q) (some ([(L.length : Int)], intL L)) = (some ([(L.length : Int)], L.map fun i => q.2.getD i 0), 0) := by
  have e0 : q.1 ≠ [] := by rw [hq]; simp
  have e1 : q.1.getD 0 0 = (q.2.length : Int) := by rw [hq]; rfl
  have e2 : q.1.tail = [] := by rw [hq]; rfl
  have e3 : kI q.1 = 1 := by unfold kI; rw [e2]; rfl
  have e4 : plE ([(L.length : Int)], intL L) (q.2.length : Int) = 0 := plE_yes (fun x hx => by
    obtain ⟨i, hi, rfl⟩ := List.mem_map.1 hx
    have := hL i hi
    omega) (by omega)
  unfold ixK
  dsimp only
  rw [if_neg e0, e1, if_neg (fun e => e e4), e2, e3, List.append_nil, if_neg (fun e => e (vec_sz hn)), nat_int, its_one q.2 0 hL]
theorem or_lt {f : Nat → Int} {n : Nat} : ∀ i ∈ orL f n, i < n := fun i hi => ((or_ord f n).all i).1 hi
theorem or_len (f : Nat → Int) (n : Nat) : (orL f n).length = n := (or_ord f n).len
/-- It rises, alike ones stay in turn; it falls. -/
theorem or_rises (sg : Int) (vs : List Int) {k : Nat} (hk : k + 1 < vs.length) :
    let L := orL (fun i => sg * vs.getD i 0) vs.length
    sg * (L.map fun i => vs.getD i 0).getD k 0 < sg * (L.map fun i => vs.getD i 0).getD (k + 1) 0 ∨ sg * (L.map fun i => vs.getD i 0).getD k 0 = sg * (L.map fun i => vs.getD i 0).getD (k + 1) 0 ∧ (intL L).getD k 0 < (intL L).getD (k + 1) 0 := by
  intro L
  have hl : L.length = vs.length := or_len _ _
  have h := (or_ord (fun i => sg * vs.getD i 0) vs.length).rises (k := k) (by show k + 1 < L.length; omega)
  have g1 : ∀ j (hj : j < L.length), (L.map fun i => vs.getD i 0).getD j 0 = vs.getD L[j] 0 := fun j hj => by
    rw [List.getD_eq_getElem?_getD, List.getElem?_map, List.getElem?_eq_getElem hj]; rfl
  have g2 : ∀ j (hj : j < L.length), (intL L).getD j 0 = (L[j] : Int) := fun j hj => by
    rw [List.getD_eq_getElem?_getD, intL, List.getElem?_map, List.getElem?_eq_getElem hj]; rfl
  rw [g1 k (by omega), g1 (k + 1) (by omega), g2 k (by omega), g2 (k + 1) (by omega)]
  rcases h with h | ⟨h, h'⟩
  · exact .inl h
  · exact .inr ⟨h, Int.ofNat_lt.2 h'⟩
/-- The order of the order, indexing what is ordered: as it was. -/
theorem or_back (vs : List Int) : (orL (fun i => 1 * (intL (orL (fun i => 1 * vs.getD i 0) vs.length)).getD i 0) vs.length).map (fun i => ((orL (fun i => 1 * vs.getD i 0) vs.length).map fun i => vs.getD i 0).getD i 0) = vs := by
  obtain ⟨L, hL⟩ : ∃ L, L = orL (fun i => 1 * vs.getD i 0) vs.length := ⟨_, rfl⟩
  rw [← hL]
  have h1 : Ord (fun i => 1 * vs.getD i 0) vs.length L := by rw [hL]; exact or_ord _ _
  have hl := h1.len
  obtain ⟨B, hB⟩ : ∃ B, B = orL (fun i => 1 * (intL L).getD i 0) vs.length := ⟨_, rfl⟩
  rw [← hB]
  have h2 : Ord (fun i => (L.getD i 0 : Int)) vs.length B := by
    have e : (fun i => 1 * (intL L).getD i 0) = fun i => (L.getD i 0 : Int) := by
      funext i
      rw [Int.one_mul, List.getD_eq_getElem?_getD, List.getD_eq_getElem?_getD, intL, List.getElem?_map]
      cases L[i]? <;> rfl
    rw [hB, e]; exact or_ord _ _
  have hlB := h2.len
  apply List.ext_getElem (by simp [hlB])
  intro i hi hi2
  have hb := h1.back h2 hi2
  have hiB : i < B.length := by omega
  have hBi : B[i] < L.length := by rw [hl]; exact (h2.all _).1 (List.getElem_mem _)
  rw [List.getD_eq_getElem?_getD (l := B), List.getElem?_eq_getElem hiB, Option.getD_some] at hb
  rw [List.getD_eq_getElem?_getD, List.getElem?_eq_getElem hBi, Option.getD_some] at hb
  rw [List.getElem_map, List.getD_eq_getElem?_getD, List.getElem?_map, List.getElem?_eq_getElem hBi, Option.map_some, Option.getD_some, hb, List.getD_eq_getElem?_getD, List.getElem?_eq_getElem hi2, Option.getD_some]
/-- Found among each once, and indexed by that: as it was. -/
theorem un_back (vs : List Int) : (vs.map fun x => fpS (unS vs) x).map (fun i => (unS vs).getD i 0) = vs := by
  rw [List.map_map]
  conv => rhs; rw [← List.map_id vs]
  refine List.map_congr_left fun x hx => ?_
  show (unS vs).getD (fpS (unS vs) x) 0 = x
  rw [List.getD_eq_getElem?_getD, un_find hx]
  rfl
end Go.Proofs.YtpledghphljfkaaDoor

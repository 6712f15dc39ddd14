import Derived.Test.YtpledghphljfkaaDoorMal
import Derived.Test.YtpledghphljfkaaDoorMap
import Derived.WalkKit
import Derived.WalkSpells
import Derived.WalkLawsBesides
import Derived.Lib.Hide
import Derived.BigQuiet
import Derived.Deep.QuietTactic
import Derived.Deep.RegionWith
import Derived.Deep.OwnRows
import Derived.Deep.RegionLaw
import Derived.Deep.AppendLies
import Derived.Test.YtpledghphljfkaaDoorMan
import Derived.Deep.RegionHeld3
import Derived.Deep.DeepCutAuto
namespace Go.Proofs.YtpledghphljfkaaDoor
set_option linter.unusedVariables false
set_option linter.unusedSimpArgs false
section
open Go.RowKit
end
section
open Go.RowKit
theorem part_le {l : List Int} (hm : MayL l) {i : Nat} (hi : i < l.length) (hp : ∀ j, j ≤ i → 0 < l.getD j 0) {q : Nat} (hq : i + 1 + q ≤ l.length) : 0 ≤ pr ((l.drop (i + 1)).take q) ∧ pr ((l.drop (i + 1)).take q) ≤ 9007199254740992 := by
  obtain ⟨h1, h2, h3, h4⟩ := hm
  have p0 := hp 0 (Nat.zero_le _)
  rcases l with _ | ⟨x, _ | ⟨y, _ | ⟨z, _ | ⟨u, r⟩⟩⟩⟩
  · simp at hi
  · simp at hi hq; obtain rfl : i = 0 := by omega
    obtain rfl : q = 0 := by omega
    simp [pr]
  · have y0 := h2 1 (by simp); have y1 := h3 1 (by simp)
    simp at hi hq y0 y1
    rcases i with _ | _ | i
    · rcases q with _ | _ | q
      · simp [pr]
      · simp [pr]; omega
      · omega
    · obtain rfl : q = 0 := by omega
      simp [pr]
    · omega
  · have y0 := h2 1 (by simp); have y1 := h3 1 (by simp); have z0 := h2 2 (by simp); have z1 := h3 2 (by simp)
    simp at hi hq y0 y1 z0 z1 p0
    simp only [pr, Int.mul_one] at h4
    rcases i with _ | _ | _ | i
    · rcases q with _ | _ | _ | q
      · simp [pr]
      · simp [pr]; omega
      · simp [pr]
        have a : 0 ≤ y * z := Int.mul_nonneg y0 z0
        have b : 1 * (y * z) ≤ x * (y * z) := Int.mul_le_mul_of_nonneg_right (by omega) a
        omega
      · omega
    · rcases q with _ | _ | q
      · simp [pr]
      · simp [pr]; omega
      · omega
    · obtain rfl : q = 0 := by omega
      simp [pr]
    · omega
  · simp at h1
end
section
open Go.RowKit
theorem sum_range {l t : List Int} (hm : MayL l) {k : Nat} (hk : k < l.length) (h : inL l t (k + 1) = true) : 0 ≤ t.getD k 0 * pr (l.drop (k + 1)) ∧ t.getD k 0 * pr (l.drop (k + 1)) ≤ 4096 ∧ 0 ≤ sum l t (k + 1) ∧ sum l t (k + 1) ≤ 4096 := by
  have hr := hor_range (l := l) (t := t) (n := k + 1) (by omega) h
  have hr0 := hor_range (l := l) (t := t) (n := k) (by omega) (by simp only [inL, Bool.and_eq_true] at h; exact h.1)
  have hpr := hm.pr
  have ha := inL_at h (Nat.lt_succ_self k)
  by_cases hp : AllPos l
  · have hd := hp.drop (k + 1)
    have h1 : 0 ≤ t.getD k 0 * pr (l.drop (k + 1)) := Int.mul_nonneg ha.1 (by omega)
    have e := sum_hor (l := l) (t := t) (i := k + 1) (by omega)
    have e0 := sum_hor (l := l) (t := t) (i := k) (by omega)
    have h2 : hor l t (k + 1) * pr (l.drop (k + 1)) ≤ pr (l.take (k + 1)) * pr (l.drop (k + 1)) := Int.mul_le_mul_of_nonneg_right (by omega) (by omega)
    rw [← pr_append, List.take_append_drop] at h2
    have h3 : 0 ≤ hor l t k * pr (l.drop k) := Int.mul_nonneg hr0.1 (by have := hp.drop k; omega)
    have e2 : sum l t (k + 1) = sum l t k + t.getD k 0 * pr (l.drop (k + 1)) := rfl
    omega
  · have : ∃ j, j < l.length ∧ l.getD j 0 = 0 := by
      refine Classical.byContradiction fun hn => hp ⟨fun j hj => ?_⟩
      have := hm.nn j hj
      rcases Int.lt_or_le 0 (l.getD j 0) with h1 | h1
      · exact h1
      · exact absurd ⟨j, hj, by omega⟩ hn
    obtain ⟨j, hj, hz⟩ := this
    have hjk : k < j := by
      rcases Nat.lt_or_ge k j with h1 | h1
      · exact h1
      · have := inL_at h (show j < k + 1 by omega); omega
    have hd : pr (l.drop (k + 1)) = 0 := pr_zero_at (j := j - (k + 1)) (by rw [List.length_drop]; omega) (by rw [getD_drop, show k + 1 + (j - (k + 1)) = j by omega]; exact hz)
    rw [sum_hor (by omega), hd]
    simp
end
section
open Go.RowKit
def plTo (l : List Int) (k : Int) (q : Nat) : List Int := (List.range q).map (plc l k)
theorem plTo_succ (l : List Int) (k : Int) (q : Nat) : valsI (plTo l k q) ++ [.int .i64 (plc l k q)] = valsI (plTo l k (q + 1)) := by
  unfold plTo valsI
  rw [List.range_succ]; simp
theorem step_push {ops : Array Oper} {o : Oper} {a : Act} {K : Act → World → Prop} {Q : Exit → Act → World → Prop} {E : Prop} {w : World} (W wr : World) (s x : Operand) (av : Option Addr) (n cv : Nat) (xs : List Value) (v : Int)
    (ho : o.op = .call { callee := .builtin .append, args := #[s, x], argTypes := #[22, 22] }) (hgd : o.guard = none)
    (hs : a.eval s = .slice av n cv) (hx : a.eval x = .slice (some ⟨wr.heap.size, 0, none⟩) 1 1) (hh : w.heap = wr.heap.push (.cells #[.int .i64 v] 3)) (h1 : w.os = wr.os) (h2 : w.tape = wr.tape) (h3 : w.output = wr.output)
    (hown : wr.ownsRow W.heap.size 3 1 (.slice av n cv) n xs) (hbel : Below W.heap.size W wr) (hn : n ≤ 20)
    (h : ∀ av' cv' w', w'.ownsRow W.heap.size 3 1 (.slice av' (n + 1) cv') (n + 1) (xs ++ [.int .i64 v]) → Below W.heap.size W w' → K (a.put o.dst (.slice av' (n + 1) cv')) w') :
    if Region.wanted o (yielded ops a.tmps) = true then Oper.wp Tryd.prog o a w K Q else E := by
  obtain ⟨i0, hi, hz0, hz1, hz2⟩ := info_parts infoInt
  have hsz := hbel.size
  have hown2 : w.ownsRow W.heap.size 3 1 (.slice av n cv) n xs := by
    have h4 := hown.alloc (.cells #[.int .i64 v] 3)
    unfold World.ownsRow at h4 ⊢
    rw [hh]
    exact h4
  have hb2 : Below W.heap.size W w := by
    have h4 := hbel.alloc hsz (.cells #[.int .i64 v] 3)
    exact ⟨h1.trans hbel.os, h2.trans hbel.tape, h3.trans hbel.output, by rw [hh]; exact h4.size, fun k hk => by rw [hh]; exact h4.block k hk⟩
  refine step_append_lies w hgd s x 22 ho W.heap.size 3 i0 (.int .i64 0) 1 8 Tryd.underlying22 hi hz0 hz1 hz2 rfl (by decide) _ _ _ hs hown2 ⟨wr.heap.size, 0, none⟩ 1 1 [.int .i64 v] hx rfl ?_ ?_ (by decide) (by unfold maxLen; omega) (by omega) (by rw [hh, Array.size_push]; omega) _ rfl ?_
  · exact World.news_of_block (t := 3) (fr := (0, 0)) (cs := #[.int .i64 v]) (by rw [hh]; simp)
  · intro u hu
    rw [List.mem_singleton] at hu
    rw [hu]; rfl
  · intro g cap w' o1 o2 _ _
    exact h _ _ w' o1 (hb2.grown o2 (by rw [hh, Array.size_push]; omega) (fun q hq => (hown2.lt q hq).1))
end
section
open Go.RowKit
end
end Go.Proofs.YtpledghphljfkaaDoor
/-
  What the laws of mould share; the statements' own example.
-/
namespace Go.Proofs.YtpledghphljfkaaDoor
set_option linter.unusedVariables false
set_option linter.unusedSimpArgs false
open Go.RowKit

theorem Av.stb2 {a b : Option Addr} {n c m d : Nat} {l : List Int} {es : List ByteArray} {o : Option Ar} : Stb fun w => Av w a n c b m d l es o := fun _ _ h hb => h.below hb
theorem lw {P : World → Prop} {w : World} {f : FuncId} {args : Array Value} {R : Ending → World → Prop} (h : Lv P w) (hc : Calls Tryd.prog f args w fun e w' => R e w' ∧ Below w.heap.size w w')
    (hs : Stb P := by repeat' (first | exact Stb.bel _ | exact Stb.bx | exact Av.stb2 | refine Stb.and ?_ ?_ | exact Stb.triv)) : Calls Tryd.prog f args w fun e w' => R e w' ∧ Lv P w' := hc.mono fun _ _ k => ⟨k.1, ⟨hs _ _ h.out k.2⟩⟩
/-- An array in a box: what is live then. -/
theorem lw_box {P : World → Prop} {w : World} {a b : Option Addr} {n c m d : Nat} {l : List Int} {es : List ByteArray} {o : Option Ar} (h : Lv P w) (hv : Av w a n c b m d l es o)
    (hs : Stb P := by repeat' (first | exact Stb.bel _ | exact Stb.bx | exact Av.stb2 | refine Stb.and ?_ ?_ | exact Stb.triv)) :
    Lv (fun w' => Bx w' w.heap.size a n c b m d ∧ Av w' a n c b m d l es o ∧ P w') (w.alloc (.cells #[.slice a n c, .slice b m d] 25)) :=
  have hb : Below w.heap.size w (w.alloc (.cells #[.slice a n c, .slice b m d] 25)) := (Below.refl _ _).alloc (Nat.le_refl _) _
  ⟨⟨Bx.new _ _ _ _ _ _ _, hv.below hb, hs _ _ h.out hb⟩⟩
theorem lw_M {P : World → Prop} {w : World} {f : FuncId} {args : Array Value} {o : Option Ar} {k : Int} (h : Lv P w) (hc : Calls Tryd.prog f args w (MEnd (o, k) w))
    (hs : Stb P := by repeat' (first | exact Stb.bel _ | exact Stb.bx | exact Av.stb2 | refine Stb.and ?_ ?_ | exact Stb.triv)) :
    Calls Tryd.prog f args w fun e w' => ∃ a n c b m d, e = .returned (.tuple #[.agg #[.slice a n c, .slice b m d], .int .i64 k]) ∧ Lv (fun w'' => Bx w'' w'.heap.size a n c b m d ∧ Av w'' a n c b m d (TS o).1 (TS o).2 o ∧ P w'') (w'.alloc (.cells #[.slice a n c, .slice b m d] 25)) :=
  hc.mono fun _ _ ⟨a, n, c, b, m, d, h1, h2, h3⟩ => ⟨a, n, c, b, m, d, h1, lw_box ⟨hs _ _ h.out h3⟩ h2 hs⟩
theorem Av.pt {W : World} {a b : Option Addr} {n c m d : Nat} {q : Ar} (hv : Vl W a n b m q.1 (q.2.map S)) (hc : Cp n c m d) (hr : Rok (some q)) : Av W a n c b m d q.1 (q.2.map S) (some q) := ⟨hv, hc, hr.sz hv.t.1.symm, hr.ais⟩
theorem lw_P {P : World → Prop} {w : World} {f : FuncId} {args : Array Value} {l xs : List Int} (h : Lv P w) (hc : Calls Tryd.prog f args w (PtEnd l (xs.map S) w) ∧ Rok (some (l, xs)))
    (hs : Stb P := by repeat' (first | exact Stb.bel _ | exact Stb.bx | exact Av.stb2 | refine Stb.and ?_ ?_ | exact Stb.triv)) :
    Calls Tryd.prog f args w fun e w' => ∃ a n c b m d, e = .returned (.agg #[.slice a n c, .slice b m d]) ∧ Lv (fun w'' => Av w'' a n c b m d l (xs.map S) (some (l, xs)) ∧ P w'') w' :=
  hc.1.mono fun _ _ ⟨a, n, c, b, m, d, h1, h2, h3, h4⟩ => ⟨a, n, c, b, m, d, h1, ⟨⟨Av.pt h2 h3 hc.2, hs _ _ h.out h4⟩⟩⟩
theorem lw_one {a b : Option Addr} {n c m d : Nat} {l : List Int} {es : List ByteArray} {o : Option Ar} (W : World) (hv : Av W a n c b m d l es o) :
    Lv (fun w' => Bx w' W.heap.size a n c b m d ∧ Av w' a n c b m d l es o ∧ Below W.heap.size W w') (W.alloc (.cells #[.slice a n c, .slice b m d] 25)) := lw_box ⟨Below.refl _ _⟩ hv
/-- Behind a region that draws its order, and lays an array that is told into a box: however it went. -/
def MCut (o : Option Ar) (k : Int) (wz : World) (p q : Value) (wx : World) : Prop :=
  ∃ g a n c b m d, p = .pointer (some ⟨g, 0, none⟩) ∧ q = .int .i64 k ∧ Bx wx g a n c b m d ∧ Av wx a n c b m d (TS o).1 (TS o).2 o ∧ Below wz.heap.size wz wx
theorem MCut.new {wz wb : World} {a b : Option Addr} {n c m d : Nat} {o : Option Ar} {k : Int} (hb : Below wz.heap.size wz wb) (hv : Av wb a n c b m d (TS o).1 (TS o).2 o) : MCut o k wz (.pointer (some ⟨wb.heap.size, 0, none⟩)) (.int .i64 k) (wb.alloc (.cells #[.slice a n c, .slice b m d] 25)) :=
  ⟨_, a, n, c, b, m, d, rfl, rfl, Bx.new _ _ _ _ _ _ _, hv.below ((Below.refl _ _).alloc (Nat.le_refl _) _), hb.alloc hb.size _⟩
theorem MCut.set {wz wb : World} {a b : Option Addr} {g n c m d : Nat} {o : Option Ar} {k : Int} (hb : Below wz.heap.size wz wb) (hv : Av wb a n c b m d (TS o).1 (TS o).2 o) (hZ : Bx wb g none 0 0 none 0 0) (h3 : wz.heap.size ≤ g) : MCut o k wz (.pointer (some ⟨g, 0, none⟩)) (.int .i64 k) ((wb.setCell ⟨g, 0, none⟩ (.slice a n c)).setCell ⟨g, 1, none⟩ (.slice b m d)) :=
  ⟨_, a, n, c, b, m, d, rfl, rfl, hZ.set _ _ _ _ _ _, ⟨⟨hZ.sl hv.v.s _ _, hZ.st hv.v.t _ _, hv.v.mm⟩, hv.c, hv.z, hv.i⟩, below_made hb h3 _ _⟩
theorem lw_cut {P : World → Prop} {wz wx : World} {a b : Option Addr} {g n c m d : Nat} {l : List Int} {es : List ByteArray} {o : Option Ar} (h : Lv P wz) (hB : Bx wx g a n c b m d) (hv : Av wx a n c b m d l es o) (hb : Below wz.heap.size wz wx)
    (hs : Stb P := by repeat' (first | exact Stb.bel _ | exact Stb.bx | exact Av.stb2 | refine Stb.and ?_ ?_ | exact Stb.triv)) :
    Lv (fun w' => Bx w' g a n c b m d ∧ Av w' a n c b m d l es o ∧ P w') wx := ⟨⟨hB, hv, hs _ _ h.out hb⟩⟩
theorem Bx.on {W W' : World} {g : Nat} {a b : Option Addr} {n c m d : Nat} (h : Bx W g a n c b m d) (hb : Below W.heap.size W W') : Bx W' g a n c b m d := h.below hb h.lt
theorem Av.on {W W' : World} {a b : Option Addr} {n c m d : Nat} {l : List Int} {es : List ByteArray} {o : Option Ar} (h : Av W a n c b m d l es o) (hb : Below W.heap.size W W') : Av W' a n c b m d l es o := h.below hb
theorem Bz.a (w : World) : Bx (w.alloc (.cells #[.slice none 0 0, .slice none 0 0] 25)) w.heap.size none 0 0 none 0 0 := Bx.new _ _ _ _ _ _ _
theorem Bz.b (w : World) : Bx (w.alloc (.cells #[.slice none 0 0, .slice none 0 0] 25)).drew w.heap.size none 0 0 none 0 0 := Bz.a w
theorem Bz.c (w : World) : Bx (w.drew.alloc (.cells #[.slice none 0 0, .slice none 0 0] 25)) w.heap.size none 0 0 none 0 0 := Bz.a w.drew
theorem Bz.d (w : World) (o : Obj) : Bx ((w.alloc o).alloc (.cells #[.slice none 0 0, .slice none 0 0] 25)) (w.heap.size + 1) none 0 0 none 0 0 := Bx.two _ _ _ _ _ _ _ _
theorem Bz.e (w : World) (o : Obj) : Bx ((w.alloc o).alloc (.cells #[.slice none 0 0, .slice none 0 0] 25)).drew (w.heap.size + 1) none 0 0 none 0 0 := Bz.d w o
theorem Bz.f (w : World) (o : Obj) : Bx ((w.alloc o).drew.alloc (.cells #[.slice none 0 0, .slice none 0 0] 25)) (w.heap.size + 1) none 0 0 none 0 0 := Bz.d w o
theorem Bz.g (w : World) (o : Obj) : Bx ((w.alloc o).drew.alloc (.cells #[.slice none 0 0, .slice none 0 0] 25)).drew (w.heap.size + 1) none 0 0 none 0 0 := Bz.d w o
theorem Bz.h (w : World) (o : Obj) : Bx ((w.alloc (.cells #[.slice none 0 0, .slice none 0 0] 25)).alloc o) w.heap.size none 0 0 none 0 0 := (Bz.a w).alloc o
theorem Bz.i (w : World) (o : Obj) : Bx ((w.alloc (.cells #[.slice none 0 0, .slice none 0 0] 25)).alloc o).drew w.heap.size none 0 0 none 0 0 := Bz.h w o
theorem Bz.j (w : World) (o : Obj) : Bx ((w.alloc (.cells #[.slice none 0 0, .slice none 0 0] 25)).drew.alloc o) w.heap.size none 0 0 none 0 0 := Bz.h w o
theorem Bz.k (w : World) (o : Obj) : Bx ((w.alloc (.cells #[.slice none 0 0, .slice none 0 0] 25)).drew.alloc o).drew w.heap.size none 0 0 none 0 0 := Bz.h w o
theorem Bz.l (w : World) : Bx (w.drew.alloc (.cells #[.slice none 0 0, .slice none 0 0] 25)).drew w.heap.size none 0 0 none 0 0 := Bz.a w.drew
theorem sc_rok {x : Int} (h : x.natAbs < lim) : Rok (some ([], [x])) := ⟨(by decide : szE [] = 0), (rfl : ((1 : Nat) : Int) = pr []), fun y hy => by rw [List.mem_singleton] at hy; rw [hy]; exact h⟩
theorem VSame_av {W : World} {a1 b1 a2 b2 : Option Addr} {n1 c1 m1 d1 n2 c2 m2 d2 : Nat} {l m : List Int} {es fs : List ByteArray} (h1 : Vl W a1 n1 b1 m1 l es) (h2 : Vl W a2 n2 b2 m2 m fs) (q1 : n1 ≤ 1000000) (q2 : n2 ≤ 1000000) (e1 : l = m) (e2 : es = fs) :
    Calls Tryd.prog 14 #[.agg #[.slice a1 n1 c1, .slice b1 m1 d1], .agg #[.slice a2 n2 c2, .slice b2 m2 d2]] W (BoolEnd true W) := by
  have h := VSame_is (c1 := c1) (d1 := d1) (c2 := c2) (d2 := d2) W h1 h2 q1 q2
  subst e1 e2
  rwa [beq_self_eq_true, decide_eq_true rfl, Bool.and_self] at h
theorem new_drew (w : World) (o : Obj) : (w.alloc o).drew.heap[w.heap.size]? = some o := heap_alloc_new w o
theorem new_past (w : World) (o o' : Obj) : ((w.alloc o).alloc o').heap[w.heap.size]? = some o := (Below.heap_alloc (w.alloc o) o' _ (by simp)).trans (heap_alloc_new w o)
theorem new_pastd (w : World) (o o' : Obj) : ((w.alloc o).alloc o').drew.heap[w.heap.size]? = some o := new_past w o o'
theorem new_pastd2 (w : World) (o o' : Obj) : ((w.alloc o).drew.alloc o').heap[w.heap.size]? = some o := new_past w o o'
theorem new_pastd3 (w : World) (o o' : Obj) : ((w.alloc o).drew.alloc o').drew.heap[w.heap.size]? = some o := new_past w o o'
theorem new_on (w : World) (o o' : Obj) : ((w.alloc o').alloc o).heap[w.heap.size + 1]? = some o := by have := heap_alloc_new (w.alloc o') o; rwa [World.size_alloc] at this
theorem new_ond (w : World) (o o' : Obj) : ((w.alloc o').alloc o).drew.heap[w.heap.size + 1]? = some o := new_on w o o'
theorem new_ond2 (w : World) (o o' : Obj) : ((w.alloc o').drew.alloc o).drew.heap[w.heap.size + 1]? = some o := new_on w o o'
theorem new_ond3 (w : World) (o o' : Obj) : ((w.alloc o').drew.alloc o).heap[w.heap.size + 1]? = some o := new_on w o o'
theorem S_0m : S 0 = ⟨#[48]⟩ := by
  unfold S
  rw [show Lib.itoa 0 = [48] by rw [itoa_pos (by omega)]; exact decDigits_small (n := 0) (by decide)]
theorem S_6m : S 6 = ⟨#[54]⟩ := S_lit (l := [54]) (n := 6) rfl (by unfold AllDig; decide) ⟨_, _, rfl, by decide⟩
theorem S_1m : S 1 = ⟨#[49]⟩ := S_lit (l := [49]) (n := 1) rfl (by unfold AllDig; decide) ⟨_, _, rfl, by decide⟩
theorem S_2m : S 2 = ⟨#[50]⟩ := S_lit (l := [50]) (n := 2) rfl (by unfold AllDig; decide) ⟨_, _, rfl, by decide⟩
theorem S_3m : S 3 = ⟨#[51]⟩ := S_lit (l := [51]) (n := 3) rfl (by unfold AllDig; decide) ⟨_, _, rfl, by decide⟩
theorem S_4m : S 4 = ⟨#[52]⟩ := S_lit (l := [52]) (n := 4) rfl (by unfold AllDig; decide) ⟨_, _, rfl, by decide⟩
theorem S_5m : S 5 = ⟨#[53]⟩ := S_lit (l := [53]) (n := 5) rfl (by unfold AllDig; decide) ⟨_, _, rfl, by decide⟩
theorem sh_1 : ioM (some ([], [6])) = (some ([6], [0, 1, 2, 3, 4, 5]), 0) := by decide
theorem sh_2 : rsM (some ([2], [2, 3])) (some ([6], [0, 1, 2, 3, 4, 5])) = (some ([2, 3], [0, 1, 2, 3, 4, 5]), 0) := by decide
theorem sh_3 : fiM (some ([2, 3], [0, 1, 2, 3, 4, 5])) = (some ([3, 2], [0, 3, 1, 4, 2, 5]), 0) := by decide
end Go.Proofs.YtpledghphljfkaaDoor
/-
  The reference's text, one, Int, All, run, turned and May, by their contracts.
-/
namespace Go.Proofs.YtpledghphljfkaaDoor
set_option linter.unusedVariables false
set_option linter.unusedSimpArgs false
open Go.RowKit

section
variable {W : World} {a b : Option Addr} {n c m d : Nat} {l : List Int} {es : List ByteArray} {q : Ar}
end

/-! ### run, turned -/
/-- The numbers from one on, so many. -/
def fromM (f : Int) (k : Nat) : List Int := (List.range k).map fun i : Nat => f + (i : Int)
theorem from_succ (f : Int) (k : Nat) : valsI (fromM f (k + 1)) = valsI (fromM f k) ++ [.int .i64 (f + (k : Int))] := by simp [fromM, valsI, List.range_succ]
/-- The last ones of a list, the last one first. -/
def backM (l : List Int) (k : Nat) : List Int := (List.range k).map fun i : Nat => l.getD (l.length - 1 - i) 0
theorem back_succ (l : List Int) (k : Nat) : valsI (backM l (k + 1)) = valsI (backM l k) ++ [.int .i64 (l.getD (l.length - 1 - k) 0)] := by simp [backM, valsI, List.range_succ]
theorem back_all (l : List Int) : backM l l.length = l.reverse := by
  apply List.ext_getElem?
  intro j
  by_cases hj : j < l.length
  · rw [backM, List.getElem?_map, List.getElem?_range hj, List.getElem?_reverse hj, Option.map_some, List.getD_eq_getElem?_getD, List.getElem?_eq_getElem (show l.length - 1 - j < l.length by omega)]
    rfl
  · rw [List.getElem?_eq_none (by simp [backM]; omega), List.getElem?_eq_none (by simp; omega)]
theorem pre_succ {l : List Int} {k : Nat} (hk : k < l.length) : valsI (l.take (k + 1)) = valsI (l.take k) ++ [.int .i64 (l.getD k 0)] := by
  have e : l.take (k + 1) = l.take k ++ [l.getD k 0] := by
    rw [List.take_add_one, List.getD_eq_getElem?_getD, List.getElem?_eq_getElem hk]; rfl
  rw [e]; simp [valsI]
end Go.Proofs.YtpledghphljfkaaDoor
/-
  The reference's Iota, Tally, Shape, Ravel, by their contracts.
-/
namespace Go.Proofs.YtpledghphljfkaaDoor
set_option linter.unusedVariables false
set_option linter.unusedSimpArgs false
open Go.RowKit

theorem live_bel {P : World → Prop} {w w' : World} {B : Nat} (h : Lv P w) (hb : Below B w w') (hB : w.heap.size ≤ B)
    (hs : Stb P := by repeat' (first | exact Stb.bel _ | exact Stb.bx | exact Stb.vl | refine Stb.and ?_ ?_ | exact Stb.triv)) : Lv P w' := ⟨hs _ _ h.out (hb.mono hB)⟩
theorem sl_new1 (w : World) (x : Int) : Sl (w.alloc (.cells #[.int .i64 x] 3)) (some ⟨w.heap.size, 0, none⟩) 1 [x] := own_sl (own_new1 w x)
theorem own_set {w : World} {B n : Nat} {e : TypeId} {v : Value} {xs : List Value} (h : w.ownsRow B e 1 v n xs) {p : Addr} (hp : p.block < B) (u : Value) : (w.setCell p u).ownsRow B e 1 v n xs := by
  refine ⟨h.1, ?_⟩
  rcases h.2 with h0 | ⟨g, cap, cur, e1, e2, hg, h2⟩
  · exact .inl h0
  · exact .inr ⟨g, cap, cur, e1, e2, (Below.heap_setCell _ _ _ g (by omega)).trans hg, h2⟩
theorem step_pushS {ops : Array Oper} {o : Oper} {a : Act} {K : Act → World → Prop} {Q : Exit → Act → World → Prop} {E : Prop} {w : World} (wr : World) (B : Nat) (s x : Operand) (av : Option Addr) (n cv : Nat) (xs : List Value) (v : ByteArray)
    (ho : o.op = .call { callee := .builtin .append, args := #[s, x], argTypes := #[23, 23] }) (hgd : o.guard = none)
    (hs : a.eval s = .slice av n cv) (hx : a.eval x = .slice (some ⟨wr.heap.size, 0, none⟩) 1 1) (hh : w.heap = wr.heap.push (.cells #[.string v] 9)) (h1 : w.os = wr.os) (h2 : w.tape = wr.tape) (h3 : w.output = wr.output)
    (hown : wr.ownsRow B 9 1 (.slice av n cv) n xs) (hsz : B ≤ wr.heap.size) (hn : n ≤ 100000)
    (h : ∀ av' cv' w', w'.ownsRow B 9 1 (.slice av' (n + 1) cv') (n + 1) (xs ++ [.string v]) → Below B wr w' → K (a.put o.dst (.slice av' (n + 1) cv')) w') :
    if Region.wanted o (yielded ops a.tmps) = true then Oper.wp Tryd.prog o a w K Q else E := by
  obtain ⟨i0, hi, hz0, hz1, hz2⟩ := info_parts infoStr
  have hown2 : w.ownsRow B 9 1 (.slice av n cv) n xs := by
    have h4 := hown.alloc (.cells #[.string v] 9)
    unfold World.ownsRow at h4 ⊢
    rw [hh]
    exact h4
  have hb2 : Below B wr w := by
    have h4 := (Below.refl B wr).alloc hsz (.cells #[.string v] 9)
    exact ⟨h1, h2, h3, by rw [hh]; exact h4.size, fun k hk => by rw [hh]; exact h4.block k hk⟩
  refine step_append_lies w hgd s x 23 ho B 9 i0 (.string ⟨#[]⟩) 1 16 Tryd.underlying23 hi hz0 hz1 hz2 rfl (by decide) _ _ _ hs hown2 ⟨wr.heap.size, 0, none⟩ 1 1 [.string v] hx rfl ?_ ?_ (by decide) (by unfold maxLen; omega) (by omega) (by rw [hh, Array.size_push]; omega) _ rfl ?_
  · exact World.news_of_block (t := 9) (fr := (0, 0)) (cs := #[.string v]) (by rw [hh]; simp)
  · intro u hu
    rw [List.mem_singleton] at hu
    rw [hu]; rfl
  · intro g cap w' o1 o2 _ _
    exact h _ _ w' o1 (hb2.grown o2 (by rw [hh, Array.size_push]; omega) (fun q hq => (hown2.lt q hq).1))
theorem valsS_map_snoc (xs : List Int) (x : Int) : valsS ((xs ++ [x]).map S) = valsS (xs.map S) ++ [.string (S x)] := by rw [List.map_append]; exact valsS_snoc _ _
theorem upM_snoc (k : Nat) : upM (k + 1) = upM k ++ [(k : Int)] := by simp [upM, List.range_succ]
theorem live_it {P : World → Prop} {w : World} {f : FuncId} {args : Array Value} {v : Int} {l : List Int} (h : Lv P w) (hc : Calls Tryd.prog f args w (ItPost v l w))
    (hs : Stb P := by repeat' (first | exact Stb.bel _ | exact Stb.bx | exact Stb.vl | refine Stb.and ?_ ?_ | exact Stb.triv)) :
    Calls Tryd.prog f args w fun e w' => ∃ a n c, e = .returned (.tuple #[.int .i64 v, .slice a n c]) ∧ Lv P w' ∧ Sl w' a n l ∧ n ≤ 20 :=
  hc.mono fun _ _ ⟨a, n, c, h1, h2, h3, h4⟩ => ⟨a, n, c, h1, ⟨hs _ _ h.out h4⟩, h2, h3⟩
theorem own_newS1 (w : World) (s : ByteArray) : (w.alloc (.cells #[.string s] 9)).ownsRow w.heap.size 9 1 (.slice (some ⟨w.heap.size, 0, none⟩) 1 1) 1 (valsS [s]) :=
  ⟨rfl, .inr ⟨w.heap.size, 1, #[.string s], rfl, Nat.le_refl _, heap_alloc_new w _, Nat.le_refl _, by unfold maxLen; omega, rfl, rfl⟩⟩
theorem takeI_snoc {l : List Int} {k : Nat} (hk : k < l.length) : l.take (k + 1) = l.take k ++ [l.getD k 0] := by
  rw [List.take_add_one, List.getD_eq_getElem?_getD, List.getElem?_eq_getElem hk]; rfl
end Go.Proofs.YtpledghphljfkaaDoor

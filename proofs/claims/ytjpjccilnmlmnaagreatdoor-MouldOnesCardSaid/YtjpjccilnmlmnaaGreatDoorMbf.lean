import Derived.Test.YtjpjccilnmlmnaaGreatDoorMbe
import Derived.Deep.RegionHeld3
import Derived.Deep.DeepCutAuto
/-
  What the laws of mould share; the statements' own example.
-/
namespace Go.Proofs.YtjpjccilnmlmnaaGreatDoor
set_option linter.unusedVariables false
set_option linter.unusedSimpArgs false
open Go.RowKit

theorem Av.stb2 {a b : Option Addr} {n c m d : Nat} {l : List Int} {es : List ByteArray} {o : Option Ar} : Stb fun w => Av w a n c b m d l es o := fun _ _ h hb => h.below hb
theorem lw {P : World → Prop} {w : World} {f : FuncId} {args : Array Value} {R : Ending → World → Prop} (h : Lv P w) (hc : Calls Tryz.prog f args w fun e w' => R e w' ∧ Below w.heap.size w w')
    (hs : Stb P := by repeat' (first | exact Stb.bel _ | exact Stb.bx | exact Av.stb2 | refine Stb.and ?_ ?_ | exact Stb.triv)) : Calls Tryz.prog f args w fun e w' => R e w' ∧ Lv P w' := hc.mono fun _ _ k => ⟨k.1, ⟨hs _ _ h.out k.2⟩⟩
/-- An array in a box: what is live then. -/
theorem lw_box {P : World → Prop} {w : World} {a b : Option Addr} {n c m d : Nat} {l : List Int} {es : List ByteArray} {o : Option Ar} (h : Lv P w) (hv : Av w a n c b m d l es o)
    (hs : Stb P := by repeat' (first | exact Stb.bel _ | exact Stb.bx | exact Av.stb2 | refine Stb.and ?_ ?_ | exact Stb.triv)) :
    Lv (fun w' => Bx w' w.heap.size a n c b m d ∧ Av w' a n c b m d l es o ∧ P w') (w.alloc (.cells #[.slice a n c, .slice b m d] 25)) :=
  have hb : Below w.heap.size w (w.alloc (.cells #[.slice a n c, .slice b m d] 25)) := (Below.refl _ _).alloc (Nat.le_refl _) _
  ⟨⟨Bx.new _ _ _ _ _ _ _, hv.below hb, hs _ _ h.out hb⟩⟩
theorem lw_M {P : World → Prop} {w : World} {f : FuncId} {args : Array Value} {o : Option Ar} {k : Int} (h : Lv P w) (hc : Calls Tryz.prog f args w (MEnd (o, k) w))
    (hs : Stb P := by repeat' (first | exact Stb.bel _ | exact Stb.bx | exact Av.stb2 | refine Stb.and ?_ ?_ | exact Stb.triv)) :
    Calls Tryz.prog f args w fun e w' => ∃ a n c b m d, e = .returned (.tuple #[.agg #[.slice a n c, .slice b m d], .int .i64 k]) ∧ Lv (fun w'' => Bx w'' w'.heap.size a n c b m d ∧ Av w'' a n c b m d (TS o).1 (TS o).2 o ∧ P w'') (w'.alloc (.cells #[.slice a n c, .slice b m d] 25)) :=
  hc.mono fun _ _ ⟨a, n, c, b, m, d, h1, h2, h3⟩ => ⟨a, n, c, b, m, d, h1, lw_box ⟨hs _ _ h.out h3⟩ h2 hs⟩
theorem Av.pt {W : World} {a b : Option Addr} {n c m d : Nat} {q : Ar} (hv : Vl W a n b m q.1 (q.2.map S)) (hc : Cp n c m d) (hr : Rok (some q)) : Av W a n c b m d q.1 (q.2.map S) (some q) := ⟨hv, hc, hr.sz hv.t.1.symm, hr.ais⟩
theorem lw_P {P : World → Prop} {w : World} {f : FuncId} {args : Array Value} {l xs : List Int} (h : Lv P w) (hc : Calls Tryz.prog f args w (PtEnd l (xs.map S) w) ∧ Rok (some (l, xs)))
    (hs : Stb P := by repeat' (first | exact Stb.bel _ | exact Stb.bx | exact Av.stb2 | refine Stb.and ?_ ?_ | exact Stb.triv)) :
    Calls Tryz.prog f args w fun e w' => ∃ a n c b m d, e = .returned (.agg #[.slice a n c, .slice b m d]) ∧ Lv (fun w'' => Av w'' a n c b m d l (xs.map S) (some (l, xs)) ∧ P w'') w' :=
  hc.1.mono fun _ _ ⟨a, n, c, b, m, d, h1, h2, h3, h4⟩ => ⟨a, n, c, b, m, d, h1, ⟨⟨Av.pt h2 h3 hc.2, hs _ _ h.out h4⟩⟩⟩
theorem lw_one {a b : Option Addr} {n c m d : Nat} {l : List Int} {es : List ByteArray} {o : Option Ar} (W : World) (hv : Av W a n c b m d l es o) :
    Lv (fun w' => Bx w' W.heap.size a n c b m d ∧ Av w' a n c b m d l es o ∧ Below W.heap.size W w') (W.alloc (.cells #[.slice a n c, .slice b m d] 25)) := lw_box ⟨Below.refl _ _⟩ hv
/-- Behind a region that draws its order, and lays an array that is told into a box: however it went. -/
def MCut (o : Option Ar) (k : Int) (wz : World) (p q : Value) (wx : World) : Prop :=
  ∃ g a n c b m d, p = .pointer (some ⟨g, 0, none⟩) ∧ q = .int .i64 k ∧ Bx wx g a n c b m d ∧ Av wx a n c b m d (TS o).1 (TS o).2 o ∧ Below wz.heap.size wz wx
theorem MCut.new {wz wb : World} {a b : Option Addr} {n c m d : Nat} {o : Option Ar} {k : Int} (hb : Below wz.heap.size wz wb) (hv : Av wb a n c b m d (TS o).1 (TS o).2 o) : MCut o k wz (.pointer (some ⟨wb.heap.size, 0, none⟩)) (.int .i64 k) (wb.alloc (.cells #[.slice a n c, .slice b m d] 25)) :=
  ⟨_, a, n, c, b, m, d, rfl, rfl, Bx.new _ _ _ _ _ _ _, hv.below ((Below.refl _ _).alloc (Nat.le_refl _) _), hb.alloc hb.size _⟩
theorem MCut.set {wz wb : World} {a b : Option Addr} {g n c m d : Nat} {o : Option Ar} {k : Int} (hb : Below wz.heap.size wz wb) (hv : Av wb a n c b m d (TS o).1 (TS o).2 o) (hZ : Bx wb g none 0 0 none 0 0) (h3 : wz.heap.size ≤ g) : MCut o k wz (.pointer (some ⟨g, 0, none⟩)) (.int .i64 k) ((wb.setCell ⟨g, 0, none⟩ (.slice a n c)).setCell ⟨g, 1, none⟩ (.slice b m d)) :=
  ⟨_, a, n, c, b, m, d, rfl, rfl, hZ.set _ _ _ _ _ _, ⟨⟨hZ.sl hv.v.s _ _, hZ.st hv.v.t _ _, hv.v.mm⟩, hv.c, hv.z, hv.i⟩, below_made hb h3 _ _⟩
theorem lw_cut {P : World → Prop} {wz wx : World} {a b : Option Addr} {g n c m d : Nat} {l : List Int} {es : List ByteArray} {o : Option Ar} (h : Lv P wz) (hB : Bx wx g a n c b m d) (hv : Av wx a n c b m d l es o) (hb : Below wz.heap.size wz wx)
    (hs : Stb P := by repeat' (first | exact Stb.bel _ | exact Stb.bx | exact Av.stb2 | refine Stb.and ?_ ?_ | exact Stb.triv)) :
    Lv (fun w' => Bx w' g a n c b m d ∧ Av w' a n c b m d l es o ∧ P w') wx := ⟨⟨hB, hv, hs _ _ h.out hb⟩⟩
theorem Bx.on {W W' : World} {g : Nat} {a b : Option Addr} {n c m d : Nat} (h : Bx W g a n c b m d) (hb : Below W.heap.size W W') : Bx W' g a n c b m d := h.below hb h.lt
theorem Av.on {W W' : World} {a b : Option Addr} {n c m d : Nat} {l : List Int} {es : List ByteArray} {o : Option Ar} (h : Av W a n c b m d l es o) (hb : Below W.heap.size W W') : Av W' a n c b m d l es o := h.below hb
theorem Bz.a (w : World) : Bx (w.alloc (.cells #[.slice none 0 0, .slice none 0 0] 25)) w.heap.size none 0 0 none 0 0 := Bx.new _ _ _ _ _ _ _
theorem Bz.b (w : World) : Bx (w.alloc (.cells #[.slice none 0 0, .slice none 0 0] 25)).drew w.heap.size none 0 0 none 0 0 := Bz.a w
theorem Bz.c (w : World) : Bx (w.drew.alloc (.cells #[.slice none 0 0, .slice none 0 0] 25)) w.heap.size none 0 0 none 0 0 := Bz.a w.drew
theorem Bz.d (w : World) (o : Obj) : Bx ((w.alloc o).alloc (.cells #[.slice none 0 0, .slice none 0 0] 25)) (w.heap.size + 1) none 0 0 none 0 0 := Bx.two _ _ _ _ _ _ _ _
theorem Bz.e (w : World) (o : Obj) : Bx ((w.alloc o).alloc (.cells #[.slice none 0 0, .slice none 0 0] 25)).drew (w.heap.size + 1) none 0 0 none 0 0 := Bz.d w o
theorem Bz.f (w : World) (o : Obj) : Bx ((w.alloc o).drew.alloc (.cells #[.slice none 0 0, .slice none 0 0] 25)) (w.heap.size + 1) none 0 0 none 0 0 := Bz.d w o
theorem Bz.g (w : World) (o : Obj) : Bx ((w.alloc o).drew.alloc (.cells #[.slice none 0 0, .slice none 0 0] 25)).drew (w.heap.size + 1) none 0 0 none 0 0 := Bz.d w o
theorem Bz.h (w : World) (o : Obj) : Bx ((w.alloc (.cells #[.slice none 0 0, .slice none 0 0] 25)).alloc o) w.heap.size none 0 0 none 0 0 := (Bz.a w).alloc o
theorem Bz.i (w : World) (o : Obj) : Bx ((w.alloc (.cells #[.slice none 0 0, .slice none 0 0] 25)).alloc o).drew w.heap.size none 0 0 none 0 0 := Bz.h w o
theorem Bz.j (w : World) (o : Obj) : Bx ((w.alloc (.cells #[.slice none 0 0, .slice none 0 0] 25)).drew.alloc o) w.heap.size none 0 0 none 0 0 := Bz.h w o
theorem Bz.k (w : World) (o : Obj) : Bx ((w.alloc (.cells #[.slice none 0 0, .slice none 0 0] 25)).drew.alloc o).drew w.heap.size none 0 0 none 0 0 := Bz.h w o
theorem Bz.l (w : World) : Bx (w.drew.alloc (.cells #[.slice none 0 0, .slice none 0 0] 25)).drew w.heap.size none 0 0 none 0 0 := Bz.a w.drew
theorem sc_rok {x : Int} (h : x.natAbs < lim) : Rok (some ([], [x])) := ⟨(by decide : szE [] = 0), (rfl : ((1 : Nat) : Int) = pr []), fun y hy => by rw [List.mem_singleton] at hy; rw [hy]; exact h⟩
theorem VSame_av {W : World} {a1 b1 a2 b2 : Option Addr} {n1 c1 m1 d1 n2 c2 m2 d2 : Nat} {l m : List Int} {es fs : List ByteArray} (h1 : Vl W a1 n1 b1 m1 l es) (h2 : Vl W a2 n2 b2 m2 m fs) (q1 : n1 ≤ 1000000) (q2 : n2 ≤ 1000000) (e1 : l = m) (e2 : es = fs) :
    Calls Tryz.prog 19 #[.agg #[.slice a1 n1 c1, .slice b1 m1 d1], .agg #[.slice a2 n2 c2, .slice b2 m2 d2]] W (BoolEnd true W) := by
  have h := VSame_is (c1 := c1) (d1 := d1) (c2 := c2) (d2 := d2) W h1 h2 q1 q2
  subst e1 e2
  rwa [beq_self_eq_true, decide_eq_true rfl, Bool.and_self] at h
theorem new_drew (w : World) (o : Obj) : (w.alloc o).drew.heap[w.heap.size]? = some o := heap_alloc_new w o
theorem new_past (w : World) (o o' : Obj) : ((w.alloc o).alloc o').heap[w.heap.size]? = some o := (Below.heap_alloc (w.alloc o) o' _ (by simp)).trans (heap_alloc_new w o)
theorem new_pastd (w : World) (o o' : Obj) : ((w.alloc o).alloc o').drew.heap[w.heap.size]? = some o := new_past w o o'
theorem new_pastd2 (w : World) (o o' : Obj) : ((w.alloc o).drew.alloc o').heap[w.heap.size]? = some o := new_past w o o'
theorem new_pastd3 (w : World) (o o' : Obj) : ((w.alloc o).drew.alloc o').drew.heap[w.heap.size]? = some o := new_past w o o'
theorem new_on (w : World) (o o' : Obj) : ((w.alloc o').alloc o).heap[w.heap.size + 1]? = some o := by have := heap_alloc_new (w.alloc o') o; rwa [World.size_alloc] at this
theorem new_ond (w : World) (o o' : Obj) : ((w.alloc o').alloc o).drew.heap[w.heap.size + 1]? = some o := new_on w o o'
theorem new_ond2 (w : World) (o o' : Obj) : ((w.alloc o').drew.alloc o).drew.heap[w.heap.size + 1]? = some o := new_on w o o'
theorem new_ond3 (w : World) (o o' : Obj) : ((w.alloc o').drew.alloc o).heap[w.heap.size + 1]? = some o := new_on w o o'
theorem S_0m : S 0 = ⟨#[48]⟩ := by
  unfold S
  rw [show Lib.itoa 0 = [48] by rw [itoa_pos (by omega)]; exact decDigits_small (n := 0) (by decide)]
theorem S_6m : S 6 = ⟨#[54]⟩ := S_lit (l := [54]) (n := 6) rfl (by unfold AllDig; decide) ⟨_, _, rfl, by decide⟩
theorem S_1m : S 1 = ⟨#[49]⟩ := S_lit (l := [49]) (n := 1) rfl (by unfold AllDig; decide) ⟨_, _, rfl, by decide⟩
theorem S_2m : S 2 = ⟨#[50]⟩ := S_lit (l := [50]) (n := 2) rfl (by unfold AllDig; decide) ⟨_, _, rfl, by decide⟩
theorem S_3m : S 3 = ⟨#[51]⟩ := S_lit (l := [51]) (n := 3) rfl (by unfold AllDig; decide) ⟨_, _, rfl, by decide⟩
theorem S_4m : S 4 = ⟨#[52]⟩ := S_lit (l := [52]) (n := 4) rfl (by unfold AllDig; decide) ⟨_, _, rfl, by decide⟩
theorem S_5m : S 5 = ⟨#[53]⟩ := S_lit (l := [53]) (n := 5) rfl (by unfold AllDig; decide) ⟨_, _, rfl, by decide⟩
theorem sh_1 : ioM (some ([], [6])) = (some ([6], [0, 1, 2, 3, 4, 5]), 0) := by decide
theorem sh_2 : rsM (some ([2], [2, 3])) (some ([6], [0, 1, 2, 3, 4, 5])) = (some ([2, 3], [0, 1, 2, 3, 4, 5]), 0) := by decide
theorem sh_3 : fiM (some ([2, 3], [0, 1, 2, 3, 4, 5])) = (some ([3, 2], [0, 3, 1, 4, 2, 5]), 0) := by decide
end Go.Proofs.YtjpjccilnmlmnaaGreatDoor

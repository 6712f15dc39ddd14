import Derived.Test.YtljkmdmbndjngaaGreatMad
import Derived.Deep.DeepCutAuto
/-
  The printer's tree at a place: its node's kind tells the function, which tells the text.
-/
namespace Go.Proofs.YtljkmdmbndjngaaGreat
set_option linter.unusedVariables false
set_option linter.unusedSimpArgs false
open Go.RowKit Go.Maps

/-- A text, and nothing that was there has turned. -/
def StB (t : ByteArray) (W : World) (e : Ending) (W' : World) : Prop := e = .returned (.string t) ∧ Below W.heap.size W W'
/-- What the printer has in memory: a list of nodes, and the functions. -/
structure Hy (a : Option Addr) (n c : Nat) (f : Nat → Nd) (b : Nat) (W : World) : Prop where
  nq : Nq W a n f
  tq : Tq W b FL
  hn : n ≤ 1000000
  nc : n ≤ c
  cm : c ≤ maxLen
theorem Hy.below {a : Option Addr} {n c : Nat} {f : Nat → Nd} {b : Nat} {W W' : World} (h : Hy a n c f b W) (hb : Below W.heap.size W W') : Hy a n c f b W' := ⟨h.nq.below hb, h.tq.below hb, h.hn, h.nc, h.cm⟩
/-- The printer. -/
def Pv (a : Option Addr) (n c b : Nat) : Value := .agg #[.slice a n c, .map (some b)]
theorem stb_base {t : ByteArray} {F : FuncId} {args : Array Value} {wb w : World} (hb : Below wb.heap.size wb w) (h : Calls Tryz.prog F args w (StB t w)) : Calls Tryz.prog F args w fun e W' => e = .returned (.string t) ∧ Below wb.heap.size wb W' :=
  h.mono fun _ _ ⟨h1, h2⟩ => ⟨h1, hb.trans (h2.mono hb.size)⟩
theorem un_base {l : List Nat} {F : FuncId} {args : Array Value} {wb w : World} (hb : Below wb.heap.size wb w) (h : Calls Tryz.prog F args w (UnEnd l w)) : Calls Tryz.prog F args w fun e W' => ∃ a c, e = .returned (.slice a l.length c) ∧ l.length ≤ c ∧ c ≤ maxLen ∧ Pl W' a l ∧ Below wb.heap.size wb W' :=
  h.mono fun _ _ ⟨a, c, h1, h2, h3, h4, h5⟩ => ⟨a, c, h1, h2, h3, h4, hb.trans (h5.mono hb.size)⟩
theorem below_drewM {B : Nat} {a w : World} (h : Below B a w) (q : Nat) : Below B a (w.drewN q) := ⟨h.os, h.tape, h.output, h.size, h.block⟩
/-- A box with a printer in it. -/
def Bp (W : World) (g : Nat) (a : Option Addr) (n c b : Nat) : Prop := W.heap[g]? = some (.cells #[.slice a n c, .map (some b)] 41 (0, 0))
section
variable {W W' : World} {g n c b : Nat} {a : Option Addr}
theorem Bp.lt (h : Bp W g a n c b) : g < W.heap.size := (Array.getElem?_eq_some_iff.1 h).1
theorem Bp.c0 (h : Bp W g a n c b) : W.cell? ⟨g, 0, none⟩ = some (.slice a n c) := by rw [cell_of_row _ _ 0 _ _ _ h]; rfl
theorem Bp.c1 (h : Bp W g a n c b) : W.cell? ⟨g, 1, none⟩ = some (.map (some b)) := by rw [cell_of_row _ _ 1 _ _ _ h]; rfl
theorem Bp.on (h : Bp W g a n c b) (hb : Below W.heap.size W W') : Bp W' g a n c b := (hb.block g h.lt).trans h
theorem Bp.alloc (h : Bp W g a n c b) (o : Obj) : Bp (W.alloc o) g a n c b := (Below.heap_alloc W o g h.lt).trans h
theorem Bp.new (W : World) (a : Option Addr) (n c b : Nat) : Bp (W.alloc (.cells #[.slice a n c, .map (some b)] 41)) W.heap.size a n c b := heap_alloc_new W _
end
/-- Both boxes that a method lays: its printer's, its node's. -/
theorem boxes (W : World) (a : Option Addr) (n c b : Nat) (k : Int) (v d x : ByteArray) (g : Option Addr) (m e : Nat) (w : World) (hw : w = (W.alloc (.cells #[.slice a n c, .map (some b)] 41)).alloc (.cells #[.int .i64 k, .string v, .string d, .string x, .slice g m e] 37)) :
    Bp w W.heap.size a n c b ∧ Bd w (W.heap.size + 1) k v d x g m e ∧ Below W.heap.size W w := by
  subst hw
  have h := Bd.new (W.alloc (.cells #[.slice a n c, .map (some b)] 41)) k v d x g m e
  rw [show (W.alloc (.cells #[.slice a n c, .map (some b)] 41)).heap.size = W.heap.size + 1 by simp] at h
  have hb := box_below W (.cells #[.slice a n c, .map (some b)] 41)
  exact ⟨(Bp.new W a n c b).alloc _, h, hb.alloc hb.size _⟩
set_option maxRecDepth 10000 in
set_option maxHeartbeats 3200000 in
theorem tree_gen {a : Option Addr} {n c : Nat} {f : Nat → Nd} {b : Nat} (F : FuncId) (t : ByteArray) (us : List Nat) (p : Nat) (W : World) (h : Hy a n c f b W) (hp : p < n) (hw : (Lit.int .i64 (f p).k).wf = true) (hm : ((f p).k, .func (.func F) #[] #[]) ∈ FL)
    (hu : unI (ksF f n) p = us) (KF : ∀ w a' c', Hy a n c f b w → Pl w a' us → us.length ≤ c' → c' ≤ maxLen → Calls Tryz.prog F #[Pv a n c b, (f p).val, .slice a' us.length c'] w (StB t w)) :
    Calls Tryz.prog 12 #[Pv a n c b, .int .i64 p] W (StB t W) := by
  have hn := h.hn
  have hnc := h.nc
  have hcm := h.cm
  obtain ⟨gb, off, rfl, hc⟩ := h.nq.ld (by omega)
  have hd := hc p hp
  clear hc
  have hgl := hd.lt
  have KU := Lib.hid (fun w' (hb : Below W.heap.size W w') => (hu ▸ Under_is (some ⟨gb, off, none⟩) n c f p w' (h.nq.below hb) hn (by omega) : Calls Tryz.prog 29 #[.slice (some ⟨gb, off, none⟩) n c, .int .i64 p] w' (UnEnd us w')))
  have KL := Lib.hid (fun w' (hb : Below W.heap.size W w') => (h.tq.below hb).look Tryz.underlying38 Tryz.underlying3 hw (by decide) hm (by
    intro q hq e
    have : ∀ x ∈ FL, ∀ y ∈ FL, x.1 = y.1 → x = y := by
      intro x hx y hy
      simp only [FL, List.mem_cons, List.not_mem_nil, or_false] at hx hy
      rcases hx with rfl | rfl | rfl | rfl | rfl | rfl | rfl | rfl <;> rcases hy with rfl | rfl | rfl | rfl | rfl | rfl | rfl | rfl <;> intro e <;> first | rfl | (exact absurd e (by decide))
    rw [this q hq _ hm e]))
  have HH := Lib.hid h
  have HF := Lib.hid KF
  obtain ⟨c0, c1, c2, c3, c4⟩ := hd
  have hd1 := (h.nq.on p hp)
  have hE : ((f p).k = 1 ∧ F = 21) ∨ ((f p).k = 2 ∧ F = 22) ∨ ((f p).k = 3 ∧ F = 23) ∨ ((f p).k = 4 ∧ F = 24) ∨ ((f p).k = 5 ∧ F = 25) ∨ ((f p).k = 6 ∧ F = 26) ∨ ((f p).k = 7 ∧ F = 27) ∨ ((f p).k = 8 ∧ F = 28) := by
    simpa [FL] using hm
  clear hm hu KF h
  unfold Nd.val at HF
  generalize (f p).k = dk at *
  generalize (f p).v = dv at *
  generalize (f p).a = da at *
  generalize (f p).x = dx at *
  generalize (f p).g = dg at *
  generalize (f p).m = dm at *
  generalize (f p).c = dc at *
  unfold Pv at *
  go_enter Tryz.func12, Tryz.ntmps12
  go_upto_region 2 with fail
  go_wp2_with fail
  have HZ := boxes W (some ⟨gb, off, none⟩) n c b dk dv da dx dg dm dc _ rfl
  generalize (W.alloc _).alloc _ = wz at *
  obtain ⟨hP, hD, hB⟩ := HZ
  have p0 := hP.c0
  have p1 := hP.c1
  have d0 := hD.c0
  have d1 := hD.c1
  have d2 := hD.c2
  have d3 := hD.c3
  have d4 := hD.c4
  have lp := hP.lt
  have ld := hD.lt
  have KU2 := Lib.hid (fun w' (hb : Below wz.heap.size wz w') => un_base hb (KU.out w' (hB.trans (hb.mono hB.size))))
  have KF2 := Lib.hid (fun w' (hb : Below wz.heap.size wz w') a' c' h1 h2 h3 => stb_base hb (HF.out w' a' c' (HH.out.below (hB.trans (hb.mono hB.size))) h1 h2 h3))
  have hq : Below wz.heap.size wz wz := Below.refl _ _
  clear c0 c1 c2 c3 c4 hP hD
  clear KU HF HH hd1
  rcases hE with ⟨rfl, rfl⟩ | ⟨rfl, rfl⟩ | ⟨rfl, rfl⟩ | ⟨rfl, rfl⟩ | ⟨rfl, rfl⟩ | ⟨rfl, rfl⟩ | ⟨rfl, rfl⟩ | ⟨rfl, rfl⟩
  · go_region_held3 (fun w' => w'.cell? ⟨W.heap.size, 0, none⟩ = some (.slice (some ⟨gb, off, none⟩) n c) ∧ w'.cell? ⟨W.heap.size, 1, none⟩ = some (.map (some b)) ∧ w'.cell? ⟨W.heap.size + 1, 0, none⟩ = some (.int .i64 1) ∧ w'.cell? ⟨W.heap.size + 1, 1, none⟩ = some (.string dv) ∧ w'.cell? ⟨W.heap.size + 1, 2, none⟩ = some (.string da) ∧ w'.cell? ⟨W.heap.size + 1, 3, none⟩ = some (.string dx) ∧ w'.cell? ⟨W.heap.size + 1, 4, none⟩ = some (.slice dg dm dc) ∧ (Instr.lookup 38 (.map (some b)) (.int .i64 1) false).run Tryz.prog w' = .ok (.func (.func 21) #[] #[]) w')
      (first | exact ⟨(Below.cell (p := ⟨W.heap.size, 0, none⟩) (by repeat' (first | exact hq | refine Below.drew ?_)) lp).trans p0, (Below.cell (p := ⟨W.heap.size, 1, none⟩) (by repeat' (first | exact hq | refine Below.drew ?_)) lp).trans p1, (Below.cell (p := ⟨W.heap.size + 1, 0, none⟩) (by repeat' (first | exact hq | refine Below.drew ?_)) ld).trans d0, (Below.cell (p := ⟨W.heap.size + 1, 1, none⟩) (by repeat' (first | exact hq | refine Below.drew ?_)) ld).trans d1, (Below.cell (p := ⟨W.heap.size + 1, 2, none⟩) (by repeat' (first | exact hq | refine Below.drew ?_)) ld).trans d2, (Below.cell (p := ⟨W.heap.size + 1, 3, none⟩) (by repeat' (first | exact hq | refine Below.drew ?_)) ld).trans d3, (Below.cell (p := ⟨W.heap.size + 1, 4, none⟩) (by repeat' (first | exact hq | refine Below.drew ?_)) ld).trans d4, KL.out _ (hB.trans (Below.mono (by repeat' (first | exact hq | refine Below.drew ?_)) hB.size))⟩ | fail)
      (first
        | (go_at_call 29; (with_reducible refine (KU2.out _ (by repeat' (first | exact hq | refine Below.drew ?_))).mono ?_); rintro e wa ⟨a', c', rfl, hc1, hc2, hpl, hq⟩)
        | ((with_reducible refine (KF2.out _ (by repeat' (first | exact hq | refine Below.drew ?_)) _ _ hpl hc1 hc2).mono ?_); rintro e wa ⟨rfl, hq⟩)
        | fail)
    all_goals
      go_wp2_with fail
      go_ret
      exact ⟨rfl, hB.trans (hq.mono hB.size)⟩
  · go_region_held3 (fun w' => w'.cell? ⟨W.heap.size, 0, none⟩ = some (.slice (some ⟨gb, off, none⟩) n c) ∧ w'.cell? ⟨W.heap.size, 1, none⟩ = some (.map (some b)) ∧ w'.cell? ⟨W.heap.size + 1, 0, none⟩ = some (.int .i64 2) ∧ w'.cell? ⟨W.heap.size + 1, 1, none⟩ = some (.string dv) ∧ w'.cell? ⟨W.heap.size + 1, 2, none⟩ = some (.string da) ∧ w'.cell? ⟨W.heap.size + 1, 3, none⟩ = some (.string dx) ∧ w'.cell? ⟨W.heap.size + 1, 4, none⟩ = some (.slice dg dm dc) ∧ (Instr.lookup 38 (.map (some b)) (.int .i64 2) false).run Tryz.prog w' = .ok (.func (.func 22) #[] #[]) w')
      (first | exact ⟨(Below.cell (p := ⟨W.heap.size, 0, none⟩) (by repeat' (first | exact hq | refine Below.drew ?_)) lp).trans p0, (Below.cell (p := ⟨W.heap.size, 1, none⟩) (by repeat' (first | exact hq | refine Below.drew ?_)) lp).trans p1, (Below.cell (p := ⟨W.heap.size + 1, 0, none⟩) (by repeat' (first | exact hq | refine Below.drew ?_)) ld).trans d0, (Below.cell (p := ⟨W.heap.size + 1, 1, none⟩) (by repeat' (first | exact hq | refine Below.drew ?_)) ld).trans d1, (Below.cell (p := ⟨W.heap.size + 1, 2, none⟩) (by repeat' (first | exact hq | refine Below.drew ?_)) ld).trans d2, (Below.cell (p := ⟨W.heap.size + 1, 3, none⟩) (by repeat' (first | exact hq | refine Below.drew ?_)) ld).trans d3, (Below.cell (p := ⟨W.heap.size + 1, 4, none⟩) (by repeat' (first | exact hq | refine Below.drew ?_)) ld).trans d4, KL.out _ (hB.trans (Below.mono (by repeat' (first | exact hq | refine Below.drew ?_)) hB.size))⟩ | fail)
      (first
        | (go_at_call 29; (with_reducible refine (KU2.out _ (by repeat' (first | exact hq | refine Below.drew ?_))).mono ?_); rintro e wa ⟨a', c', rfl, hc1, hc2, hpl, hq⟩)
        | ((with_reducible refine (KF2.out _ (by repeat' (first | exact hq | refine Below.drew ?_)) _ _ hpl hc1 hc2).mono ?_); rintro e wa ⟨rfl, hq⟩)
        | fail)
    all_goals
      go_wp2_with fail
      go_ret
      exact ⟨rfl, hB.trans (hq.mono hB.size)⟩
  · go_region_held3 (fun w' => w'.cell? ⟨W.heap.size, 0, none⟩ = some (.slice (some ⟨gb, off, none⟩) n c) ∧ w'.cell? ⟨W.heap.size, 1, none⟩ = some (.map (some b)) ∧ w'.cell? ⟨W.heap.size + 1, 0, none⟩ = some (.int .i64 3) ∧ w'.cell? ⟨W.heap.size + 1, 1, none⟩ = some (.string dv) ∧ w'.cell? ⟨W.heap.size + 1, 2, none⟩ = some (.string da) ∧ w'.cell? ⟨W.heap.size + 1, 3, none⟩ = some (.string dx) ∧ w'.cell? ⟨W.heap.size + 1, 4, none⟩ = some (.slice dg dm dc) ∧ (Instr.lookup 38 (.map (some b)) (.int .i64 3) false).run Tryz.prog w' = .ok (.func (.func 23) #[] #[]) w')
      (first | exact ⟨(Below.cell (p := ⟨W.heap.size, 0, none⟩) (by repeat' (first | exact hq | refine Below.drew ?_)) lp).trans p0, (Below.cell (p := ⟨W.heap.size, 1, none⟩) (by repeat' (first | exact hq | refine Below.drew ?_)) lp).trans p1, (Below.cell (p := ⟨W.heap.size + 1, 0, none⟩) (by repeat' (first | exact hq | refine Below.drew ?_)) ld).trans d0, (Below.cell (p := ⟨W.heap.size + 1, 1, none⟩) (by repeat' (first | exact hq | refine Below.drew ?_)) ld).trans d1, (Below.cell (p := ⟨W.heap.size + 1, 2, none⟩) (by repeat' (first | exact hq | refine Below.drew ?_)) ld).trans d2, (Below.cell (p := ⟨W.heap.size + 1, 3, none⟩) (by repeat' (first | exact hq | refine Below.drew ?_)) ld).trans d3, (Below.cell (p := ⟨W.heap.size + 1, 4, none⟩) (by repeat' (first | exact hq | refine Below.drew ?_)) ld).trans d4, KL.out _ (hB.trans (Below.mono (by repeat' (first | exact hq | refine Below.drew ?_)) hB.size))⟩ | fail)
      (first
        | (go_at_call 29; (with_reducible refine (KU2.out _ (by repeat' (first | exact hq | refine Below.drew ?_))).mono ?_); rintro e wa ⟨a', c', rfl, hc1, hc2, hpl, hq⟩)
        | ((with_reducible refine (KF2.out _ (by repeat' (first | exact hq | refine Below.drew ?_)) _ _ hpl hc1 hc2).mono ?_); rintro e wa ⟨rfl, hq⟩)
        | fail)
    all_goals
      go_wp2_with fail
      go_ret
      exact ⟨rfl, hB.trans (hq.mono hB.size)⟩
  · go_region_held3 (fun w' => w'.cell? ⟨W.heap.size, 0, none⟩ = some (.slice (some ⟨gb, off, none⟩) n c) ∧ w'.cell? ⟨W.heap.size, 1, none⟩ = some (.map (some b)) ∧ w'.cell? ⟨W.heap.size + 1, 0, none⟩ = some (.int .i64 4) ∧ w'.cell? ⟨W.heap.size + 1, 1, none⟩ = some (.string dv) ∧ w'.cell? ⟨W.heap.size + 1, 2, none⟩ = some (.string da) ∧ w'.cell? ⟨W.heap.size + 1, 3, none⟩ = some (.string dx) ∧ w'.cell? ⟨W.heap.size + 1, 4, none⟩ = some (.slice dg dm dc) ∧ (Instr.lookup 38 (.map (some b)) (.int .i64 4) false).run Tryz.prog w' = .ok (.func (.func 24) #[] #[]) w')
      (first | exact ⟨(Below.cell (p := ⟨W.heap.size, 0, none⟩) (by repeat' (first | exact hq | refine Below.drew ?_)) lp).trans p0, (Below.cell (p := ⟨W.heap.size, 1, none⟩) (by repeat' (first | exact hq | refine Below.drew ?_)) lp).trans p1, (Below.cell (p := ⟨W.heap.size + 1, 0, none⟩) (by repeat' (first | exact hq | refine Below.drew ?_)) ld).trans d0, (Below.cell (p := ⟨W.heap.size + 1, 1, none⟩) (by repeat' (first | exact hq | refine Below.drew ?_)) ld).trans d1, (Below.cell (p := ⟨W.heap.size + 1, 2, none⟩) (by repeat' (first | exact hq | refine Below.drew ?_)) ld).trans d2, (Below.cell (p := ⟨W.heap.size + 1, 3, none⟩) (by repeat' (first | exact hq | refine Below.drew ?_)) ld).trans d3, (Below.cell (p := ⟨W.heap.size + 1, 4, none⟩) (by repeat' (first | exact hq | refine Below.drew ?_)) ld).trans d4, KL.out _ (hB.trans (Below.mono (by repeat' (first | exact hq | refine Below.drew ?_)) hB.size))⟩ | fail)
      (first
        | (go_at_call 29; (with_reducible refine (KU2.out _ (by repeat' (first | exact hq | refine Below.drew ?_))).mono ?_); rintro e wa ⟨a', c', rfl, hc1, hc2, hpl, hq⟩)
        | ((with_reducible refine (KF2.out _ (by repeat' (first | exact hq | refine Below.drew ?_)) _ _ hpl hc1 hc2).mono ?_); rintro e wa ⟨rfl, hq⟩)
        | fail)
    all_goals
      go_wp2_with fail
      go_ret
      exact ⟨rfl, hB.trans (hq.mono hB.size)⟩
  · go_region_held3 (fun w' => w'.cell? ⟨W.heap.size, 0, none⟩ = some (.slice (some ⟨gb, off, none⟩) n c) ∧ w'.cell? ⟨W.heap.size, 1, none⟩ = some (.map (some b)) ∧ w'.cell? ⟨W.heap.size + 1, 0, none⟩ = some (.int .i64 5) ∧ w'.cell? ⟨W.heap.size + 1, 1, none⟩ = some (.string dv) ∧ w'.cell? ⟨W.heap.size + 1, 2, none⟩ = some (.string da) ∧ w'.cell? ⟨W.heap.size + 1, 3, none⟩ = some (.string dx) ∧ w'.cell? ⟨W.heap.size + 1, 4, none⟩ = some (.slice dg dm dc) ∧ (Instr.lookup 38 (.map (some b)) (.int .i64 5) false).run Tryz.prog w' = .ok (.func (.func 25) #[] #[]) w')
      (first | exact ⟨(Below.cell (p := ⟨W.heap.size, 0, none⟩) (by repeat' (first | exact hq | refine Below.drew ?_)) lp).trans p0, (Below.cell (p := ⟨W.heap.size, 1, none⟩) (by repeat' (first | exact hq | refine Below.drew ?_)) lp).trans p1, (Below.cell (p := ⟨W.heap.size + 1, 0, none⟩) (by repeat' (first | exact hq | refine Below.drew ?_)) ld).trans d0, (Below.cell (p := ⟨W.heap.size + 1, 1, none⟩) (by repeat' (first | exact hq | refine Below.drew ?_)) ld).trans d1, (Below.cell (p := ⟨W.heap.size + 1, 2, none⟩) (by repeat' (first | exact hq | refine Below.drew ?_)) ld).trans d2, (Below.cell (p := ⟨W.heap.size + 1, 3, none⟩) (by repeat' (first | exact hq | refine Below.drew ?_)) ld).trans d3, (Below.cell (p := ⟨W.heap.size + 1, 4, none⟩) (by repeat' (first | exact hq | refine Below.drew ?_)) ld).trans d4, KL.out _ (hB.trans (Below.mono (by repeat' (first | exact hq | refine Below.drew ?_)) hB.size))⟩ | fail)
      (first
        | (go_at_call 29; (with_reducible refine (KU2.out _ (by repeat' (first | exact hq | refine Below.drew ?_))).mono ?_); rintro e wa ⟨a', c', rfl, hc1, hc2, hpl, hq⟩)
        | ((with_reducible refine (KF2.out _ (by repeat' (first | exact hq | refine Below.drew ?_)) _ _ hpl hc1 hc2).mono ?_); rintro e wa ⟨rfl, hq⟩)
        | fail)
    all_goals
      go_wp2_with fail
      go_ret
      exact ⟨rfl, hB.trans (hq.mono hB.size)⟩
  · go_region_held3 (fun w' => w'.cell? ⟨W.heap.size, 0, none⟩ = some (.slice (some ⟨gb, off, none⟩) n c) ∧ w'.cell? ⟨W.heap.size, 1, none⟩ = some (.map (some b)) ∧ w'.cell? ⟨W.heap.size + 1, 0, none⟩ = some (.int .i64 6) ∧ w'.cell? ⟨W.heap.size + 1, 1, none⟩ = some (.string dv) ∧ w'.cell? ⟨W.heap.size + 1, 2, none⟩ = some (.string da) ∧ w'.cell? ⟨W.heap.size + 1, 3, none⟩ = some (.string dx) ∧ w'.cell? ⟨W.heap.size + 1, 4, none⟩ = some (.slice dg dm dc) ∧ (Instr.lookup 38 (.map (some b)) (.int .i64 6) false).run Tryz.prog w' = .ok (.func (.func 26) #[] #[]) w')
      (first | exact ⟨(Below.cell (p := ⟨W.heap.size, 0, none⟩) (by repeat' (first | exact hq | refine Below.drew ?_)) lp).trans p0, (Below.cell (p := ⟨W.heap.size, 1, none⟩) (by repeat' (first | exact hq | refine Below.drew ?_)) lp).trans p1, (Below.cell (p := ⟨W.heap.size + 1, 0, none⟩) (by repeat' (first | exact hq | refine Below.drew ?_)) ld).trans d0, (Below.cell (p := ⟨W.heap.size + 1, 1, none⟩) (by repeat' (first | exact hq | refine Below.drew ?_)) ld).trans d1, (Below.cell (p := ⟨W.heap.size + 1, 2, none⟩) (by repeat' (first | exact hq | refine Below.drew ?_)) ld).trans d2, (Below.cell (p := ⟨W.heap.size + 1, 3, none⟩) (by repeat' (first | exact hq | refine Below.drew ?_)) ld).trans d3, (Below.cell (p := ⟨W.heap.size + 1, 4, none⟩) (by repeat' (first | exact hq | refine Below.drew ?_)) ld).trans d4, KL.out _ (hB.trans (Below.mono (by repeat' (first | exact hq | refine Below.drew ?_)) hB.size))⟩ | fail)
      (first
        | (go_at_call 29; (with_reducible refine (KU2.out _ (by repeat' (first | exact hq | refine Below.drew ?_))).mono ?_); rintro e wa ⟨a', c', rfl, hc1, hc2, hpl, hq⟩)
        | ((with_reducible refine (KF2.out _ (by repeat' (first | exact hq | refine Below.drew ?_)) _ _ hpl hc1 hc2).mono ?_); rintro e wa ⟨rfl, hq⟩)
        | fail)
    all_goals
      go_wp2_with fail
      go_ret
      exact ⟨rfl, hB.trans (hq.mono hB.size)⟩
  · go_region_held3 (fun w' => w'.cell? ⟨W.heap.size, 0, none⟩ = some (.slice (some ⟨gb, off, none⟩) n c) ∧ w'.cell? ⟨W.heap.size, 1, none⟩ = some (.map (some b)) ∧ w'.cell? ⟨W.heap.size + 1, 0, none⟩ = some (.int .i64 7) ∧ w'.cell? ⟨W.heap.size + 1, 1, none⟩ = some (.string dv) ∧ w'.cell? ⟨W.heap.size + 1, 2, none⟩ = some (.string da) ∧ w'.cell? ⟨W.heap.size + 1, 3, none⟩ = some (.string dx) ∧ w'.cell? ⟨W.heap.size + 1, 4, none⟩ = some (.slice dg dm dc) ∧ (Instr.lookup 38 (.map (some b)) (.int .i64 7) false).run Tryz.prog w' = .ok (.func (.func 27) #[] #[]) w')
      (first | exact ⟨(Below.cell (p := ⟨W.heap.size, 0, none⟩) (by repeat' (first | exact hq | refine Below.drew ?_)) lp).trans p0, (Below.cell (p := ⟨W.heap.size, 1, none⟩) (by repeat' (first | exact hq | refine Below.drew ?_)) lp).trans p1, (Below.cell (p := ⟨W.heap.size + 1, 0, none⟩) (by repeat' (first | exact hq | refine Below.drew ?_)) ld).trans d0, (Below.cell (p := ⟨W.heap.size + 1, 1, none⟩) (by repeat' (first | exact hq | refine Below.drew ?_)) ld).trans d1, (Below.cell (p := ⟨W.heap.size + 1, 2, none⟩) (by repeat' (first | exact hq | refine Below.drew ?_)) ld).trans d2, (Below.cell (p := ⟨W.heap.size + 1, 3, none⟩) (by repeat' (first | exact hq | refine Below.drew ?_)) ld).trans d3, (Below.cell (p := ⟨W.heap.size + 1, 4, none⟩) (by repeat' (first | exact hq | refine Below.drew ?_)) ld).trans d4, KL.out _ (hB.trans (Below.mono (by repeat' (first | exact hq | refine Below.drew ?_)) hB.size))⟩ | fail)
      (first
        | (go_at_call 29; (with_reducible refine (KU2.out _ (by repeat' (first | exact hq | refine Below.drew ?_))).mono ?_); rintro e wa ⟨a', c', rfl, hc1, hc2, hpl, hq⟩)
        | ((with_reducible refine (KF2.out _ (by repeat' (first | exact hq | refine Below.drew ?_)) _ _ hpl hc1 hc2).mono ?_); rintro e wa ⟨rfl, hq⟩)
        | fail)
    all_goals
      go_wp2_with fail
      go_ret
      exact ⟨rfl, hB.trans (hq.mono hB.size)⟩
  · go_region_held3 (fun w' => w'.cell? ⟨W.heap.size, 0, none⟩ = some (.slice (some ⟨gb, off, none⟩) n c) ∧ w'.cell? ⟨W.heap.size, 1, none⟩ = some (.map (some b)) ∧ w'.cell? ⟨W.heap.size + 1, 0, none⟩ = some (.int .i64 8) ∧ w'.cell? ⟨W.heap.size + 1, 1, none⟩ = some (.string dv) ∧ w'.cell? ⟨W.heap.size + 1, 2, none⟩ = some (.string da) ∧ w'.cell? ⟨W.heap.size + 1, 3, none⟩ = some (.string dx) ∧ w'.cell? ⟨W.heap.size + 1, 4, none⟩ = some (.slice dg dm dc) ∧ (Instr.lookup 38 (.map (some b)) (.int .i64 8) false).run Tryz.prog w' = .ok (.func (.func 28) #[] #[]) w')
      (first | exact ⟨(Below.cell (p := ⟨W.heap.size, 0, none⟩) (by repeat' (first | exact hq | refine Below.drew ?_)) lp).trans p0, (Below.cell (p := ⟨W.heap.size, 1, none⟩) (by repeat' (first | exact hq | refine Below.drew ?_)) lp).trans p1, (Below.cell (p := ⟨W.heap.size + 1, 0, none⟩) (by repeat' (first | exact hq | refine Below.drew ?_)) ld).trans d0, (Below.cell (p := ⟨W.heap.size + 1, 1, none⟩) (by repeat' (first | exact hq | refine Below.drew ?_)) ld).trans d1, (Below.cell (p := ⟨W.heap.size + 1, 2, none⟩) (by repeat' (first | exact hq | refine Below.drew ?_)) ld).trans d2, (Below.cell (p := ⟨W.heap.size + 1, 3, none⟩) (by repeat' (first | exact hq | refine Below.drew ?_)) ld).trans d3, (Below.cell (p := ⟨W.heap.size + 1, 4, none⟩) (by repeat' (first | exact hq | refine Below.drew ?_)) ld).trans d4, KL.out _ (hB.trans (Below.mono (by repeat' (first | exact hq | refine Below.drew ?_)) hB.size))⟩ | fail)
      (first
        | (go_at_call 29; (with_reducible refine (KU2.out _ (by repeat' (first | exact hq | refine Below.drew ?_))).mono ?_); rintro e wa ⟨a', c', rfl, hc1, hc2, hpl, hq⟩)
        | ((with_reducible refine (KF2.out _ (by repeat' (first | exact hq | refine Below.drew ?_)) _ _ hpl hc1 hc2).mono ?_); rintro e wa ⟨rfl, hq⟩)
        | fail)
    all_goals
      go_wp2_with fail
      go_ret
      exact ⟨rfl, hB.trans (hq.mono hB.size)⟩
end Go.Proofs.YtljkmdmbndjngaaGreat

import Derived.Test.YtogphdflgcdiiaaDoorMbh
/-
  What scalar's functions answer, as the document says: their contracts, and the statements' own example.
-/
namespace Go.Proofs.YtogphdflgcdiiaaDoor
set_option linter.unusedVariables false
set_option linter.unusedSimpArgs false
open Go.RowKit

theorem swr {x : Int} (h1 : -9223372036854775808 ≤ x) (h2 : x ≤ 9223372036854775807) : IntKind.i64.wrap x = x := IntWalk.i64_in _ (by omega)
theorem toList_inj {a b : ByteArray} (h : a.toList = b.toList) : a = b := by
  rw [str_tl, str_tl] at h
  obtain ⟨⟨l⟩⟩ := a
  obtain ⟨⟨m⟩⟩ := b
  have h : l = m := h
  rw [h]
/-- The signs of two numbers, whether they are whole, and their units, as the table has them; behind the last nothing. -/
def dS (k : Nat) : ByteArray := [(⟨#[43]⟩ : ByteArray), ⟨#[45]⟩, ⟨#[42]⟩, ⟨#[37]⟩, ⟨#[33]⟩, ⟨#[38]⟩, ⟨#[124]⟩, ⟨#[60]⟩, ⟨#[62]⟩, ⟨#[61]⟩, ⟨#[126]⟩].getD k ⟨#[]⟩
def dW (k : Nat) : Bool := [true, true, true, false, false, true, true, true, true, true, true].getD k false
def dU (k : Nat) : ByteArray := [(⟨#[48]⟩ : ByteArray), ⟨#[]⟩, ⟨#[49]⟩].getD k ⟨#[]⟩
def drow : Array Value := ((List.range 11).flatMap fun k => [Value.string (dS k), Value.bool (dW k), Value.string (dU k)]).toArray
def mrow : Array Value := #[.string ⟨#[45]⟩, .string ⟨#[126]⟩, .string ⟨#[42]⟩]
def RowAt (w : World) (g : Nat) (r : Array Value) : Prop := ∃ t fr, w.heap[g]? = some (.cells r t fr)
theorem RowAt.below {w w' : World} {g : Nat} {r : Array Value} (h : RowAt w g r) (hb : Below w.heap.size w w') : RowAt w' g r := by
  obtain ⟨t, fr, h⟩ := h
  exact ⟨t, fr, (hb.block _ (Array.getElem?_eq_some_iff.1 h).1).trans h⟩
/-- The world in which signs are done. -/
structure SC (W : World) : Prop where
  tab : Tab W
  dy : RowAt W 0 drow
  mo : RowAt W 1 mrow
theorem SC.below {w w' : World} (h : SC w) (hb : Below w.heap.size w w') : SC w' := ⟨h.tab.below hb, h.dy.below hb, h.mo.below hb⟩
def DyIs (op a b d : ByteArray) (ec : Int) : Prop := ∀ w, SC w → Calls Tryd.prog 10 #[.string op, .string a, .string b] w fun e w' => e = .returned (.tuple #[.string d, .int .i64 ec]) ∧ Below w.heap.size w w'
def MnIs (op a d : ByteArray) (ec : Int) : Prop := ∀ w, SC w → Calls Tryd.prog 15 #[.string op, .string a] w fun e w' => e = .returned (.tuple #[.string d, .int .i64 ec]) ∧ Below w.heap.size w w'
def WhIs (op : ByteArray) (b : Bool) : Prop := ∀ w, SC w → Calls Tryd.prog 13 #[.string op] w fun e w' => e = .returned (.bool b) ∧ Below w.heap.size w w'
def UnIs (op u : ByteArray) (b : Bool) : Prop := ∀ w, SC w → Calls Tryd.prog 14 #[.string op] w fun e w' => e = .returned (.tuple #[.string u, .bool b]) ∧ Below w.heap.size w w'
def DsIs : Prop := ∀ w, SC w → Calls Tryd.prog 12 #[] w fun e w' => e = .returned (.string ⟨#[43, 45, 42, 37, 33, 38, 124, 60, 62, 61, 126]⟩) ∧ Below w.heap.size w w'
def MsIs : Prop := ∀ w, SC w → Calls Tryd.prog 16 #[] w fun e w' => e = .returned (.string ⟨#[45, 126, 42]⟩) ∧ Below w.heap.size w w'
def ShownIs : Prop := ∀ w, SC w → Calls Tryd.prog 8 #[] w (TrueEnd w)
def DyOk : Prop := ∀ {op s t : ByteArray} {o p : Option Int}, op.size ≤ maxLen → Is s o → Is t p → DyIs op s t (T (dyO (kdL op.data.toList) o p).1) (dyO (kdL op.data.toList) o p).2
def MnOk : Prop := ∀ {op s : ByteArray} {o : Option Int}, op.size ≤ maxLen → Is s o → MnIs op s (T (mnO (kmL op.data.toList) o).1) (mnO (kmL op.data.toList) o).2
def WhOk : Prop := ∀ {op : ByteArray}, op.size ≤ maxLen → WhIs op (whB (kdL op.data.toList))
/-- Units: 0 of +, 1 of *. -/
def UnOk : Prop := ∀ {op : ByteArray}, op.size ≤ maxLen → UnIs op (if op.data.toList = [43] then ⟨#[48]⟩ else if op.data.toList = [42] then ⟨#[49]⟩ else ⟨#[]⟩) (decide (op.data.toList = [43]) || decide (op.data.toList = [42]))
theorem S_3 : S 3 = ⟨#[51]⟩ := S_lit (l := [51]) (n := 3) rfl (by unfold AllDig; decide) ⟨_, _, rfl, by decide⟩
theorem S_7 : S 7 = ⟨#[55]⟩ := S_lit (l := [55]) (n := 7) rfl (by unfold AllDig; decide) ⟨_, _, rfl, by decide⟩
theorem S_2 : S 2 = ⟨#[50]⟩ := S_lit (l := [50]) (n := 2) rfl (by unfold AllDig; decide) ⟨_, _, rfl, by decide⟩
theorem S_1 : S 1 = ⟨#[49]⟩ := S_lit (l := [49]) (n := 1) rfl (by unfold AllDig; decide) ⟨_, _, rfl, by decide⟩
theorem S_m7 : S (-7) = ⟨#[45, 55]⟩ := S_nlit (l := [55]) (n := 7) rfl (by decide) (by unfold AllDig; decide) ⟨_, _, rfl, by decide⟩
theorem S_0 : S 0 = ⟨#[48]⟩ := by
  rw [S_pos (n := 0) rfl (by decide), decDigits_small (by decide)]
  rfl
theorem lit_is {s : ByteArray} {x : Int} (h : S x = s) (hx : x.natAbs < 1000) : Is s (some x) := ⟨h.symm, Nat.lt_of_lt_of_le hx (Nat.le_trans (by decide) lim_big)⟩
theorem dy_lit (H : DyOk) {op s t d : ByteArray} {x y z : Int} {k : Nat} (hk : kdL op.data.toList = k) (ho : op.size ≤ maxLen) (hs : S x = s) (hx : x.natAbs < 1000) (ht : S y = t) (hy : y.natAbs < 1000) (hd : S z = d) (he : dyI k x y = (some z, 0)) : DyIs op s t d 0 := by
  have h := H ho (lit_is hs hx) (lit_is ht hy)
  rw [hk] at h
  simp only [dyO, he] at h
  rw [← hd]
  exact h
set_option maxRecDepth 10000 in
set_option maxHeartbeats 3200000 in
theorem shown_all (H : DyOk) (HD : DsIs) (HM : MsIs) : ShownIs := by
  intro w hw
  have h1 : DyIs ⟨#[37]⟩ ⟨#[55]⟩ ⟨#[50]⟩ ⟨#[51]⟩ 0 := dy_lit H (k := 3) rfl (by decide) S_7 (by decide) S_2 (by decide) S_3 (by decide)
  have h2 : DyIs ⟨#[33]⟩ ⟨#[55]⟩ ⟨#[50]⟩ ⟨#[49]⟩ 0 := dy_lit H (k := 4) rfl (by decide) S_7 (by decide) S_2 (by decide) S_1 (by decide)
  have h3 : DyIs ⟨#[33]⟩ ⟨#[45, 55]⟩ ⟨#[50]⟩ ⟨#[49]⟩ 0 := dy_lit H (k := 4) rfl (by decide) S_m7 (by decide) S_2 (by decide) S_1 (by decide)
  have K1 := Lib.hid h1
  have K2 := Lib.hid h2
  have K3 := Lib.hid h3
  have K4 := Lib.hid HD
  have K5 := Lib.hid HM
  clear h1 h2 h3 HD HM H
  go_enter Tryd.func8, Tryd.ntmps8
  go_wp2_with fail
  refine (K1.out _ hw).mono ?_
  rintro e w1 ⟨rfl, hb⟩
  go_wp2_with fail
  refine (K2.out _ (hw.below hb)).mono ?_
  rintro e w2 ⟨rfl, hq⟩
  replace hb := hb.trans (hq.mono hb.size)
  clear hq
  go_wp2_with fail
  refine (K3.out _ (hw.below hb)).mono ?_
  rintro e w3 ⟨rfl, hq⟩
  replace hb := hb.trans (hq.mono hb.size)
  clear hq
  go_wp2_with fail
  refine (K4.out _ (hw.below hb)).mono ?_
  rintro e w4 ⟨rfl, hq⟩
  replace hb := hb.trans (hq.mono hb.size)
  clear hq
  go_wp2_with fail
  refine (K5.out _ (hw.below hb)).mono ?_
  rintro e w5 ⟨rfl, hq⟩
  replace hb := hb.trans (hq.mono hb.size)
  clear hq
  go_wp2_with fail
  go_ret
  exact ⟨rfl, hb⟩
end Go.Proofs.YtogphdflgcdiiaaDoor

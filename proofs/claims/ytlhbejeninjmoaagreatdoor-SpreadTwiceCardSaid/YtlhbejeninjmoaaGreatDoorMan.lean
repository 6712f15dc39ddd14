import Derived.Test.YtlhbejeninjmoaaGreatDoorMam
import Derived.Test.YtlhbejeninjmoaaGreatDoorMag
import Derived.Lib.LaidU8
import Derived.Test.YtlhbejeninjmoaaGreatDoorMak
import Derived.Maps.Own
import Derived.StringKeys
/-
  What scalar's functions answer, as the document says: their contracts, and the statements' own example.
-/
namespace Go.Proofs.YtlhbejeninjmoaaGreatDoor
set_option linter.unusedVariables false
set_option linter.unusedSimpArgs false
open Go.RowKit

theorem swr {x : Int} (h1 : -9223372036854775808 ≤ x) (h2 : x ≤ 9223372036854775807) : IntKind.i64.wrap x = x := IntWalk.i64_in _ (by omega)
theorem toList_inj {a b : ByteArray} (h : a.toList = b.toList) : a = b := by
  rw [str_tl, str_tl] at h
  obtain ⟨⟨l⟩⟩ := a
  obtain ⟨⟨m⟩⟩ := b
  have h : l = m := h
  rw [h]
/-- The signs of two numbers, whether they are whole, and their units, as the table has them; behind the last nothing. -/
def dS (k : Nat) : ByteArray := [(⟨#[43]⟩ : ByteArray), ⟨#[45]⟩, ⟨#[42]⟩, ⟨#[37]⟩, ⟨#[33]⟩, ⟨#[38]⟩, ⟨#[124]⟩, ⟨#[60]⟩, ⟨#[62]⟩, ⟨#[61]⟩, ⟨#[126]⟩].getD k ⟨#[]⟩
def dW (k : Nat) : Bool := [true, true, true, false, false, true, true, true, true, true, true].getD k false
def dU (k : Nat) : ByteArray := [(⟨#[48]⟩ : ByteArray), ⟨#[]⟩, ⟨#[49]⟩].getD k ⟨#[]⟩
def drow : Array Value := ((List.range 11).flatMap fun k => [Value.string (dS k), Value.bool (dW k), Value.string (dU k)]).toArray
def mrow : Array Value := #[.string ⟨#[45]⟩, .string ⟨#[126]⟩, .string ⟨#[42]⟩]
def RowAt (w : World) (g : Nat) (r : Array Value) : Prop := ∃ t fr, w.heap[g]? = some (.cells r t fr)
theorem RowAt.below {w w' : World} {g : Nat} {r : Array Value} (h : RowAt w g r) (hb : Below w.heap.size w w') : RowAt w' g r := by
  obtain ⟨t, fr, h⟩ := h
  exact ⟨t, fr, (hb.block _ (Array.getElem?_eq_some_iff.1 h).1).trans h⟩
/-- The world in which signs are done. -/
structure SC (W : World) : Prop where
  tab : Tab W
  dy : RowAt W 1 drow
theorem SC.below {w w' : World} (h : SC w) (hb : Below w.heap.size w w') : SC w' := ⟨h.tab.below hb, h.dy.below hb⟩
/-- .. the signs of one number too. -/
structure SM (W : World) : Prop where
  sc : SC W
  mo : RowAt W 0 mrow
theorem SM.below {w w' : World} (h : SM w) (hb : Below w.heap.size w w') : SM w' := ⟨h.sc.below hb, h.mo.below hb⟩
def DyIs (op a b d : ByteArray) (ec : Int) : Prop := ∀ w, SC w → Calls Tryz.prog 26 #[.string op, .string a, .string b] w fun e w' => e = .returned (.tuple #[.string d, .int .i64 ec]) ∧ Below w.heap.size w w'
def MnIs (op a d : ByteArray) (ec : Int) : Prop := ∀ w, SC w → Calls Tryz.prog 34 #[.string op, .string a] w fun e w' => e = .returned (.tuple #[.string d, .int .i64 ec]) ∧ Below w.heap.size w w'
def DsIs : Prop := ∀ w, SC w → Calls Tryz.prog 38 #[] w fun e w' => e = .returned (.string ⟨#[43, 45, 42, 37, 33, 38, 124, 60, 62, 61, 126]⟩) ∧ Below w.heap.size w w'
def MsIs : Prop := ∀ w, SM w → Calls Tryz.prog 33 #[] w fun e w' => e = .returned (.string ⟨#[45, 126, 42]⟩) ∧ Below w.heap.size w w'
def DyOk : Prop := ∀ {op s t : ByteArray} {o p : Option Int}, op.size ≤ maxLen → Is s o → Is t p → DyIs op s t (T (dyO (kdL op.data.toList) o p).1) (dyO (kdL op.data.toList) o p).2
def MnOk : Prop := ∀ {op s : ByteArray} {o : Option Int}, op.size ≤ maxLen → Is s o → MnIs op s (T (mnO (kmL op.data.toList) o).1) (mnO (kmL op.data.toList) o).2
theorem S_3 : S 3 = ⟨#[51]⟩ := S_lit (l := [51]) (n := 3) rfl (by unfold AllDig; decide) ⟨_, _, rfl, by decide⟩
theorem S_7 : S 7 = ⟨#[55]⟩ := S_lit (l := [55]) (n := 7) rfl (by unfold AllDig; decide) ⟨_, _, rfl, by decide⟩
theorem S_2 : S 2 = ⟨#[50]⟩ := S_lit (l := [50]) (n := 2) rfl (by unfold AllDig; decide) ⟨_, _, rfl, by decide⟩
theorem S_1 : S 1 = ⟨#[49]⟩ := S_lit (l := [49]) (n := 1) rfl (by unfold AllDig; decide) ⟨_, _, rfl, by decide⟩
theorem S_m7 : S (-7) = ⟨#[45, 55]⟩ := S_nlit (l := [55]) (n := 7) rfl (by decide) (by unfold AllDig; decide) ⟨_, _, rfl, by decide⟩
theorem S_0 : S 0 = ⟨#[48]⟩ := by
  rw [S_pos (n := 0) rfl (by decide), decDigits_small (by decide)]
  rfl
theorem lit_is {s : ByteArray} {x : Int} (h : S x = s) (hx : x.natAbs < 1000) : Is s (some x) := ⟨h.symm, Nat.lt_of_lt_of_le hx (Nat.le_trans (by decide) lim_big)⟩
theorem dy_lit (H : DyOk) {op s t d : ByteArray} {x y z : Int} {k : Nat} (hk : kdL op.data.toList = k) (ho : op.size ≤ maxLen) (hs : S x = s) (hx : x.natAbs < 1000) (ht : S y = t) (hy : y.natAbs < 1000) (hd : S z = d) (he : dyI k x y = (some z, 0)) : DyIs op s t d 0 := by
  have h := H ho (lit_is hs hx) (lit_is ht hy)
  rw [hk] at h
  simp only [dyO, he] at h
  rw [← hd]
  exact h
end Go.Proofs.YtlhbejeninjmoaaGreatDoor
/-
  The five variables as the rows of layer 12 list them, and the condition that the contracts ask of the world.
-/
namespace Go.Proofs.YtlhbejeninjmoaaGreatDoor
set_option linter.unusedVariables false
set_option linter.unusedSimpArgs false
open Go.ChangeShapes Go.WideShapes Go.ChangeAt Go.RowKit

def laid5s : List (String × DataW Unit) := [("math/bits.deBruijn32tab", Rows.laid_math_bits_deBruijn32tab), ("math/bits.deBruijn64tab", Rows.laid_math_bits_deBruijn64tab), ("internal/strconv.uint64pow10", Rows.laid_internal_strconv_uint64pow10), ("reredos/scalar.dyads", Rows.laid_reredos_scalar_dyads), ("reredos/scalar.monads", Rows.laid_reredos_scalar_monads)]
theorem gDy : Tryz.prog.globalNamed "reredos/scalar.dyads" = some 1 := by kernel_rfl
theorem tDy : (Tryz.prog.globals[1]?).map (·.type) = some 89 := by kernel_rfl
theorem gMo : Tryz.prog.globalNamed "reredos/scalar.monads" = some 0 := by kernel_rfl
theorem tMo : (Tryz.prog.globals[0]?).map (·.type) = some 80 := by kernel_rfl
section
variable {W : World} {fuel : Nat} {cs : List Value} {p : List MemPlace} {n : Nat}
theorem array_len {t e : TypeId} {ds : List (DataW Unit)} (ht : Tryz.prog.underlying t = some (.array n e)) (h : DataW.trod (fun _ => ()) Tryz.prog W 0 (fun _ => true) false fuel t cs = some (.agg ds, p)) : cs.length = Tryz.prog.cellsOf t := by
  cases fuel with
  | zero => simp [DataW.trod] at h
  | succ fuel =>
    simp only [DataW.trod, ht] at h
    split at h
    · rename_i hl
      exact hl
    · cases h
theorem str_of {s : List UInt8} (h : DataW.trod (fun _ => ()) Tryz.prog W 0 (fun _ => true) false fuel 9 cs = some (.lit (.string s), p)) : cs = [.string ⟨s.toArray⟩] := by
  obtain ⟨v, rfl, hx, _⟩ := DataW.trod_string Tryz.underlying9 h
  injection hx with hx
  injection hx with hx
  injection hx with hx
  subst hx
  rfl
theorem bool_of {b : Bool} (h : DataW.trod (fun _ => ()) Tryz.prog W 0 (fun _ => true) false fuel 4 cs = some (.lit (.bool b), p)) : cs = [.bool b] := by
  obtain ⟨v, rfl, hx⟩ := DataW.trod_bool Tryz.underlying4 h
  injection hx with hx
  injection hx with hx
  injection hx with hx
  rw [hx]
theorem cut3 {l : List Value} {x y z : Value} (h0 : (l.drop 0).take 1 = [x]) (h1 : (l.drop 1).take 1 = [y]) (h2 : (l.drop 2).take 1 = [z]) (hl : l.length = 3) : l = [x, y, z] := by
  match l, hl with
  | [a, b, c], _ => simp_all
set_option maxRecDepth 10000 in
theorem sign_of {a c : List UInt8} {b : Bool} (h : DataW.trod (fun _ => ()) Tryz.prog W 0 (fun _ => true) false fuel 88 cs = some (.agg [.lit (.string a), .lit (.bool b), .lit (.string c)], p)) : cs = [.string ⟨a.toArray⟩, .bool b, .string ⟨c.toArray⟩] := by
  have hs : Tryz.prog.cellsOf 9 = 1 := by kernel_rfl
  have hb : Tryz.prog.cellsOf 4 = 1 := by kernel_rfl
  have hg : Tryz.prog.cellsOf 88 = 3 := by kernel_rfl
  obtain ⟨xs, m, rfl, hx, hl, hxl, hall⟩ := DataW.trod_struct Tryz.underlying88 h
  rw [hg] at hl
  match xs, hxl with
  | [y0, y1, y2], _ =>
    injection hx with hx _
    injection hx with hx
    simp only [List.map_cons, List.map_nil] at hx
    injection hx with e0 hx
    injection hx with e1 hx
    injection hx with e2 _
    have h0 : DataW.trod (fun _ => ()) Tryz.prog W 0 (fun _ => true) false m 9 ((cs.drop 0).take (Tryz.prog.cellsOf 9)) = some y0 := hall 0 _ rfl
    have h1 : DataW.trod (fun _ => ()) Tryz.prog W 0 (fun _ => true) false m 4 ((cs.drop 1).take (Tryz.prog.cellsOf 4)) = some y1 := hall 1 _ rfl
    have h2 : DataW.trod (fun _ => ()) Tryz.prog W 0 (fun _ => true) false m 9 ((cs.drop 2).take (Tryz.prog.cellsOf 9)) = some y2 := hall 2 _ rfl
    rw [hs] at h0 h2
    rw [hb] at h1
    obtain ⟨d0, q0⟩ := y0
    obtain ⟨d1, q1⟩ := y1
    obtain ⟨d2, q2⟩ := y2
    simp only at e0 e1 e2
    subst e0 e1 e2
    exact cut3 (str_of h0) (bool_of h1) (str_of h2) hl
end
theorem list_parts {l r : List Value} {n k : Nat} (hk : 0 < k) (h1 : l.length = n * k) (h2 : r.length = n * k) (h : ∀ i, i < n → (l.drop (i * k)).take k = (r.drop (i * k)).take k) : l = r := by
  apply List.ext_getElem?
  intro j
  by_cases hj : j < n * k
  · have hd : j / k < n := Nat.div_lt_of_lt_mul (by rw [Nat.mul_comm]; exact hj)
    have e := congrArg (fun x : List Value => x[j % k]?) (h _ hd)
    have hm : j % k < k := Nat.mod_lt _ hk
    simp only [List.getElem?_take, List.getElem?_drop, if_pos hm] at e
    have hjj : j / k * k + j % k = j := by rw [Nat.mul_comm]; exact Nat.div_add_mod j k
    rw [hjj] at e
    exact e
  · rw [List.getElem?_eq_none (by omega), List.getElem?_eq_none (by omega)]
theorem var_row {W : World} {n : String} {g : Nat} {cs r : Array Value} (hg : Tryz.prog.globalNamed n = some g) (h : W.var? Tryz.prog n = some cs) (e : cs.toList = r.toList) : RowAt W g r := by
  unfold World.var? at h
  rw [hg] at h
  simp only [Option.bind_some] at h
  split at h
  · rename_i cs' t fr hh
    obtain rfl := Option.some.inj h
    refine ⟨t, fr, hh.trans ?_⟩
    have : cs' = r := Array.ext' e
    rw [this]
  · cases h
theorem dyads_at {W : World} (h : Lib.VarReads Tryz.prog W "reredos/scalar.dyads" Rows.laid_reredos_scalar_dyads) : RowAt W 1 drow := by
  obtain ⟨g, t, cs, fuel, p, hg, ht, hv, hr⟩ := h
  obtain rfl := Option.some.inj (gDy.symm.trans hg)
  obtain rfl := Option.some.inj (tDy.symm.trans ht)
  refine var_row gDy hv ?_
  have hc : Tryz.prog.cellsOf 88 = 3 := by kernel_rfl
  have hn : Tryz.prog.cellsOf 89 = 33 := by kernel_rfl
  have hl := array_len Tryz.underlying89 hr
  rw [hn] at hl
  refine list_parts (n := 11) (k := 3) (by decide) hl (by decide) fun i hi => ?_
  obtain ⟨f', d, q, hd, hr'⟩ := Lib.array_elem Tryz.underlying89 hr i hi
  rw [hc] at hr'
  obtain rfl | rfl | rfl | rfl | rfl | rfl | rfl | rfl | rfl | rfl | rfl : i = 0 ∨ i = 1 ∨ i = 2 ∨ i = 3 ∨ i = 4 ∨ i = 5 ∨ i = 6 ∨ i = 7 ∨ i = 8 ∨ i = 9 ∨ i = 10 := by omega
  all_goals
    obtain rfl := Option.some.inj hd
    rw [sign_of hr']
    rfl
theorem monads_at {W : World} (h : Lib.VarReads Tryz.prog W "reredos/scalar.monads" Rows.laid_reredos_scalar_monads) : RowAt W 0 mrow := by
  obtain ⟨g, t, cs, fuel, p, hg, ht, hv, hr⟩ := h
  obtain rfl := Option.some.inj (gMo.symm.trans hg)
  obtain rfl := Option.some.inj (tMo.symm.trans ht)
  refine var_row gMo hv ?_
  have hc : Tryz.prog.cellsOf 9 = 1 := by kernel_rfl
  have hn : Tryz.prog.cellsOf 80 = 3 := by kernel_rfl
  have hl := array_len Tryz.underlying80 hr
  rw [hn] at hl
  refine list_parts (n := 3) (k := 1) (by decide) hl (by decide) fun i hi => ?_
  obtain ⟨f', d, q, hd, hr'⟩ := Lib.array_elem Tryz.underlying80 hr i hi
  rw [hc] at hr'
  obtain rfl | rfl | rfl : i = 0 ∨ i = 1 ∨ i = 2 := by omega
  all_goals
    obtain rfl := Option.some.inj hd
    rw [str_of hr']
    rfl
theorem sm_of_laid {W : World} (h : laidMetH Tryz.prog laid5s W) : SM W := by
  rw [MakeChecks.laidMetH_plain _ _ _ (by kernel_rfl)] at h
  have h2 := laidMet.tail (laidMet.tail h)
  have h3 := dyads_at (Lib.laidMet.reads h (by simp [laid5s]))
  have h4 := monads_at (Lib.laidMet.reads h (by simp [laid5s]))
  rw [powData] at h2
  exact ⟨⟨Lib.tabBelow_of_tabIs (Lib.tabIs_of_head gPow tPow Tryz.underlying149 Tryz.underlying130 (by kernel_rfl) (by kernel_rfl) h2), h3⟩, h4⟩
theorem door_met5s (os : Os) (args : Array Value) : laidMetH Tryz.prog laid5s ((World.doorLaid Tryz.prog 400 os).forCall (fun _ _ => 0) ⟨#[], args, []⟩).memory :=
  laidMetH_of_parts3 (fuel := 8) (laidMet_of_run' 8 (by kernel_rfl) (by kernel_rfl)) (by kernel_rfl) (by kernel_rfl)
def laid4s : List (String × DataW Unit) := [("math/bits.deBruijn32tab", Rows.laid_math_bits_deBruijn32tab), ("math/bits.deBruijn64tab", Rows.laid_math_bits_deBruijn64tab), ("internal/strconv.uint64pow10", Rows.laid_internal_strconv_uint64pow10), ("reredos/scalar.dyads", Rows.laid_reredos_scalar_dyads)]
theorem sc_of_laid {W : World} (h : laidMetH Tryz.prog laid4s W) : SC W := by
  rw [MakeChecks.laidMetH_plain _ _ _ (by kernel_rfl)] at h
  have h2 := laidMet.tail (laidMet.tail h)
  have h3 := dyads_at (Lib.laidMet.reads h (by simp [laid4s]))
  rw [powData] at h2
  exact ⟨Lib.tabBelow_of_tabIs (Lib.tabIs_of_head gPow tPow Tryz.underlying149 Tryz.underlying130 (by kernel_rfl) (by kernel_rfl) h2), h3⟩
theorem door_met4s (os : Os) (args : Array Value) : laidMetH Tryz.prog laid4s ((World.doorLaid Tryz.prog 400 os).forCall (fun _ _ => 0) ⟨#[], args, []⟩).memory :=
  laidMetH_of_parts3 (fuel := 8) (laidMet_of_run' 8 (by kernel_rfl) (by kernel_rfl)) (by kernel_rfl) (by kernel_rfl)
end Go.Proofs.YtlhbejeninjmoaaGreatDoor
/-
  A map with keys of one kind, in memory: made, an entry more, an entry looked up, or not found.
-/
namespace Go.Proofs.YtlhbejeninjmoaaGreatDoor
set_option linter.unusedVariables false
set_option linter.unusedSimpArgs false
open Go.RowKit Go.Maps Go.MapKept
open Go.ChangeMaps (setBlock heap_setBlock_same heap_setBlock_other)

/-- Block b is a map with these entries, in this order. -/
def Mq (W : World) (b : Nat) (l : List (Value × Value)) : Prop := ∃ es clock, W.heap[b]? = some (.map es clock) ∧ es.toList.map (fun e => (e.key, e.val)) = l
theorem Mq.lt {W : World} {b : Nat} {l : List (Value × Value)} (h : Mq W b l) : b < W.heap.size := by
  obtain ⟨es, clock, hb, _⟩ := h
  exact (Array.getElem?_eq_some_iff.1 hb).1
theorem Mq.below {W W' : World} {b : Nat} {l : List (Value × Value)} (h : Mq W b l) (hb : Below W.heap.size W W') : Mq W' b l := by
  have hlt := h.lt
  obtain ⟨es, clock, he, hm⟩ := h
  exact ⟨es, clock, (hb.block b hlt).trans he, hm⟩
theorem Mq.made (W : World) : Mq (W.alloc (.map #[] 0)) W.heap.size [] := ⟨#[], 0, (MapKept.heap_alloc W _).1, rfl⟩
theorem Mq.mem {es : Array MapEntry} {l : List (Value × Value)} (h : es.toList.map (fun e => (e.key, e.val)) = l) {e : MapEntry} (he : e ∈ es.toList) : (e.key, e.val) ∈ l := by
  rw [← h]
  exact List.mem_map.2 ⟨e, he, rfl⟩
theorem Mq.put {P : Program} {w : World} {t k e : TypeId} {b : Nat} {l : List (Value × Value)} (ht : P.underlying t = some (.map k e)) (K : Keyed P k) (h : Mq w b l) {x : Value} {lx : Lit} (hkey : keyOf P k x = some lx) (v : Value)
    (hl : ∀ p ∈ l, ∃ m, keyOf P k p.1 = some m) (hx : ∀ p ∈ l, p.1 ≠ x) : ∃ w', (Instr.mapUpdate t (.map (some b)) x v).run P w = .ok () w' ∧ Mq w' b (l ++ [(x, v)]) ∧ w.grownBy w' (some b) := by
  obtain ⟨es, clock, hb, hm⟩ := h
  rcases K.find w hkey es.toList (fun y hy => hl _ (Mq.mem hm hy)) with ⟨h1, h2⟩ | ⟨j, e0, h1, h2, h3⟩
  · refine ⟨setBlock w b (.map (es.push ⟨x, v, clock⟩) (clock + 1)), ?_, ⟨_, _, heap_setBlock_same hb _, ?_⟩, ⟨rfl, rfl, rfl, by simp [setBlock], fun i _ hi => heap_setBlock_other hb _ (fun e => hi (by rw [e]))⟩⟩
    · have hs := K.stays w hkey
      simp [Instr.mapUpdate, run_underlying ht, MapKept.run_getObj_map hb, K.check w false hkey, h1, MapKept.run_setObj_map _ hb, Result.andThen, setBlock]
    · rw [Array.toList_push, List.map_append, hm]; rfl
  · exact absurd h3 (hx _ (Mq.mem hm (List.mem_of_getElem? h2)))
theorem Mq.look {P : Program} {w : World} {t k e : TypeId} {b : Nat} {l : List (Value × Value)} (ht : P.underlying t = some (.map k e)) (K : Keyed P k) (h : Mq w b l) {x : Value} {lx : Lit} (hkey : keyOf P k x = some lx) {v : Value} (ok : Bool)
    (hl : ∀ p ∈ l, ∃ m, keyOf P k p.1 = some m) (hm : ∃ v', (x, v') ∈ l) (hu : ∀ p ∈ l, p.1 = x → p.2 = v) : (Instr.lookup t (.map (some b)) x ok).run P w = .ok (if ok then .tuple #[v, .bool true] else v) w := by
  obtain ⟨es, clock, hb, he⟩ := h
  rcases K.find w hkey es.toList (fun y hy => hl _ (Mq.mem he hy)) with ⟨h1, h2⟩ | ⟨j, e0, h1, h2, h3⟩
  · exfalso
    obtain ⟨v', hm⟩ := hm
    rw [← he] at hm
    obtain ⟨y, hy, e1⟩ := List.mem_map.1 hm
    injection e1 with e1 _
    exact h2 y hy e1
  · have hv : e0.val = v := hu _ (Mq.mem he (List.mem_of_getElem? h2)) h3
    simp [Instr.lookup, run_underlying ht, MapKept.run_getObj_map hb, K.check w _ hkey, h1, Result.andThen, hv]
theorem Mq.miss {P : Program} {w : World} {t k e : TypeId} {b : Nat} {l : List (Value × Value)} (ht : P.underlying t = some (.map k e)) (K : Keyed P k) (h : Mq w b l) {x : Value} {lx : Lit} (hkey : keyOf P k x = some lx) {z : Value} (ok : Bool)
    (hz : (zeroValue e).run P w = .ok z w) (hl : ∀ p ∈ l, ∃ m, keyOf P k p.1 = some m) (hx : ∀ p ∈ l, p.1 ≠ x) : (Instr.lookup t (.map (some b)) x ok).run P w = .ok (if ok then .tuple #[z, .bool false] else z) w := by
  obtain ⟨es, clock, hb, he⟩ := h
  rcases K.find w hkey es.toList (fun y hy => hl _ (Mq.mem he hy)) with ⟨h1, h2⟩ | ⟨j, e0, h1, h2, h3⟩
  · simp [Instr.lookup, run_underlying ht, MapKept.run_getObj_map hb, K.check w _ hkey, h1, hz, Result.andThen]
  · exact absurd h3 (hx _ (Mq.mem he (List.mem_of_getElem? h2)))
/-- An entry of a map's literal, at the operation. -/
theorem wpList_mput {P : Program} (w : World) {ops : Array Oper} {rest : List Oper} {o : Oper} {a : Act} {Q : Exit → Act → World → Prop}
    (hg : o.guard = none) (m x v : Operand) (t : TypeId) (hop : o.op = Op.insert t m x v) (k e : TypeId) (ht : P.underlying t = some (.map k e)) (K : Keyed P k) (b : Nat) (l : List (Value × Value))
    (hm : a.eval m = .map (some b)) (h : Mq w b l) (z u : Value) (hx : a.eval x = z) (hv : a.eval v = u) (lz : Lit) (hkey : keyOf P k z = some lz) (hl : ∀ p ∈ l, ∃ m, keyOf P k p.1 = some m) (hne : ∀ p ∈ l, p.1 ≠ z)
    (hK : ∀ w', Mq w' b (l ++ [(z, u)]) → w.grownBy w' (some b) → wpList P ops Q rest (a.put o.dst undef) w') : wpList P ops Q (o :: rest) a w := by
  refine wpList_plain hg fun K' hK' => ?_
  obtain ⟨w', hrun, r1, r2⟩ := h.put ht K hkey u hl hne
  unfold Oper.wp
  simp [execOp, hop, hm, hx, hv, hrun, Result.andThen]
  exact hK' _ _ (hK w' r1 r2)
theorem mgrown {B b : Nat} {w0 w w' : World} (h : Below B w0 w) (hg : w.grownBy w' (some b)) (hB : B ≤ b) (hs : B ≤ w.heap.size) : Below B w0 w' :=
  ⟨hg.os.trans h.os, hg.tape.trans h.tape, hg.output.trans h.output, Nat.le_trans h.size hg.size, fun i hi => (hg.block i (by omega) (fun e => by injection e with e; omega)).trans (h.block i hi)⟩
end Go.Proofs.YtlhbejeninjmoaaGreatDoor
/-
  num's calls of any two texts, as the document tells of signs.
-/
namespace Go.Proofs.YtlhbejeninjmoaaGreatDoor
set_option linter.unusedVariables false
set_option linter.unusedSimpArgs false
open Go.RowKit

theorem dyO_0 (o p : Option Int) : dyO 0 o p = (op (fun x y => x + y) o p, opE (fun x y => x + y) o p) := by
  cases o <;> cases p <;> simp only [dyO, dyI, tlI, op, opE, toldE] <;> split <;> rfl
theorem dyO_1 (o p : Option Int) : dyO 1 o p = (op (fun x y => x - y) o p, opE (fun x y => x - y) o p) := by
  cases o <;> cases p <;> simp only [dyO, dyI, tlI, op, opE, toldE] <;> split <;> rfl
theorem dyO_2 (o p : Option Int) : dyO 2 o p = (op (fun x y => x * y) o p, opE (fun x y => x * y) o p) := by
  cases o <;> cases p <;> simp only [dyO, dyI, tlI, op, opE, toldE] <;> split <;> rfl
theorem dyO_arg {k : Nat} {o p : Option Int} (hn : (o.isSome && p.isSome) = false) : dyO k o p = (none, 1) := by
  cases o <;> cases p <;> first | rfl | exact absurd hn (by simp)
theorem dyO_by0 {k : Nat} (hk : k = 3 ∨ k = 4) (x : Int) : dyO k (some x) (some 0) = (none, 5) := by
  rcases hk with h | h <;> subst h <;> rfl
theorem dyO_3 {x y : Int} (hy : y ≠ 0) : dyO 3 (some x) (some y) = (some (fq x y), 0) := by
  simp only [dyO, dyI]; rw [if_neg hy]
theorem dyO_4 {x y : Int} (hy : y ≠ 0) : dyO 4 (some x) (some y) = (some (fr x y), 0) := by
  simp only [dyO, dyI]; rw [if_neg hy]
theorem Add_dy {s t : ByteArray} {o p : Option Int} (w : World) (hs : Is s o) (ht : Is t p) (htab : Tab w) : Calls Tryz.prog 64 #[.string s, .string t] w (OptPost (dyO 0 o p).1 (dyO 0 o p).2 w) := by
  rw [dyO_0]; exact Add_opt w hs ht htab
theorem Sub_dy {s t : ByteArray} {o p : Option Int} (w : World) (hs : Is s o) (ht : Is t p) (htab : Tab w) : Calls Tryz.prog 65 #[.string s, .string t] w (OptPost (dyO 1 o p).1 (dyO 1 o p).2 w) := by
  rw [dyO_1]; exact Sub_opt w hs ht htab
theorem Mul_dy {s t : ByteArray} {o p : Option Int} (w : World) (hs : Is s o) (ht : Is t p) (htab : Tab w) : Calls Tryz.prog 66 #[.string s, .string t] w (OptPost (dyO 2 o p).1 (dyO 2 o p).2 w) := by
  rw [dyO_2]; exact Mul_opt w hs ht htab
theorem Div_dy {s t : ByteArray} {o p : Option Int} (w : World) (hs : Is s o) (ht : Is t p) (htab : Tab w) : Calls Tryz.prog 67 #[.string s, .string t] w (OptPost (dyO 3 o p).1 (dyO 3 o p).2 w) := by
  cases hn : (o.isSome && p.isSome)
  · rw [dyO_arg hn]
    exact Div_no s t w hs.size ht.size (two_no hs ht hn)
  · cases o <;> cases p <;> simp at hn
    rename_i x y
    rw [hs.1, ht.1]
    by_cases hy : y = 0
    · subst hy
      rw [dyO_by0 (.inl rfl)]
      exact Div_zero x w hs.2 htab
    · rw [dyO_3 hy]
      have hq : (fq x y).natAbs < lim := Nat.lt_of_le_of_lt (fq_abs x y hy) hs.2
      have h := Div_yes x y w hs.2 ht.2 hy htab
      unfold OpPost at h
      rw [toldR_yes hq, toldE_yes hq] at h
      exact h
theorem Mod_dy {s t : ByteArray} {o p : Option Int} (w : World) (hs : Is s o) (ht : Is t p) (htab : Tab w) : Calls Tryz.prog 68 #[.string s, .string t] w (OptPost (dyO 4 o p).1 (dyO 4 o p).2 w) := by
  cases hn : (o.isSome && p.isSome)
  · rw [dyO_arg hn]
    exact Mod_no s t w hs.size ht.size (two_no hs ht hn)
  · cases o <;> cases p <;> simp at hn
    rename_i x y
    rw [hs.1, ht.1]
    by_cases hy : y = 0
    · subst hy
      rw [dyO_by0 (.inr rfl)]
      exact Mod_zero x w hs.2 htab
    · rw [dyO_4 hy]
      have hq : (fr x y).natAbs < lim := Nat.lt_of_le_of_lt (fr_abs x y hy) ht.2
      have h := Mod_yes x y w hs.2 ht.2 hy htab
      unfold OpPost at h
      rw [toldR_yes hq, toldE_yes hq] at h
      exact h
end Go.Proofs.YtlhbejeninjmoaaGreatDoor

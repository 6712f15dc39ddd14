import Derived.Test.YtogphdflgcdiiaaDoorMap
import Derived.Test.YtogphdflgcdiiaaDoorMbi
import Derived.Lib.LaidU8
/-
  The five variables as the rows of layer 12 list them, and the condition that the contracts ask of the world.
-/
namespace Go.Proofs.YtogphdflgcdiiaaDoor
set_option linter.unusedVariables false
set_option linter.unusedSimpArgs false
open Go.ChangeShapes Go.WideShapes Go.ChangeAt Go.RowKit

def laid5s : List (String × DataW Unit) := [("math/bits.deBruijn32tab", Rows.laid_math_bits_deBruijn32tab), ("math/bits.deBruijn64tab", Rows.laid_math_bits_deBruijn64tab), ("internal/strconv.uint64pow10", Rows.laid_internal_strconv_uint64pow10), ("reredos/scalar.dyads", Rows.laid_reredos_scalar_dyads), ("reredos/scalar.monads", Rows.laid_reredos_scalar_monads)]
theorem gDy : Tryd.prog.globalNamed "reredos/scalar.dyads" = some 0 := by kernel_rfl
theorem tDy : (Tryd.prog.globals[0]?).map (·.type) = some 52 := by kernel_rfl
theorem gMo : Tryd.prog.globalNamed "reredos/scalar.monads" = some 1 := by kernel_rfl
theorem tMo : (Tryd.prog.globals[1]?).map (·.type) = some 58 := by kernel_rfl
section
variable {W : World} {fuel : Nat} {cs : List Value} {p : List MemPlace} {n : Nat}
theorem array_len {t e : TypeId} {ds : List (DataW Unit)} (ht : Tryd.prog.underlying t = some (.array n e)) (h : DataW.trod (fun _ => ()) Tryd.prog W 0 (fun _ => true) false fuel t cs = some (.agg ds, p)) : cs.length = Tryd.prog.cellsOf t := by
  cases fuel with
  | zero => simp [DataW.trod] at h
  | succ fuel =>
    simp only [DataW.trod, ht] at h
    split at h
    · rename_i hl
      exact hl
    · cases h
theorem str_of {s : List UInt8} (h : DataW.trod (fun _ => ()) Tryd.prog W 0 (fun _ => true) false fuel 9 cs = some (.lit (.string s), p)) : cs = [.string ⟨s.toArray⟩] := by
  obtain ⟨v, rfl, hx, _⟩ := DataW.trod_string Tryd.underlying9 h
  injection hx with hx
  injection hx with hx
  injection hx with hx
  subst hx
  rfl
theorem bool_of {b : Bool} (h : DataW.trod (fun _ => ()) Tryd.prog W 0 (fun _ => true) false fuel 4 cs = some (.lit (.bool b), p)) : cs = [.bool b] := by
  obtain ⟨v, rfl, hx⟩ := DataW.trod_bool Tryd.underlying4 h
  injection hx with hx
  injection hx with hx
  injection hx with hx
  rw [hx]
theorem cut3 {l : List Value} {x y z : Value} (h0 : (l.drop 0).take 1 = [x]) (h1 : (l.drop 1).take 1 = [y]) (h2 : (l.drop 2).take 1 = [z]) (hl : l.length = 3) : l = [x, y, z] := by
  match l, hl with
  | [a, b, c], _ => simp_all
set_option maxRecDepth 10000 in
theorem sign_of {a c : List UInt8} {b : Bool} (h : DataW.trod (fun _ => ()) Tryd.prog W 0 (fun _ => true) false fuel 51 cs = some (.agg [.lit (.string a), .lit (.bool b), .lit (.string c)], p)) : cs = [.string ⟨a.toArray⟩, .bool b, .string ⟨c.toArray⟩] := by
  have hs : Tryd.prog.cellsOf 9 = 1 := by kernel_rfl
  have hb : Tryd.prog.cellsOf 4 = 1 := by kernel_rfl
  have hg : Tryd.prog.cellsOf 51 = 3 := by kernel_rfl
  obtain ⟨xs, m, rfl, hx, hl, hxl, hall⟩ := DataW.trod_struct Tryd.underlying51 h
  rw [hg] at hl
  match xs, hxl with
  | [y0, y1, y2], _ =>
    injection hx with hx _
    injection hx with hx
    simp only [List.map_cons, List.map_nil] at hx
    injection hx with e0 hx
    injection hx with e1 hx
    injection hx with e2 _
    have h0 : DataW.trod (fun _ => ()) Tryd.prog W 0 (fun _ => true) false m 9 ((cs.drop 0).take (Tryd.prog.cellsOf 9)) = some y0 := hall 0 _ rfl
    have h1 : DataW.trod (fun _ => ()) Tryd.prog W 0 (fun _ => true) false m 4 ((cs.drop 1).take (Tryd.prog.cellsOf 4)) = some y1 := hall 1 _ rfl
    have h2 : DataW.trod (fun _ => ()) Tryd.prog W 0 (fun _ => true) false m 9 ((cs.drop 2).take (Tryd.prog.cellsOf 9)) = some y2 := hall 2 _ rfl
    rw [hs] at h0 h2
    rw [hb] at h1
    obtain ⟨d0, q0⟩ := y0
    obtain ⟨d1, q1⟩ := y1
    obtain ⟨d2, q2⟩ := y2
    simp only at e0 e1 e2
    subst e0 e1 e2
    exact cut3 (str_of h0) (bool_of h1) (str_of h2) hl
end
theorem list_parts {l r : List Value} {n k : Nat} (hk : 0 < k) (h1 : l.length = n * k) (h2 : r.length = n * k) (h : ∀ i, i < n → (l.drop (i * k)).take k = (r.drop (i * k)).take k) : l = r := by
  apply List.ext_getElem?
  intro j
  by_cases hj : j < n * k
  · have hd : j / k < n := Nat.div_lt_of_lt_mul (by rw [Nat.mul_comm]; exact hj)
    have e := congrArg (fun x : List Value => x[j % k]?) (h _ hd)
    have hm : j % k < k := Nat.mod_lt _ hk
    simp only [List.getElem?_take, List.getElem?_drop, if_pos hm] at e
    have hjj : j / k * k + j % k = j := by rw [Nat.mul_comm]; exact Nat.div_add_mod j k
    rw [hjj] at e
    exact e
  · rw [List.getElem?_eq_none (by omega), List.getElem?_eq_none (by omega)]
theorem var_row {W : World} {n : String} {g : Nat} {cs r : Array Value} (hg : Tryd.prog.globalNamed n = some g) (h : W.var? Tryd.prog n = some cs) (e : cs.toList = r.toList) : RowAt W g r := by
  unfold World.var? at h
  rw [hg] at h
  simp only [Option.bind_some] at h
  split at h
  · rename_i cs' t fr hh
    obtain rfl := Option.some.inj h
    refine ⟨t, fr, hh.trans ?_⟩
    have : cs' = r := Array.ext' e
    rw [this]
  · cases h
theorem dyads_at {W : World} (h : Lib.VarReads Tryd.prog W "reredos/scalar.dyads" Rows.laid_reredos_scalar_dyads) : RowAt W 0 drow := by
  obtain ⟨g, t, cs, fuel, p, hg, ht, hv, hr⟩ := h
  obtain rfl := Option.some.inj (gDy.symm.trans hg)
  obtain rfl := Option.some.inj (tDy.symm.trans ht)
  refine var_row gDy hv ?_
  have hc : Tryd.prog.cellsOf 51 = 3 := by kernel_rfl
  have hn : Tryd.prog.cellsOf 52 = 33 := by kernel_rfl
  have hl := array_len Tryd.underlying52 hr
  rw [hn] at hl
  refine list_parts (n := 11) (k := 3) (by decide) hl (by decide) fun i hi => ?_
  obtain ⟨f', d, q, hd, hr'⟩ := Lib.array_elem Tryd.underlying52 hr i hi
  rw [hc] at hr'
  obtain rfl | rfl | rfl | rfl | rfl | rfl | rfl | rfl | rfl | rfl | rfl : i = 0 ∨ i = 1 ∨ i = 2 ∨ i = 3 ∨ i = 4 ∨ i = 5 ∨ i = 6 ∨ i = 7 ∨ i = 8 ∨ i = 9 ∨ i = 10 := by omega
  all_goals
    obtain rfl := Option.some.inj hd
    rw [sign_of hr']
    rfl
theorem monads_at {W : World} (h : Lib.VarReads Tryd.prog W "reredos/scalar.monads" Rows.laid_reredos_scalar_monads) : RowAt W 1 mrow := by
  obtain ⟨g, t, cs, fuel, p, hg, ht, hv, hr⟩ := h
  obtain rfl := Option.some.inj (gMo.symm.trans hg)
  obtain rfl := Option.some.inj (tMo.symm.trans ht)
  refine var_row gMo hv ?_
  have hc : Tryd.prog.cellsOf 9 = 1 := by kernel_rfl
  have hn : Tryd.prog.cellsOf 58 = 3 := by kernel_rfl
  have hl := array_len Tryd.underlying58 hr
  rw [hn] at hl
  refine list_parts (n := 3) (k := 1) (by decide) hl (by decide) fun i hi => ?_
  obtain ⟨f', d, q, hd, hr'⟩ := Lib.array_elem Tryd.underlying58 hr i hi
  rw [hc] at hr'
  obtain rfl | rfl | rfl : i = 0 ∨ i = 1 ∨ i = 2 := by omega
  all_goals
    obtain rfl := Option.some.inj hd
    rw [str_of hr']
    rfl
theorem sc_of_laid {W : World} (h : laidMetH Tryd.prog laid5s W) : SC W := by
  rw [MakeChecks.laidMetH_plain _ _ _ (by kernel_rfl)] at h
  have h2 := laidMet.tail (laidMet.tail h)
  have h3 := dyads_at (Lib.laidMet.reads h (by simp [laid5s]))
  have h4 := monads_at (Lib.laidMet.reads h (by simp [laid5s]))
  rw [powData] at h2
  exact ⟨Lib.tabBelow_of_tabIs (Lib.tabIs_of_head gPow tPow Tryd.underlying103 Tryd.underlying88 (by kernel_rfl) (by kernel_rfl) h2), h3, h4⟩
theorem door_met5s (os : Os) (args : Array Value) : laidMetH Tryd.prog laid5s ((World.doorLaid Tryd.prog 400 os).forCall (fun _ _ => 0) ⟨#[], args, []⟩).memory :=
  laidMetH_of_parts3 (fuel := 8) (laidMet_of_run' 8 (by kernel_rfl) (by kernel_rfl)) (by kernel_rfl) (by kernel_rfl)
end Go.Proofs.YtogphdflgcdiiaaDoor

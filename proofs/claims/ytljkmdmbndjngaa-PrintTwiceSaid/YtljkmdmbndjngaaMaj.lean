import Derived.Test.YtljkmdmbndjngaaMai
import Derived.Shelf.Strings.OnBuilder
import Derived.Test.YtljkmdmbndjngaaProg
import Derived.Test.YtljkmdmbndjngaaMae
import Derived.Test.YtljkmdmbndjngaaMag
import Derived.Deep.OwnRows
import Derived.Deep.QuietTactic
import Derived.BigQuiet
import Derived.Test.YtljkmdmbndjngaaMac
/-
  Nodes in memory as plain nodes; that what is read may be.
-/
namespace Go.Proofs.Ytljkmdmbndjngaa
set_option linter.unusedVariables false
set_option linter.unusedSimpArgs false
open Go.RowKit

def tnOf (d : Nd) : Tn := ⟨d.k, d.v.data.toList, d.a.data.toList, d.x.data.toList, d.ns.map (·.data.toList)⟩
def tnF (f : Nat → Nd) (n : Nat) : List Tn := (List.range n).map fun j => tnOf (f j)
theorem tnF_len (f : Nat → Nd) (n : Nat) : (tnF f n).length = n := by simp [tnF]
theorem tnF_at {f : Nat → Nd} {n j : Nat} (h : j < n) : (tnF f n)[j]? = some (tnOf (f j)) := by simp [tnF, h]
theorem texts_inj : ∀ {l m : List ByteArray}, l.map (·.data.toList) = m.map (·.data.toList) → l = m
  | [], [], _ => rfl
  | [], _ :: _, h => by cases h
  | _ :: _, [], h => by cases h
  | a :: l, b :: m, h => by
    injection h with e h
    rw [bytes_ext e, texts_inj h]
theorem smN_tn {d e : Nd} : smN d e = true ↔ tnOf d = tnOf e := by
  rw [smN_yes]
  constructor
  · rintro ⟨h1, h2, h3, h4, h5⟩
    unfold tnOf
    rw [h1, h2, h3, h4, h5]
  · intro h
    injection h with h1 h2 h3 h4 h5
    exact ⟨h1, bytes_ext h2, bytes_ext h3, bytes_ext h4, texts_inj h5⟩
theorem kd_tn (d : Nd) : kd d.k d.v = kdT (tnOf d) := by
  unfold kd kdT tnOf
  rw [str_tl]
theorem ksF_tn (f : Nat → Nd) (n : Nat) : ksF f n = (tnF f n).map kdT := by
  unfold ksF tnF
  rw [List.map_map]
  exact List.map_congr_left fun j _ => kd_tn (f j)
/-- Two rows of nodes are the same as they are plainly. -/
theorem same_tn {f g : Nat → Nd} {n m : Nat} : (decide (n = m) && sameL f g n) = true ↔ tnF f n = tnF g m := by
  rw [Bool.and_eq_true, decide_eq_true_iff, sameL_yes]
  constructor
  · rintro ⟨rfl, h⟩
    exact List.map_congr_left fun j hj => smN_tn.1 (h j (List.mem_range.1 hj))
  · intro h
    have hl := congrArg List.length h
    rw [tnF_len, tnF_len] at hl
    subst hl
    refine ⟨rfl, fun j hj => smN_tn.2 ?_⟩
    have := tnF_at (f := f) hj
    rw [h, tnF_at hj] at this
    have := this.symm
    injection this
theorem same_no {f g : Nat → Nd} {n m : Nat} (h : tnF f n ≠ tnF g m) : (decide (n = m) && sameL f g n) = false := by
  cases hs : (decide (n = m) && sameL f g n) with
  | false => rfl
  | true => exact absurd (same_tn.1 hs) h
/-- How deep a row of nodes is, from what it is plainly. -/
theorem deep_tn {f : Nat → Nd} {n d : Nat} {X : List Tn} (h : tnF f n = X) (hd : Dp X 1 d) : Fd (ksF f n) 0 1 n d := by
  rw [ksF_tn, h]
  have e : n = X.length := by rw [← h, tnF_len]
  rw [e]
  exact hd
/-- A part that Lex tells is a part of its kind. -/
theorem Ps.prt {q : Pk} (h : Ps q) {s : ByteArray} (hs : s.data.toList = q.t) (hl : q.t.length ≤ 256) {k : Int} (hk : q.k = k) : prt s k = true := by
  obtain ⟨k', hk', hr⟩ := h
  have hr2 := lx_run s
  rw [hs] at hr2
  obtain ⟨e1, e2⟩ := hr2.det hr
  have hz : s.size ≤ 256 := by
    have : s.data.toList.length = s.size := Array.length_toList
    rw [hs] at this
    omega
  unfold Go.Proofs.Ytljkmdmbndjngaa.prt
  rw [if_pos hz, e2, e1]
  show (decide ((k' : Int) = k) && ((tx q.t).toList == s.toList)) = true
  rw [str_tl, str_tl, tx_list, hs, ← hk, hk']
  simp
theorem num_may {q : Pk} (h : Ps q) (hk : q.k = 1) : mayL (numT q.t) = true := by
  obtain ⟨c, t, e, hc, h1, h6, hn, _⟩ := h.of
  have hb := hn (by omega)
  unfold numT
  rw [if_pos hb]
  unfold numB at hb
  exact (Bool.and_eq_true _ _ ▸ hb : _ ∧ _).2
theorem not_brace {q : Pk} (h : Ps q) (hk : q.k = 3 ∨ q.k = 4) : q.t ≠ [123] := by
  obtain ⟨c, t, e, hc, _⟩ := h.of
  intro g
  rw [g] at e
  injection e with e _
  rw [← e, show cls 123 = 6 by decide] at hc
  omega
theorem emp_of {s : ByteArray} (h : s.data.toList = []) : emp s = true := by unfold emp; rw [str_tl, h]; rfl
theorem adv_of {s : ByteArray} {l : List UInt8} (h : s.data.toList = [] ∨ ∃ c ∈ l, s.data.toList = [c]) : advB s l = true := by
  unfold advB
  rcases h with h | ⟨c, hc, h⟩
  · rw [h]; rfl
  · rw [h, Bool.or_eq_true]
    exact .inr (List.any_eq_true.2 ⟨c, hc, by simp⟩)
theorem ns_none {d : Nd} (h : d.ns.map (·.data.toList) = []) : d.ns = [] := List.map_eq_nil_iff.1 h
section
variable {P : Pk → Prop} (hP : ∀ q, P q → Ps q ∧ q.t.length ≤ 256)
include hP in
/-- A node that was read may be. -/
theorem okN_of {d : Nd} (h : Nok numT P (tnOf d)) : okN d = true ∧ hdN d.k = false := by
  generalize hn : tnOf d = n at h
  cases h with
  | @lit l h0 h1 h =>
    injection hn with e1 e2 e3 e4 e5
    refine ⟨?_, by rw [e1]; rfl⟩
    have el : d.ns.length = l.length := by rw [← e5, List.length_map]
    unfold okN
    rw [if_pos e1, emp_of e2, emp_of e3, emp_of e4]
    unfold numsB alN
    have ha : (d.ns.all fun s => mayL s.data.toList) = true := List.all_eq_true.2 fun s hs => by
      obtain ⟨q, hq, hk, e⟩ := h s.data.toList (by rw [← e5]; exact List.mem_map.2 ⟨s, hs, rfl⟩)
      rw [e]
      exact num_may (hP q hq).1 hk
    rw [ha, decide_eq_true (show 1 ≤ d.ns.length by omega), decide_eq_true (show d.ns.length ≤ 100 by omega)]
    rfl
  | @name q hq h =>
    injection hn with e1 e2 e3 e4 e5
    refine ⟨?_, by rw [e1]; rfl⟩
    unfold okN
    rw [e1, ns_none e5, emp_of e2, emp_of e3, (hP q hq).1.prt e4 (hP q hq).2 h]
    rfl
  | @one k q a hk hq h ha =>
    injection hn with e1 e2 e3 e4 e5
    have hv : verbB d.v = true := by
      unfold verbB
      rcases h with h | h
      · rw [(hP q hq).1.prt e2 (hP q hq).2 h]; simp
      · rw [(hP q hq).1.prt e2 (hP q hq).2 h]; simp
    have hA : advB d.a (advs k) = true := adv_of (by rw [e3]; exact ha)
    unfold okN
    rcases hk with rfl | rfl
    · refine ⟨?_, by rw [e1]; rfl⟩
      rw [e1, ns_none e5, emp_of e4, hv, show advB d.a [39, 47, 92, 96] = true from hA]
      rfl
    · refine ⟨?_, by rw [e1]; rfl⟩
      rw [e1, ns_none e5, emp_of e4, hv, show advB d.a [39, 46] = true from hA]
      rfl
  | @body k a hk ha =>
    injection hn with e1 e2 e3 e4 e5
    have hv : verbB d.v = true := by
      unfold verbB
      rw [str_tl, e2]
      simp
    have hA : advB d.a (advs k) = true := adv_of (by rw [e3]; exact ha)
    unfold okN
    rcases hk with rfl | rfl
    · refine ⟨?_, by rw [e1]; rfl⟩
      rw [e1, ns_none e5, emp_of e4, hv, show advB d.a [39, 47, 92, 96] = true from hA]
      rfl
    · refine ⟨?_, by rw [e1]; rfl⟩
      rw [e1, ns_none e5, emp_of e4, hv, show advB d.a [39, 46] = true from hA]
      rfl
  | index =>
    injection hn with e1 e2 e3 e4 e5
    refine ⟨?_, by rw [e1]; rfl⟩
    unfold okN
    rw [e1, ns_none e5, emp_of e2, emp_of e3, emp_of e4]
    rfl
include hP in
theorem okN_head {d : Nd} (h : Hok P (tnOf d)) : okN d = true := by
  generalize hn : tnOf d = n at h
  cases h with
  | @assign q hq h =>
    injection hn with e1 e2 e3 e4 e5
    unfold okN
    rw [e1, ns_none e5, emp_of e2, emp_of e3, (hP q hq).1.prt e4 (hP q hq).2 h]
    rfl
  | @amend q hq h =>
    injection hn with e1 e2 e3 e4 e5
    unfold okN
    rw [e1, ns_none e5, emp_of e2, emp_of e3, (hP q hq).1.prt e4 (hP q hq).2 h]
    rfl
  | @define q hq h =>
    injection hn with e1 e2 e3 e4 e5
    unfold okN
    rw [e1, ns_none e5, emp_of e2, emp_of e3, (hP q hq).1.prt e4 (hP q hq).2 h]
    rfl
include hP in
/-- What is read as a line may be, if it isn't too deep. -/
theorem may_of {ts r : List Pk} {X : List Tn} (h : Ln numT ts (some X) r) (hp : ∀ q ∈ ts, P q) {f : Nat → Nd} {n d : Nat} (hf : tnF f n = X) (hd : Dp X 1 d) (h40 : d ≤ 40) : mayP f n := by
  refine ⟨d, deep_tn hf hd, h40, fun i hi => ?_⟩
  obtain ⟨m, Y, rfl, hm, hY⟩ := h.nodes hp (fun q hq => not_brace (hP q (hp q hq)).1)
  have := tnF_at (f := f) hi
  rw [hf] at this
  cases i with
  | zero =>
    injection this with e
    rw [e] at hm
    exact ⟨hm.elim (fun h => (okN_of hP h).1) (okN_head hP), fun h => by omega⟩
  | succ i =>
    rw [List.getElem?_cons_succ] at this
    have g := hY _ (List.mem_of_getElem? this)
    exact ⟨(okN_of hP g).1, fun _ => (okN_of hP g).2⟩
end
end Go.Proofs.Ytljkmdmbndjngaa
/-
  Contracts of the library's functions at this program, laid by program.
-/
namespace Go.Proofs
set_option linter.unusedVariables false
set_option linter.unusedSimpArgs false
open Go.Shelf
def Try.lays156_ren : Go.Shelf.Ren := ⟨fun | 156 => 46 | 165 => 59 | 166 => 60 | 169 => 61 | 240 => 77 | 241 => 78 | 276 => 85 | 277 => 86 | n => n, fun | 31 => 34 | 9 => 9 | 3 => 3 | 4 => 4 | 0 => 0 | 20 => 20 | 72 => 81 | 76 => 85 | 70 => 78 | 37 => 79 | 75 => 84 | 127 => 97 | 164 => 103 | 5 => 5 | 80 => 87 | n => n, fun | n => n⟩
theorem Try.lays156 : Go.Proofs.Lays.n156 Try.prog Try.lays156_ren := {
  mixed := by kernel_rfl
  f156 := Try.func46.trans (congrArg some (by kernel_rfl))
  f165 := Try.func59.trans (congrArg some (by kernel_rfl))
  f166 := Try.func60.trans (congrArg some (by kernel_rfl))
  f169 := Try.func61.trans (congrArg some (by kernel_rfl))
  f240 := Try.func77.trans (congrArg some (by kernel_rfl))
  f241 := Try.func78.trans (congrArg some (by kernel_rfl))
  f276 := Try.func85.trans (congrArg some (by kernel_rfl))
  f277 := Try.func86.trans (congrArg some (by kernel_rfl))
  t0 := Try.underlying0
  a0 := Try.isAgg0
  z0 := Try.sizeOf0
  v0 := Try.zeroValue0
  t3 := Try.underlying3
  a3 := Try.isAgg3
  z3 := Try.sizeOf3
  v3 := Try.zeroValue3
  t4 := Try.underlying4
  a4 := Try.isAgg4
  z4 := Try.sizeOf4
  v4 := Try.zeroValue4
  t9 := Try.underlying9
  a9 := Try.isAgg9
  z9 := Try.sizeOf9
  v9 := Try.zeroValue9
  t20 := Try.underlying20
  a20 := Try.isAgg20
  z20 := Try.sizeOf20
  v20 := Try.zeroValue20
  t31 := Try.underlying34
  a31 := Try.isAgg34
  z31 := Try.sizeOf34
  v31 := Try.zeroValue34
  t37 := Try.underlying79
  a37 := Try.isAgg79
  z37 := Try.sizeOf79
  v37 := Try.zeroValue79
  t70 := Try.underlying78
  a70 := Try.isAgg78
  z70 := Try.sizeOf78
  v70 := Try.zeroValue78
  t72 := Try.underlying81
  a72 := Try.isAgg81
  z72 := Try.sizeOf81
  v72 := Try.zeroValue81
  t75 := Try.underlying84
  a75 := Try.isAgg84
  z75 := Try.sizeOf84
  v75 := Try.zeroValue84
  t76 := Try.underlying85
  a76 := Try.isAgg85
  z76 := Try.sizeOf85
  v76 := Try.zeroValue85
  t127 := Try.underlying97
  a127 := Try.isAgg97
  z127 := Try.sizeOf97
  v127 := Try.zeroValue97
  t164 := Try.underlying103
  a164 := Try.isAgg103
  z164 := Try.sizeOf103
  v164 := Try.zeroValue103 }
theorem Try.Builder_Extra_156 : Builder.Extra Try.prog Try.lays156_ren := {
  sizeBuilder := by kernel_rfl
  liesBuilder := by kernel_rfl
  t5 := Try.underlying5
  a5 := Try.isAgg5
  z5 := Try.sizeOf5
  v5 := Try.zeroValue5
  infoByte := by kernel_rfl
  cellsByte := by kernel_rfl
  sizeByte := by kernel_rfl
  neB5 := by decide }
open Go.RowKit in
theorem Try.strings_Join_none (a : Option Addr) (c : Nat) (sep : ByteArray) (w : World) :
    Calls Try.prog 46 #[.slice a 0 c, .string sep] w fun e w' => e = .returned (.string ⟨#[]⟩) ∧ w' = w := Any.strings_Join_none Try.lays156 Try.Builder_Extra_156 a c sep w
open Go.RowKit in
theorem Try.strings_Join (bk o c : Nat) (xs : List ByteArray) (sep : ByteArray) (w : World) (hcells : ∀ (j : Nat) x, xs[j]? = some x → w.cell? ⟨bk, o + j, none⟩ = some (.string x)) (hbk : bk < w.heap.size) (hN : xs.length ≤ 140737488355328) (hcap : xs.length ≤ c) (hlen : (Lib.join (xs.map (·.data.toList)) sep.data.toList).length ≤ 140737488355328) :
    Calls Try.prog 46 #[.slice (some ⟨bk, o, none⟩) xs.length c, .string sep] w fun e w' => e = .returned (.string ⟨(Lib.join (xs.map (·.data.toList)) sep.data.toList).toArray⟩) ∧ Below w.heap.size w w' := Any.strings_Join Try.lays156 Try.Builder_Extra_156 bk o c xs sep w hcells hbk hN hcap hlen
end Go.Proofs
/-
  Join, both sides; whether two rows of parts are the same.
-/
namespace Go.Proofs.Ytljkmdmbndjngaa
set_option linter.unusedVariables false
set_option linter.unusedSimpArgs false
open Go.RowKit

/-- A whole row of strings of the call's own. -/
def Sr (w : World) (g n : Nat) (F : Nat → ByteArray) : Prop := w.rowIs g 9 n (fun j => Value.string (F j))
theorem infoStr : (Try.prog.info? 9).map (fun i => (i.zero, i.size, i.bytes)) = some (some (.string ⟨#[]⟩), 1, 16) := by kernel_rfl
theorem run_mks (n : Nat) (hn : n ≤ 1000000) (w : World) :
    (Instr.makeSlice 34 (.int .i64 (n : Int)) (.int .i64 (n : Int))).run Try.prog w = .ok (.slice (some ⟨w.heap.size, 0, none⟩) n n) (w.alloc (.cells (madeCells #[.string ⟨#[]⟩] n) 9)) :=
  run_make_row' 34 9 _ 16 Try.underlying34 infoStr rfl _ _ n (by omega) (by omega) w
theorem Sr.made (w : World) (n : Nat) : Sr (w.alloc (.cells (madeCells #[.string ⟨#[]⟩] n) 9)) w.heap.size n (fun _ => ⟨#[]⟩) := World.rowIs_made w _ n _
theorem Sr.cell {w : World} {g n : Nat} {F : Nat → ByteArray} (h : Sr w g n F) {i : Nat} (hi : i < n) : w.cell? ⟨g, i, none⟩ = some (.string (F i)) := World.rowIs.cell h hi
theorem Sr.frozen {w : World} {g n : Nat} {F : Nat → ByteArray} (h : Sr w g n F) (i : Nat) : w.frozen? ⟨g, i, none⟩ = false := World.rowIs.frozen h i
theorem Sr.lt {w : World} {g n : Nat} {F : Nat → ByteArray} (h : Sr w g n F) : g < w.heap.size := World.rowIs.lt h
theorem Sr.below {w w' : World} {g n : Nat} {F : Nat → ByteArray} (h : Sr w g n F) (hb : Below w.heap.size w w') : Sr w' g n F := World.rowIs.of_block h (hb.block g (World.rowIs.lt h))
theorem Sr.set {w : World} {g n : Nat} {F G : Nat → ByteArray} (h : Sr w g n F) (i : Nat) (v : ByteArray) (hG : ∀ j, j < n → (if j = i then v else F j) = G j) : Sr (w.setCell ⟨g, i, none⟩ (.string v)) g n G := by
  refine (World.rowIs.set h i _).congr fun j hj => ?_
  show (if j = i then _ else _) = Value.string (G j)
  rw [← hG j hj]
  split <;> rfl
/-- The first n texts of a row. -/
def xsF (f : Nat → Rt) (n : Nat) : List ByteArray := (List.range n).map fun j => (f j).x
def jl (f : Nat → Rt) (n : Nat) : List (List UInt8) := (xsF f n).map (·.data.toList)
theorem xsF_len (f : Nat → Rt) (n : Nat) : (xsF f n).length = n := by simp [xsF]
theorem xsF_get {f : Nat → Rt} {n j : Nat} {x : ByteArray} (h : (xsF f n)[j]? = some x) : j < n ∧ x = (f j).x := by
  obtain ⟨h1, h2⟩ := List.getElem?_eq_some_iff.1 h
  have h3 : j < n := by rwa [xsF_len] at h1
  refine ⟨h3, ?_⟩
  rw [← h2]; simp [xsF]
theorem join_is : ∀ l : List (List UInt8), Lib.join l [32] = joinT l
  | [] => rfl
  | [a] => by rw [Lib.join_one]; rfl
  | a :: b :: r => by
    rw [joinT_cons a (by simp), ← join_is (b :: r), Lib.join_cons, Lib.join_cons]
    simp [Lib.joinTail]
def StrBelow (t : List UInt8) (W : World) (e : Ending) (W' : World) : Prop := e = .returned (.string (tx t)) ∧ Below W.heap.size W W'
theorem joinT_snoc : ∀ (l : List (List UInt8)) (x : List UInt8), l ≠ [] → joinT (l ++ [x]) = joinT l ++ 32 :: x
  | [], x, h => absurd rfl h
  | [a], x, _ => rfl
  | a :: b :: r, x, _ => by
    have := joinT_snoc (b :: r) x (by simp)
    show a ++ 32 :: joinT (b :: r ++ [x]) = (a ++ 32 :: joinT (b :: r)) ++ 32 :: x
    rw [this]; simp
theorem jl_succ (f : Nat → Rt) (k : Nat) : jl f (k + 1) = jl f k ++ [(f k).x.data.toList] := by
  unfold jl xsF
  rw [List.range_succ, List.map_append, List.map_append]; rfl
theorem jl_len (f : Nat → Rt) (k : Nat) : (jl f k).length = k := by simp [jl, xsF]
theorem jl_size {f : Nat → Rt} {n : Nat} (h : ∀ j, j < n → (f j).x.size ≤ 1000) : ∀ k, k ≤ n → (joinT (jl f k)).length ≤ 1001 * k
  | 0, _ => by simp [jl, xsF, joinT]
  | k + 1, hk => by
    have h1 := jl_size h k (by omega)
    have h2 := h k (by omega)
    have h3 : (f k).x.data.toList.length = (f k).x.size := by simp
    rw [jl_succ]
    by_cases h0 : jl f k = []
    · rw [h0]; show (f k).x.data.toList.length ≤ _; omega
    · rw [joinT_snoc _ _ h0, List.length_append, List.length_cons]; omega
/-- All texts so far, joined. -/
def Tj (f : Nat → Rt) (k : Nat) : ByteArray := tx (joinT (jl f k))
theorem Tj_one (f : Nat → Rt) : Tj f 0 ++ (f 0).x = Tj f 1 := by
  unfold Tj
  rw [jl_succ]
  show tx [] ++ _ = tx ((f 0).x.data.toList)
  rw [tx_back]
  exact bytes_ext (by rw [ByteArray.data_append, Array.toList_append]; rfl)
theorem Tj_more (f : Nat → Rt) (k : Nat) (h : 0 < k) : Tj f k ++ ⟨#[32]⟩ ++ (f k).x = Tj f (k + 1) := by
  unfold Tj
  rw [jl_succ, joinT_snoc _ _ (fun h2 => by have := jl_len f k; rw [h2] at this; simp at this; omega)]
  exact bytes_ext (by
    rw [ByteArray.data_append, Array.toList_append, ByteArray.data_append, Array.toList_append, tx_list, tx_list]
    simp)
theorem below_drewN {B : Nat} {a w : World} (h : Below B a w) (q : Nat) : Below B a (w.drewN q) := ⟨h.os, h.tape, h.output, h.size, h.block⟩
end Go.Proofs.Ytljkmdmbndjngaa
/-
  The printer's name, term and verb.
-/
namespace Go.Proofs.Ytljkmdmbndjngaa
set_option linter.unusedVariables false
set_option linter.unusedSimpArgs false
open Go.RowKit Go.Maps

theorem name_is {a : Option Addr} {n c : Nat} {b : Nat} (dk : Int) (dv da dx : ByteArray) (dg : Option Addr) (dm dc : Nat) (W : World) (v : Value) :
    Calls Try.prog 25 #[Pv a n c b, .agg #[.int .i64 dk, .string dv, .string da, .string dx, .slice dg dm dc], v] W (StB dx W) := by
  have HZ := boxes W a n c b dk dv da dx dg dm dc _ rfl
  obtain ⟨hP, hD, hB⟩ := HZ
  have d3 := hD.c3
  have HB := Lib.hid hB
  clear hP hD hB
  unfold Pv
  go_enter Try.func25, Try.ntmps25
  go_wp2_with fail
  go_ret
  exact ⟨rfl, HB.out⟩
/-- In parentheses, if it is of a verb. -/
def wrB (k : Int) (t : ByteArray) : ByteArray := if k = 3 ∨ k = 4 then (⟨#[40]⟩ : ByteArray) ++ t ++ ⟨#[41]⟩ else t
set_option maxRecDepth 10000 in
set_option maxHeartbeats 1600000 in
theorem pterm_is {a : Option Addr} {n c : Nat} {f : Nat → Nd} {b : Nat} (p : Nat) (t : ByteArray) (W : World) (h : Hy a n c f b W) (hp : p < n) (zt : t.size ≤ 20000000000)
    (KT : ∀ W, Hy a n c f b W → Calls Try.prog 15 #[Pv a n c b, .int .i64 (p : Int)] W (StB t W)) :
    Calls Try.prog 48 #[Pv a n c b, .int .i64 (p : Int)] W (StB (wrB (f p).k t) W) := by
  have hn := h.hn
  have hnc := h.nc
  have hcm := h.cm
  have q0 : ¬ (9223372036854775807 < 1 + t.size) := by omega
  have q1 : ¬ (9223372036854775807 < 1 + t.size + 1) := by omega
  have q2 : ¬ (9223372036854775807 ≤ 1 + t.size) := by omega
  obtain ⟨gb, off, rfl, hc⟩ := h.nq.ld (by omega)
  have hd := hc p hp
  clear hc
  have c0 := hd.c0
  have hgl := hd.lt
  have KQ := Lib.hid (fun w' (hb : Below W.heap.size W w') => stb_base hb (KT w' (h.below hb)))
  clear hd KT h
  unfold wrB
  generalize (f p).k = dk at *
  unfold Pv at *
  have hP := Bp.new W (some ⟨gb, off, none⟩) n c b
  have hB := box_below W (.cells #[.slice (some ⟨gb, off, none⟩) n c, .map (some b)] 40)
  have p0 := hP.c0
  have p1 := hP.c1
  have c1 := (Below.cell (p := ⟨gb, off + p * 5, none⟩) hB hgl).trans c0
  have HB := Lib.hid hB
  clear hP hB c0
  by_cases h3 : dk = 3
  · subst h3
    rw [if_pos (.inl rfl)]
    go_enter Try.func48, Try.ntmps48
    go_wp2_with fail
    refine (KQ.out _ HB.out).mono ?_
    rintro e w1 ⟨rfl, hq⟩
    go_wp2_with fail
    go_ret
    exact ⟨rfl, hq⟩
  · by_cases h4 : dk = 4
    · subst h4
      rw [if_pos (.inr rfl)]
      go_enter Try.func48, Try.ntmps48
      go_wp2_with fail
      refine (KQ.out _ HB.out).mono ?_
      rintro e w1 ⟨rfl, hq⟩
      go_wp2_with fail
      go_ret
      exact ⟨rfl, hq⟩
    · rw [if_neg (by rintro (h | h); exact h3 h; exact h4 h)]
      have e3 : (dk == 3) = false := beq_eq_false_iff_ne.2 h3
      have e4 : (dk == 4) = false := beq_eq_false_iff_ne.2 h4
      clear h3 h4
      go_enter Try.func48, Try.ntmps48
      go_wp2_with fail
      refine (KQ.out _ HB.out).mono ?_
      rintro e w1 ⟨rfl, hq⟩
      go_wp2_with fail
      go_ret
      exact ⟨rfl, hq⟩
theorem lex_vo {j : Nat} {v w : List UInt8} (h : Vo j v w) : Run numB v 0 [⟨j, v, 0⟩] none := by
  cases h with
  | @sign c h =>
    have g := Run.part (N := numB) (r := []) (t := []) (p := 0) (ts := []) (e := none) h (by decide) (by decide) (by simp) (.nil 4) (fun e => by omega) (.nil _)
    exact g
  | @word c t h ht =>
    have g := Run.part (N := numB) (r := []) (p := 0) (ts := []) (e := none) h (by decide) (by decide) ht (.nil 3) (fun e => by omega) (.nil _)
    rw [List.append_nil] at g
    exact g
theorem vo_kind {j : Nat} {v w : List UInt8} (h : Vo j v w) : (j = 3 ∧ w = 32 :: (v ++ [32])) ∨ (j = 4 ∧ w = v) := by
  cases h with
  | sign h => exact .inr ⟨rfl, rfl⟩
  | word h ht => exact .inl ⟨rfl, rfl⟩
/-- Of a text that is one part alone, the first part's kind. -/
theorem lex_one {s : ByteArray} {j : Nat} (hz : s.size ≤ 256) (hr : Run numB s.data.toList 0 [⟨j, s.data.toList, 0⟩] none) (W : World) : Calls Try.prog 20 #[.string s] W fun e W' => ∃ g o c, e = .returned (.tuple #[.slice (some ⟨g, o, none⟩) 1 c, .int .i64 0, .int .i64 0]) ∧ 1 ≤ c ∧ W'.cell? ⟨g, o, none⟩ = some (.int .i64 (j : Int)) ∧ Below W.heap.size W W' :=
  (lex_is s hz _ _ hr W).mono fun _ _ ⟨a1, c1, h1, h2, h3, h4⟩ => by
    obtain ⟨g, o, rfl, hq⟩ := h3 (show 0 < 1 by omega)
    have k0 := (hq 0 (show 0 < 1 by omega)).1
    rw [Nat.zero_mul, Nat.add_zero] at k0
    exact ⟨g, o, c1, h1, h2, k0, h4⟩
set_option maxRecDepth 10000 in
set_option maxHeartbeats 3200000 in
theorem verb_one {a : Option Addr} {n c : Nat} {b : Nat} (dk : Int) (dv da dx : ByteArray) (dg : Option Addr) (dm dc : Nat) (u : Int) (W : World) (j : Nat) (R : ByteArray) (hj : (j = 3 ∧ R = (⟨#[32]⟩ : ByteArray) ++ dv ++ ⟨#[32]⟩ ++ da) ∨ (j = 4 ∧ R = dv ++ da)) (hr : Run numB dv.data.toList 0 [⟨j, dv.data.toList, 0⟩] none) (hv : dv.data.toList ≠ [123]) (zv : dv.size ≤ 256) (za : da.size ≤ 300) :
    Calls Try.prog 47 #[Pv a n c b, .agg #[.int .i64 dk, .string dv, .string da, .string dx, .slice dg dm dc], .int .i64 u] W (StB R W) := by
  replace hj := Lib.hid hj
  have KL := Lib.hid (fun W => lex_one zv hr W)
  have HZ := boxes W a n c b dk dv da dx dg dm dc _ rfl
  have hne : (dv.toList == [123]) = false := by
    rw [str_tl]
    exact beq_eq_false_iff_ne.2 hv
  have hn2 : ¬ dv.toList = [123] := by rw [str_tl]; exact hv
  have q0 : ¬ (9223372036854775807 < 1 + dv.size) := by omega
  have q1 : ¬ (9223372036854775807 < 1 + dv.size + 1) := by omega
  have q2 : ¬ (9223372036854775807 ≤ 1 + dv.size) := by omega
  have q3 : ¬ (9223372036854775807 < 1 + dv.size + 1 + da.size) := by omega
  have q4 : ¬ (9223372036854775807 < dv.size + da.size) := by omega
  clear hr hv
  unfold Pv
  go_enter Try.func47, Try.ntmps47
  go_upto_region 1 with fail
  generalize (W.alloc _).alloc _ = wz at *
  obtain ⟨hP, hD, hB⟩ := HZ
  have p0 := hP.c0
  have p1 := hP.c1
  have d0 := hD.c0
  have d1 := hD.c1
  have d2 := hD.c2
  have d3 := hD.c3
  have d4 := hD.c4
  have HD := Lib.hid hD
  clear hP hD
  go_wp2_with fail
  refine (KL.out _).mono ?_
  rintro e w1 ⟨g1, o1, c1, rfl, hc1, k0, hb1⟩
  have hD := HD.out.on hb1
  have d1 := hD.c1
  have d2 := hD.c2
  have HB := Lib.hid (hB.trans (hb1.mono hB.size))
  clear hD HD hb1 hB p0 p1 d0 d3 d4 KL
  rcases hj.out with ⟨rfl, rfl⟩ | ⟨rfl, rfl⟩
  · go_wp2_with fail
    go_ret
    exact ⟨rfl, HB.out⟩
  · go_wp2_with fail
    go_ret
    exact ⟨rfl, HB.out⟩
set_option maxRecDepth 10000 in
set_option maxHeartbeats 3200000 in
theorem verb_body {a : Option Addr} {n c : Nat} {f : Nat → Nd} {b : Nat} (dk : Int) (da dx : ByteArray) (dg : Option Addr) (dm dc : Nat) (u : Nat) (t : ByteArray) (W : World) (h : Hy a n c f b W) (za : da.size ≤ 300) (zt : t.size ≤ 20000000000)
    (KT : ∀ W, Hy a n c f b W → Calls Try.prog 15 #[Pv a n c b, .int .i64 (u : Int)] W (StB t W)) :
    Calls Try.prog 47 #[Pv a n c b, .agg #[.int .i64 dk, .string ⟨#[123]⟩, .string da, .string dx, .slice dg dm dc], .int .i64 (u : Int)] W (StB ((⟨#[123]⟩ : ByteArray) ++ t ++ ⟨#[125]⟩ ++ da) W) := by
  have HZ := boxes W a n c b dk ⟨#[123]⟩ da dx dg dm dc _ rfl
  have q0 : ¬ (9223372036854775807 < 1 + t.size) := by omega
  have q1 : ¬ (9223372036854775807 < 1 + t.size + 1) := by omega
  have q2 : ¬ (9223372036854775807 ≤ 1 + t.size) := by omega
  have q3 : ¬ (9223372036854775807 < 1 + t.size + 1 + da.size) := by omega
  have KQ := Lib.hid (fun w' (hb : Below W.heap.size W w') => (KT w' (h.below hb)))
  clear h KT
  unfold Pv at *
  go_enter Try.func47, Try.ntmps47
  go_upto_region 1 with fail
  generalize (W.alloc _).alloc _ = wz at *
  obtain ⟨hP, hD, hB⟩ := HZ
  have p0 := hP.c0
  have p1 := hP.c1
  have d0 := hD.c0
  have d1 := hD.c1
  have d2 := hD.c2
  have d3 := hD.c3
  have d4 := hD.c4
  have lp := hP.lt
  have ld := hD.lt
  have KZ := Lib.hid (fun w' (hb : Below wz.heap.size wz w') => stb_base hb (KQ.out w' (hB.trans (hb.mono hB.size))))
  have hq : Below wz.heap.size wz wz := Below.refl _ _
  clear hP hD KQ
  go_wp2_with fail
  go_region_held3 (fun w' => w'.cell? ⟨W.heap.size, 0, none⟩ = some (.slice a n c) ∧ w'.cell? ⟨W.heap.size, 1, none⟩ = some (.map (some b)) ∧ w'.cell? ⟨W.heap.size + 1, 2, none⟩ = some (.string da))
    (first | exact ⟨(Below.cell (p := ⟨W.heap.size, 0, none⟩) (by repeat' (first | exact hq | refine Below.drew ?_ | refine below_drewM ?_ _)) lp).trans p0, (Below.cell (p := ⟨W.heap.size, 1, none⟩) (by repeat' (first | exact hq | refine Below.drew ?_ | refine below_drewM ?_ _)) lp).trans p1, (Below.cell (p := ⟨W.heap.size + 1, 2, none⟩) (by repeat' (first | exact hq | refine Below.drew ?_ | refine below_drewM ?_ _)) ld).trans d2⟩ | fail)
    (first
      | (go_at_call 15; (with_reducible refine (KZ.out _ (by repeat' (first | exact hq | refine Below.drew ?_ | refine below_drewM ?_ _))).mono ?_); rintro e wa ⟨rfl, hq⟩)
      | fail)
  all_goals
    go_wp2_with fail
    go_ret
    exact ⟨rfl, hB.trans (hq.mono hB.size)⟩
end Go.Proofs.Ytljkmdmbndjngaa
/-
  Each line's tree that may be is printed in some way, over parts as Lex tells them.
-/
namespace Go.Proofs.Ytljkmdmbndjngaa
set_option linter.unusedVariables false
set_option linter.unusedSimpArgs false
variable {N : List UInt8 → Bool} {M : List UInt8 → List UInt8}

theorem PrL.ex {P : Pk → Prop} (hN : ∀ q, P q → q.k = 1 → Nu N q.t) (hW : ∀ q, P q → q.k = 2 → ∃ c t, q.t = c :: t ∧ cls c = 2 ∧ ∀ x ∈ t, (moreL 2).contains x = true) (hD : ∀ q, P q → q.k = 3 → ∃ c t, q.t = c :: t ∧ cls c = 3 ∧ ∀ x ∈ t, (moreL 3).contains x = true) (hO : ∀ q, P q → q.k = 3 ∨ q.k = 4 → q.t ≠ [123] ∧ ∃ j s, Vo j q.t s)
    {n : Tn} {Y : List Tn} {d : Nat} (hd : Dp (n :: Y) 1 d) (hn : Nok M P n ∨ Hok P n) (hY : ∀ t ∈ Y, Nok M P t) : ∃ s, PrL N M (n :: Y) s := by
  have ex := Pr.ex (N := N) (M := M) hN hW hO
  rcases hn with hn | hn
  · obtain ⟨⟨s, h⟩, _⟩ := ex _ _ d (Nat.le_refl _) hd fun t ht => by
      rcases List.mem_cons.1 ht with rfl | ht
      · exact hn
      · exact hY t ht
    exact ⟨s, .expr h⟩
  · obtain ⟨n', Y', k, d1, e, hk, hY2⟩ := hd.head
    injection e with e1 e2
    subst e1 e2
    cases hn with
    | @assign q hq h2 =>
      have : k = 1 := by have : kdT (⟨5, [], [], q.t, []⟩ : Tn) = 1 := rfl; omega
      subst this
      obtain ⟨c, t, e, hc, ht⟩ := hW q hq h2
      obtain ⟨⟨s, h⟩, _⟩ := ex _ _ _ (Nat.le_refl _) hY2 hY
      rw [e]
      exact ⟨_, .assign hc ht h⟩
    | @amend q hq h2 =>
      have : k = 2 := by have : kdT (⟨6, [], [], q.t, []⟩ : Tn) = 2 := rfl; omega
      subst this
      obtain ⟨c, t, e, hc, ht⟩ := hW q hq h2
      obtain ⟨A, B, dA, dB, rfl, hA, hB⟩ := hY2.more (m := 1)
      obtain ⟨⟨i, hi⟩, _⟩ := ex _ _ _ (Nat.le_refl _) hA fun t ht => hY t (by simp [ht])
      obtain ⟨⟨s, h⟩, _⟩ := ex _ _ _ (Nat.le_refl _) hB fun t ht => hY t (by simp [ht])
      rw [e]
      exact ⟨_, .amend hc ht hi h⟩
    | @define q hq h3 =>
      have : k = 1 := by have : kdT (⟨7, [], [], q.t, []⟩ : Tn) = 1 := rfl; omega
      subst this
      obtain ⟨c, t, e, hc, ht⟩ := hD q hq h3
      obtain ⟨⟨s, h⟩, _⟩ := ex _ _ _ (Nat.le_refl _) hY2 hY
      rw [e]
      exact ⟨_, .define hc ht h⟩
/-- Printed, over parts as Lex tells them. -/
theorem printed_ex {P : Pk → Prop} (hP : ∀ q, P q → Ps q) {n : Tn} {Y : List Tn} {d : Nat} (hd : Dp (n :: Y) 1 d) (hn : Nok numT P n ∨ Hok P n) (hY : ∀ t ∈ Y, Nok numT P t) : ∃ s, PrL numB numT (n :: Y) s := by
  have cl : ∀ q, P q → ∀ k : Nat, q.k = (k : Int) → ∃ c t, q.t = c :: t ∧ cls c = k ∧ (k = 1 → numB q.t = true) ∧ ∀ x ∈ t, (moreL k).contains x = true := fun q hq k hk => by
    obtain ⟨c, t, e, hc, _, _, hn, ht⟩ := (hP q hq).of
    have : cls c = k := by omega
    subst this
    exact ⟨c, t, e, rfl, hn, ht⟩
  refine PrL.ex (fun q hq hk => ?_) (fun q hq hk => ?_) (fun q hq hk => ?_) (fun q hq hk => ?_) hd hn hY
  · obtain ⟨c, t, e, hc, hn, ht⟩ := cl q hq 1 hk
    exact ⟨⟨c, t, e, hc, ht⟩, hn rfl⟩
  · obtain ⟨c, t, e, hc, _, ht⟩ := cl q hq 2 hk
    exact ⟨c, t, e, hc, ht⟩
  · obtain ⟨c, t, e, hc, _, ht⟩ := cl q hq 3 hk
    exact ⟨c, t, e, hc, ht⟩
  · rcases hk with hk | hk
    · obtain ⟨c, t, e, hc, _, ht⟩ := cl q hq 3 hk
      refine ⟨fun g => ?_, 3, ?_⟩
      · rw [e] at g
        injection g with g _
        subst g
        exact absurd hc (by decide)
      · rw [e]
        exact ⟨_, .word hc ht⟩
    · obtain ⟨c, t, e, hc, _, ht⟩ := cl q hq 4 hk
      cases t with
      | nil =>
        refine ⟨fun g => ?_, 4, ?_⟩
        · rw [e] at g
          injection g with g _
          subst g
          exact absurd hc (by decide)
        · rw [e]
          exact ⟨_, .sign hc⟩
      | cons x t => exact absurd (ht x (by simp)) (by rw [more_big (Nat.le_refl 4)]; simp)
end Go.Proofs.Ytljkmdmbndjngaa
/-
  Each tree in memory that may be is printed in some way.
-/
namespace Go.Proofs.Ytljkmdmbndjngaa
set_option linter.unusedVariables false
set_option linter.unusedSimpArgs false

theorem prt_ps {s : ByteArray} {k : Int} (h : prt s k = true) : ∃ q : Pk, Ps q ∧ q.k = k ∧ q.t = s.data.toList := by
  unfold prt at h
  by_cases hz : s.size ≤ 256
  · rw [if_pos hz] at h
    have hr := lx_run s
    cases he : lxE s with
    | some _ => rw [he] at h; simp at h
    | none =>
      rw [he] at h hr
      cases hts : lxT s with
      | nil => rw [hts] at h; simp at h
      | cons t r =>
        cases r with
        | cons t2 r => rw [hts] at h; simp at h
        | nil =>
          rw [hts] at h hr
          have h : (decide ((t.kind : Int) = k) && ((tx t.text).toList == s.toList)) = true := h
          rw [Bool.and_eq_true, decide_eq_true_eq, beq_iff_eq, str_tl, str_tl, tx_list] at h
          have g := (hr.each t (by simp)).1
          exact ⟨⟨t.kind, t.text, 0⟩, ⟨t.kind, rfl, g⟩, h.1, h.2⟩
  · rw [if_neg hz] at h; cases h
theorem emp_to {s : ByteArray} (h : emp s = true) : s.data.toList = [] := by
  unfold emp at h
  rw [str_tl] at h
  exact List.isEmpty_iff.1 h
theorem adv_to {s : ByteArray} {l : List UInt8} (h : advB s l = true) : s.data.toList = [] ∨ ∃ c ∈ l, s.data.toList = [c] := by
  unfold advB at h
  rw [Bool.or_eq_true] at h
  rcases h with h | h
  · exact .inl (List.isEmpty_iff.1 h)
  · obtain ⟨c, hc, g⟩ := List.any_eq_true.1 h
    exact .inr ⟨c, hc, by simpa using g⟩
theorem verb_to {v : ByteArray} (h : verbB v = true) : v.data.toList = [123] ∨ ∃ q : Pk, Ps q ∧ (q.k = 3 ∨ q.k = 4) ∧ v.data.toList = q.t := by
  unfold verbB at h
  rw [Bool.or_eq_true, Bool.or_eq_true, beq_iff_eq, str_tl] at h
  rcases h with h | h | h
  · exact .inl h
  · obtain ⟨q, hq, hk, e⟩ := prt_ps h; exact .inr ⟨q, hq, .inr hk, e.symm⟩
  · obtain ⟨q, hq, hk, e⟩ := prt_ps h; exact .inr ⟨q, hq, .inl hk, e.symm⟩
theorem dig_cls : ∀ c : UInt8, (48 ≤ c.toNat ∧ c.toNat ≤ 57) → cls c = 1 ∧ (moreL 1).contains c = true ∧ c ≠ 95 ∧ c ≠ 45 := all_u8 (by decide +kernel)
theorem may_fig {l : List UInt8} (h : mayL l = true) : AllDig (figs l) ∧ figs l ≠ [] := by
  unfold mayL at h
  simp only [Bool.and_eq_true, decide_eq_true_eq] at h
  exact ⟨allDigB.1 h.1.2, fun h2 => by rw [h2] at h; simp at h⟩
/-- A number as a part. -/
theorem lit_part {l : List UInt8} (h : mayL l = true) : ∃ c t, swapL l = c :: t ∧ cls c = 1 ∧ (∀ x ∈ t, (moreL 1).contains x = true) ∧ numB (c :: t) = true ∧ numT (c :: t) = l := by
  obtain ⟨hd, hne⟩ := may_fig h
  cases l with
  | nil => exact absurd h (by decide)
  | cons c r =>
    by_cases hc : c = 45
    · subst hc
      rw [figs_neg] at hd hne
      refine ⟨95, r, rfl, by decide, fun x hx => (dig_cls x (hd x hx)).2.1, ?_, ?_⟩
      · show (!((95 :: r).head? == some 45) && mayL (45 :: r)) = true
        rw [h]; rfl
      · unfold numT numB
        rw [show swapN (95 :: r) = 45 :: r from rfl, h]; rfl
    · have hf : figs (c :: r) = c :: r := figs_pos (fun h2 => hc (Option.some.inj h2))
      rw [hf] at hd
      obtain ⟨h1, -, h3, -⟩ := dig_cls c (hd c List.mem_cons_self)
      have hs : swapL (c :: r) = c :: r := if_neg hc
      have hn : swapN (c :: r) = c :: r := if_neg h3
      have hb : numB (c :: r) = true := by
        unfold numB
        rw [hn, h, show ((c :: r).head? == some 45) = false from beq_false_of_ne (fun h2 => hc (Option.some.inj h2))]; rfl
      refine ⟨c, r, hs, h1, fun x hx => (dig_cls x (hd x (List.mem_cons_of_mem _ hx))).2.1, hb, ?_⟩
      unfold numT
      rw [hb, hn]; rfl
theorem num_part {l : List UInt8} (h : mayL l = true) : ∃ q : Pk, Ps q ∧ q.k = 1 ∧ l = numT q.t := by
  obtain ⟨c, t, e, hc, ht, hn, hb⟩ := lit_part h
  refine ⟨⟨1, c :: t, 0⟩, ⟨1, rfl, ?_⟩, rfl, hb.symm⟩
  have g := Run.part (N := numB) (r := []) (p := 0) (ts := []) (e := none) hc (by decide) (by decide) ht (.nil 1) (fun _ => hn) (.nil _)
  rw [List.append_nil] at g
  exact g
theorem tn_nok {d : Nd} (h : okN d = true) (hh : hdN d.k = false) : Nok numT Ps (tnOf d) := by
  unfold okN at h
  show Nok numT Ps ⟨d.k, d.v.data.toList, d.a.data.toList, d.x.data.toList, d.ns.map (·.data.toList)⟩
  have h34 : ∀ k : Int, k = 3 ∨ k = 4 → ∀ {v a : List UInt8}, (v = [123] ∨ ∃ q : Pk, Ps q ∧ (q.k = 3 ∨ q.k = 4) ∧ v = q.t) → (a = [] ∨ ∃ c ∈ advs k, a = [c]) → Nok numT Ps ⟨k, v, a, [], []⟩ := by
    intro k hk v a hv ha
    rcases hv with rfl | ⟨q, hq, h34, rfl⟩
    · exact .body hk ha
    · exact .one hk hq h34 ha
  by_cases h1 : d.k = 1
  · rw [if_pos h1] at h
    simp only [Bool.and_eq_true] at h
    obtain ⟨hn, hv, ha, hx⟩ := h
    rw [emp_to hv, emp_to ha, emp_to hx, h1]
    unfold numsB at hn
    simp only [Bool.and_eq_true, decide_eq_true_eq] at hn
    refine .lit (by rw [List.length_map]; omega) (by rw [List.length_map]; omega) fun s hs => ?_
    obtain ⟨b, hb, rfl⟩ := List.mem_map.1 hs
    exact num_part (List.all_eq_true.1 (show (d.ns.all fun s => mayL s.data.toList) = true from hn.2.2) b hb)
  · rw [if_neg h1] at h
    by_cases h2 : 0 < d.ns.length
    · rw [if_pos h2] at h; cases h
    · rw [if_neg h2] at h
      have hns : d.ns = [] := List.length_eq_zero_iff.1 (by omega)
      rw [hns]
      by_cases h3 : d.k = 3
      · rw [if_pos h3] at h
        simp only [Bool.and_eq_true] at h
        rw [emp_to h.1, h3]
        exact h34 3 (.inl rfl) (verb_to h.2.1) (adv_to h.2.2)
      · rw [if_neg h3] at h
        by_cases h4 : d.k = 4
        · rw [if_pos h4] at h
          simp only [Bool.and_eq_true] at h
          rw [emp_to h.1, h4]
          exact h34 4 (.inr rfl) (verb_to h.2.1) (adv_to h.2.2)
        · rw [if_neg h4] at h
          by_cases h5 : (!(emp d.v && emp d.a)) = true
          · rw [if_pos h5] at h; cases h
          · rw [if_neg h5] at h
            have h5 : emp d.v = true ∧ emp d.a = true := by simpa using h5
            rw [emp_to h5.1, emp_to h5.2]
            by_cases h6 : d.k = 2 ∨ d.k = 5 ∨ d.k = 6
            · rw [if_pos h6] at h
              obtain ⟨q, hq, hk, e⟩ := prt_ps h
              have : d.k = 2 := by
                unfold hdN at hh
                rcases h6 with h6 | h6 | h6
                · exact h6
                · rw [h6] at hh; cases hh
                · rw [h6] at hh; cases hh
              rw [this, ← e]
              exact .name hq hk
            · rw [if_neg h6] at h
              by_cases h7 : d.k = 7
              · rw [h7] at hh; cases hh
              · rw [if_neg h7] at h
                by_cases h8 : d.k = 8
                · rw [if_pos h8] at h
                  rw [emp_to h, h8]
                  exact .index
                · rw [if_neg h8] at h; cases h
theorem tn_hok {d : Nd} (h : okN d = true) (hh : hdN d.k = true) : Hok Ps (tnOf d) := by
  unfold okN at h
  show Hok Ps ⟨d.k, d.v.data.toList, d.a.data.toList, d.x.data.toList, d.ns.map (·.data.toList)⟩
  have hk : 5 ≤ d.k ∧ d.k ≤ 7 := by unfold hdN at hh; simpa using hh
  rw [if_neg (by omega)] at h
  by_cases h2 : 0 < d.ns.length
  · rw [if_pos h2] at h; cases h
  · rw [if_neg h2, if_neg (by omega), if_neg (by omega)] at h
    have hns : d.ns = [] := List.length_eq_zero_iff.1 (by omega)
    rw [hns]
    by_cases h5 : (!(emp d.v && emp d.a)) = true
    · rw [if_pos h5] at h; cases h
    · rw [if_neg h5] at h
      have h5 : emp d.v = true ∧ emp d.a = true := by simpa using h5
      rw [emp_to h5.1, emp_to h5.2]
      by_cases h7 : d.k = 7
      · rw [if_neg (by omega), if_pos h7] at h
        obtain ⟨q, hq, hk2, e⟩ := prt_ps h
        rw [h7, ← e]
        exact .define hq hk2
      · rw [if_pos (by omega)] at h
        obtain ⟨q, hq, hk2, e⟩ := prt_ps h
        rw [← e]
        rcases (show d.k = 5 ∨ d.k = 6 by omega) with h6 | h6
        · rw [h6]; exact .assign hq hk2
        · rw [h6]; exact .amend hq hk2
/-- A row of nodes that may be: how it is printed. -/
theorem may_printed {f : Nat → Nd} {n : Nat} (h : mayP f n) : ∃ s, PrL numB numT (tnF f n) s := by
  obtain ⟨d, hd, _, hok⟩ := h
  have hD : Dp (tnF f n) 1 d := by
    unfold Dp
    rw [← ksF_tn, tnF_len]
    exact hd
  obtain ⟨m, Y, k, d1, e, _, _⟩ := hD.head
  have hat : ∀ i, i < n → (tnF f n)[i]? = some (tnOf (f i)) := fun i hi => tnF_at hi
  have hn : 0 < n := by
    have := tnF_len f n
    rw [e, List.length_cons] at this
    omega
  rw [e] at hD hat ⊢
  have e0 : m = tnOf (f 0) := by have := hat 0 hn; simpa using this
  refine printed_ex (P := Ps) (fun _ h => h) hD ?_ fun t ht => ?_
  · rw [e0]
    cases hh : hdN (f 0).k with
    | false => exact .inl (tn_nok (hok 0 hn).1 hh)
    | true => exact .inr (tn_hok (hok 0 hn).1 hh)
  · obtain ⟨i, hi, ei⟩ := List.getElem_of_mem ht
    have hl : (m :: Y).length = n := by rw [← e, tnF_len]
    rw [List.length_cons] at hl
    have g := hat (i + 1) (by omega)
    rw [List.getElem?_cons_succ, List.getElem?_eq_getElem hi, ei] at g
    injection g with g
    rw [g]
    exact tn_nok (hok (i + 1) (by omega)).1 ((hok (i + 1) (by omega)).2 (by omega))
/-- A number's part, from the number. -/
theorem lit_num {t : List UInt8} (h : numB t = true) : litT (numT t) = t := by
  have hb := h
  unfold numB at h
  rw [Bool.and_eq_true] at h
  obtain ⟨h1, h2⟩ := h
  unfold numT litT
  rw [if_pos hb, if_pos h2]
  cases t with
  | nil => exact absurd h2 (by decide)
  | cons c r =>
    by_cases h3 : c = 95
    · subst h3; rfl
    · have hn : swapN (c :: r) = c :: r := if_neg h3
      rw [hn]
      refine if_neg fun h4 => ?_
      rw [h4] at h1
      exact absurd h1 (by simp)
end Go.Proofs.Ytljkmdmbndjngaa
/-
  The printer's lit: the numbers of a node as parts, joined.
-/
namespace Go.Proofs.Ytljkmdmbndjngaa
set_option linter.unusedVariables false
set_option linter.unusedSimpArgs false
open Go.RowKit Go.Maps

/-- The texts of a list, as a row. -/
def fT (ss : List (List UInt8)) (j : Nat) : Rt := ⟨0, tx (ss.getD j []), 0⟩
theorem fT_jl (ss : List (List UInt8)) : jl (fT ss) ss.length = ss := by
  unfold jl xsF
  rw [List.map_map]
  refine List.ext_getElem (by simp) fun i h1 h2 => ?_
  have h2 : i < ss.length := by simpa using h2
  simp [fT, tx_list, List.getD, h2]
theorem num_len {s : List UInt8} (h : numB s = true) : s.length ≤ 101 ∧ (numT s).length ≤ 101 := by
  have e : numT s = swapN s := if_pos h
  have hl : (swapN s).length = s.length := by
    cases s with
    | nil => rfl
    | cons c r => show (if c = 95 then 45 :: r else c :: r).length = _; split <;> rfl
  unfold numB at h
  rw [Bool.and_eq_true] at h
  have h2 := h.2
  unfold mayL at h2
  simp only [Bool.and_eq_true, decide_eq_true_eq] at h2
  have h3 : (figs (swapN s)).length ≤ 100 := h2.1.1.2
  have h4 : (swapN s).length ≤ (figs (swapN s)).length + 1 := by
    unfold figs Lib.trimPrefix
    split
    · simp; omega
    · omega
  rw [e]
  omega
set_option maxRecDepth 10000 in
set_option maxHeartbeats 3200000 in
theorem plit_is {a : Option Addr} {n c : Nat} {b : Nat} (dk : Int) (dv da dx : ByteArray) (dg : Option Addr) (dc : Nat) (ss : List (List UInt8)) (W : World) (v : Value) (h0 : 0 < ss.length) (h1 : ss.length ≤ 100) (hN : ∀ s ∈ ss, numB s = true) (hst : St W dg ss.length (ss.map fun s => tx (numT s))) (hdc : ss.length ≤ dc) (hcm : dc ≤ maxLen) :
    Calls Try.prog 24 #[Pv a n c b, .agg #[.int .i64 dk, .string dv, .string da, .string dx, .slice dg ss.length dc], v] W (StB (tx (joinT ss)) W) := by
  have HZ := boxes W a n c b dk dv da dx dg ss.length dc _ rfl
  obtain ⟨gb, off, rfl, hc⟩ := hst.2 h0
  have HC := Lib.hid (fun j (hj : j < ss.length) => show W.cell? ⟨gb, off + j, none⟩ = some (.string (tx (numT (ss.getD j [])))) by
    rw [hc j hj]
    simp [List.getD, hj])
  have hgl : gb < W.heap.size := World.block_lt_of_cell? W _ (hc 0 h0)
  have KL := Lib.hid (fun j (hj : j < ss.length) w => (show Calls Try.prog 45 #[.string (tx (numT (ss.getD j [])))] w (fun e w' => e = .returned (.tuple #[.string (fT ss j).x, .bool (mayL (numT (ss.getD j [])))]) ∧ w = w') from by
    have hm : ss.getD j [] ∈ ss := by
      have : ss.getD j [] = ss[j] := by simp [List.getD, hj]
      rw [this]; exact List.getElem_mem hj
    have g := Literal_is (numT (ss.getD j [])) (by have := (num_len (hN _ hm)).2; omega) w
    rw [lit_num (hN _ hm)] at g
    exact g))
  have HL := Lib.hid (show (joinT (jl (fT ss) ss.length)).length ≤ 140737488355328 by
    rw [fT_jl]
    have g := joinT_most (B := 101) fun s hs => (num_len (hN s hs)).1
    omega)
  have HJ := Lib.hid (fT_jl ss)
  obtain ⟨m, hm⟩ : ∃ m, m = ss.length := ⟨_, rfl⟩
  rw [← hm] at h0 h1 hdc HZ HC KL HL HJ ⊢
  clear hc hst hN hm
  generalize fT ss = fs at *
  unfold Pv
  go_enter Try.func24, Try.ntmps24
  go_upto_region 1 with fail
  generalize (W.alloc _).alloc _ = wz at *
  obtain ⟨hP, hD, hB⟩ := HZ
  have d4 := hD.c4
  have ld := hD.lt
  have hgz : gb < wz.heap.size := Nat.lt_of_lt_of_le hgl hB.size
  have HCz := Lib.hid (fun j (hj : j < m) => (Below.cell (p := ⟨gb, off + j, none⟩) hB hgl).trans (HC.out j hj))
  have hmk := run_mks m (by omega) wz
  have hS := Sr.made wz m
  have hb0 : Below wz.heap.size wz (wz.alloc (.cells (madeCells #[.string ⟨#[]⟩] m) 9)) := (Below.refl _ _).alloc (Nat.le_refl _) _
  have d4a := (Below.cell (p := ⟨W.heap.size + 1, 4, none⟩) hb0 ld).trans d4
  have HB := Lib.hid hB
  clear hP hD hB HC
  go_wp2_with fail
  clear d4 d4a
  go_loopw [17] (fun iv wr => ∃ k : Nat, iv = .int .i64 k ∧ k ≤ m ∧ Sr wr wz.heap.size m (fun j => if j < k then (fs j).x else ⟨#[]⟩) ∧ Below wz.heap.size wz wr) (fun iv _ => m - (intOf iv).toNat)
  case atStart => exact ⟨0, rfl, by omega, hS, hb0⟩
  case round =>
    obtain ⟨k, rfl, hk, hs, hb⟩ := hrel
    clear hmk hS hb0
    by_cases hlt : k < m
    · have e2 : (k : Int) < (m : Int) := by omega
      have c1 := (Below.cell (p := ⟨gb, off + k, none⟩) hb hgz).trans (HCz.out k hlt)
      have fz := hs.frozen k
      have ck := hs.cell hlt
      have hlt2 := hs.lt
      have hs2 := hs.set k (fs k).x (G := fun j => if j < k + 1 then (fs j).x else ⟨#[]⟩) (fun j hj => by
        by_cases h1 : j = k
        · subst h1; rw [if_pos rfl, if_pos (by omega)]
        · rw [if_neg h1]
          by_cases h2 : j < k
          · rw [if_pos h2, if_pos (by omega)]
          · rw [if_neg h2, if_neg (by omega)])
      have hb2 : Below wz.heap.size wz (wr.setCell ⟨wz.heap.size, k, none⟩ (.string (fs k).x)) := hb.setCell (Nat.le_refl _) _
      have HH := Lib.hid (And.intro hs2 hb2)
      have KK := Lib.hid (KL.out k hlt)
      clear hs2 hb2
      generalize tx (numT (ss.getD k [])) = tk at *
      generalize mayL (numT (ss.getD k [])) = mk at *
      go_wp2_with fail
      refine (KK.out _).mono ?_
      rintro e w1 ⟨rfl, rfl⟩
      go_wp2_with fail
      refine ⟨⟨k + 1, by go_num, by omega, HH.out.1, HH.out.2⟩, by simp [intOf]; omega⟩
    · have e2 : ¬ (k : Int) < (m : Int) := by omega
      obtain rfl : k = m := by omega
      have KJ := Try.strings_Join wz.heap.size 0 k (xsF fs k) ⟨#[32]⟩ wr (fun j x hx => by
        obtain ⟨hj, rfl⟩ := xsF_get hx
        rw [Nat.zero_add, hs.cell hj, if_pos hj]) hs.lt (by rw [xsF_len]; omega) (by rw [xsF_len]; exact Nat.le_refl _) (by
          show (Lib.join (jl fs k) [32]).length ≤ _
          rw [join_is]; exact HL.out)
      rw [xsF_len] at KJ
      replace KJ := Lib.hid KJ
      have HT := Lib.hid (show (⟨(Lib.join ((xsF fs k).map (·.data.toList)) (⟨#[32]⟩ : ByteArray).data.toList).toArray⟩ : ByteArray) = tx (joinT ss) by
        rw [← HJ.out, ← join_is]; rfl)
      rw [HT.out] at KJ
      go_wp2_with fail
      refine KJ.out.mono ?_
      rintro e w1 ⟨rfl, hq⟩
      go_wp2_with fail
      go_ret
      exact ⟨rfl, HB.out.trans ((hb.trans (hq.mono hb.size)).mono HB.out.size)⟩
end Go.Proofs.Ytljkmdmbndjngaa
/-
  The printer prints each tree as it is told plainly.
-/
namespace Go.Proofs.Ytljkmdmbndjngaa
set_option linter.unusedVariables false
set_option linter.unusedSimpArgs false
open Go.RowKit Go.Maps

/-- The nodes' words are no longer than a line. -/
def Sz (f : Nat → Nd) (n : Nat) : Prop := ∀ j, j < n → (f j).v.size ≤ 256 ∧ (f j).a.size ≤ 256 ∧ (f j).x.size ≤ 256
theorem Pt.size {N : List UInt8 → Bool} {M : List UInt8 → List UInt8} {L : List Tn} {p : Nat} {s : List UInt8} (h : Pt N M L p s) : s.length ≤ 20000000000 := by
  cases h with
  | mk hn he hu hl hk hf hz => exact hz
theorem tn_some {f : Nat → Nd} {n p : Nat} {d : Tn} (h : (tnF f n)[p]? = some d) : p < n ∧ d = tnOf (f p) := by
  have hp := (List.getElem?_eq_some_iff.1 h).1
  rw [tnF_len] at hp
  rw [tnF_at hp] at h
  exact ⟨hp, (Option.some.inj h).symm⟩
theorem tx_of {s : ByteArray} {l : List UInt8} (h : s.data.toList = l) : s = tx l := by rw [← h]; exact (tx_back s).symm
theorem wrB_tx (d : Nd) (t : List UInt8) : wrB d.k (tx t) = tx (wrT (tnOf d) t) := by
  unfold wrB wrT
  show (if d.k = 3 ∨ d.k = 4 then _ else _) = tx (if d.k = 3 ∨ d.k = 4 then _ else _)
  split
  · rw [show (⟨#[40]⟩ : ByteArray) = tx [40] from rfl, show (⟨#[41]⟩ : ByteArray) = tx [41] from rfl, tx_cat, tx_cat]; rfl
  · rfl
theorem wrB_size {k : Int} {t : ByteArray} (h : t.size ≤ 20000000000) : (wrB k t).size ≤ 20000001000 := by
  unfold wrB
  split
  · rw [ByteArray.size_append, ByteArray.size_append, show (⟨#[40]⟩ : ByteArray).size = 1 from rfl, show (⟨#[41]⟩ : ByteArray).size = 1 from rfl]; omega
  · omega
theorem un_place {f : Nat → Nd} {n p e : Nat} {d : Tn} (h : (tnF f n)[p]? = some d) (he : eN ((tnF f n).map kdT) 1 p = some e) : unI (ksF f n) p = un ((tnF f n).map kdT) (kdT d).toNat (p + 1) := by
  unfold unI
  rw [ksF_tn, enI_nat, he]
  show un _ (((tnF f n).map kdT).getD (p : Int).toNat 0).toNat ((p : Int).toNat + 1) = _
  rw [Int.toNat_natCast, List.getD, List.getElem?_map, h]; rfl
/-- A verb, however it is told. -/
theorem pverb_is {a : Option Addr} {n c : Nat} {f : Nat → Nd} {b p : Nat} {w : List UInt8} {o : Option (List UInt8)} {d : Tn} (hd : d = tnOf (f p)) (hp : p < n) (hz : Sz f n) (hv : Vx d o w) (u : Nat)
    (K : ∀ t, o = some t → t.length ≤ 20000000000 ∧ ∀ W, Hy a n c f b W → Calls Try.prog 15 #[Pv a n c b, .int .i64 (u : Int)] W (StB (tx t) W)) (W : World) (h : Hy a n c f b W) :
    Calls Try.prog 47 #[Pv a n c b, (f p).val, .int .i64 (u : Int)] W (StB (tx w) W) := by
  obtain ⟨z1, z2, z3⟩ := hz p hp
  unfold Nd.val
  cases hv with
  | @one j k v a' w hv =>
    injection hd with e1 e2 e3
    have hr := lex_vo hv
    have hne := vo_ne hv
    rw [e2] at hr hne
    refine verb_one _ _ _ _ _ _ _ _ W j _ ?_ hr hne z1 (by omega)
    rcases vo_kind hv with ⟨rfl, rfl⟩ | ⟨rfl, rfl⟩
    · refine .inl ⟨rfl, ?_⟩
      rw [tx_of e2.symm, tx_of e3.symm, show (⟨#[32]⟩ : ByteArray) = tx [32] from rfl, tx_cat, tx_cat, tx_cat]
      simp
    · refine .inr ⟨rfl, ?_⟩
      rw [tx_of e2.symm, tx_of e3.symm, tx_cat]
  | @body k a' t =>
    injection hd with e1 e2 e3
    obtain ⟨hl, K⟩ := K t rfl
    rw [tx_of e2.symm, show tx [123] = (⟨#[123]⟩ : ByteArray) from rfl]
    have g := verb_body (dk := (f p).k) (da := (f p).a) (dx := (f p).x) (dg := (f p).g) (dm := (f p).m) (dc := (f p).c) u (tx t) W h (by omega) (by rw [tx_size]; exact hl) K
    rw [tx_of e3.symm, show (⟨#[123]⟩ : ByteArray) = tx [123] from rfl, show (⟨#[125]⟩ : ByteArray) = tx [125] from rfl, tx_cat, tx_cat, tx_cat] at g
    simp only [List.singleton_append, List.append_assoc, List.cons_append, List.nil_append] at g
    rw [← tx_of e3.symm] at g
    exact g
theorem vx_size {f : Nat → Nd} {n p : Nat} {w : List UInt8} {o : Option (List UInt8)} {d : Tn} (hd : d = tnOf (f p)) (hp : p < n) (hz : Sz f n) (hv : Vx d o w) (K : ∀ t, o = some t → t.length ≤ 20000000000) : (tx w).size ≤ 20000001000 := by
  obtain ⟨z1, z2, z3⟩ := hz p hp
  rw [tx_size]
  cases hv with
  | @one j k v a' w hv =>
    injection hd with e1 e2 e3
    have l2 : a'.length = (f p).a.size := by rw [e3]; exact Array.length_toList
    have l1 : v.length = (f p).v.size := by rw [e2]; exact Array.length_toList
    rcases vo_kind hv with ⟨rfl, rfl⟩ | ⟨rfl, rfl⟩
    · simp; omega
    · simp; omega
  | @body k a' t =>
    injection hd with e1 e2 e3
    have l2 : a'.length = (f p).a.size := by rw [e3]; exact Array.length_toList
    have := K t rfl
    simp; omega
set_option maxHeartbeats 1600000 in
theorem ptree_is {a : Option Addr} {n c : Nat} {f : Nat → Nd} {b p : Nat} {s : List UInt8} (hz : Sz f n) (h : Pt numB numT (tnF f n) p s) : ∀ W, Hy a n c f b W → Calls Try.prog 15 #[Pv a n c b, .int .i64 (p : Int)] W (StB (tx s) W) := by
  induction h with
  | @mk p e d us ts s hn he hu hl hk hf hs ih =>
    intro W hW
    obtain ⟨hp, hd⟩ := tn_some hn
    have hU := (un_place hn he).trans hu
    obtain ⟨z1, z2, z3⟩ := hz p hp
    have sz : ∀ (j u : Nat) (t : List UInt8), us[j]? = some u → ts[j]? = some t → (tx t).size ≤ 20000000000 := fun j u t h1 h2 => (hk j u t h1 h2).size
    have sz2 : ∀ {t : List UInt8}, (tx t).size ≤ 20000000000 → (tx t).size ≤ 20000001000 := fun h => by omega
    have tm : ∀ (j u : Nat) (t : List UInt8) (m : Tn), us[j]? = some u → ts[j]? = some t → (tnF f n)[u]? = some m → (∀ W, Hy a n c f b W → Calls Try.prog 48 #[Pv a n c b, .int .i64 (u : Int)] W (StB (tx (wrT m t)) W)) ∧ (tx (wrT m t)).size ≤ 20000001000 := fun j u t m h1 h2 h3 => by
      obtain ⟨hq, rfl⟩ := tn_some h3
      have e := wrB_tx (f u) t
      exact ⟨fun W hW => e ▸ pterm_is u (tx t) W hW hq (sz j u t h1 h2) (ih j u t h1 h2), e ▸ wrB_size (sz j u t h1 h2)⟩
    cases hf with
    | @lit ss h0 h1 h =>
      injection hd with e1 e2 e3 e4 e5
      refine tree_gen 24 (tx (joinT ss)) [] p W hW hp (by rw [← e1]; decide) (by rw [← e1]; simp [FL]) hU fun w a' c' hw hpl h3 h4 => ?_
      have ho := hw.nq.on p hp
      have hst := ho.st
      have en : (f p).ns = ss.map fun s => tx (numT s) := by
        refine texts_inj ?_
        rw [← e5, List.map_map]
        rfl
      have em : (f p).m = ss.length := by rw [← ho.nl, en, List.length_map]
      rw [en, em] at hst
      unfold Nd.val
      rw [em]
      exact plit_is _ _ _ _ _ _ ss w _ h0 h1 (fun s hs => (h s hs).is) hst (by rw [← em]; exact ho.mc) ho.cm
    | @name x =>
      injection hd with e1 e2 e3 e4 e5
      refine tree_gen 25 _ [] p W hW hp (by rw [← e1]; decide) (by rw [← e1]; simp [FL]) hU fun w a' c' hw hpl h3 h4 => ?_
      rw [← tx_of e4.symm]
      exact name_is _ _ _ _ _ _ _ w _
    | @monad d q w t hk3 hv =>
      have e1 : (f p).k = 3 := by rw [← hk3, hd]; rfl
      have g := tree_gen (a := a) (n := n) (c := c) (f := f) (b := b) 26 (tx w ++ tx t) [q] p W hW hp (by rw [e1]; decide) (by rw [e1]; simp [FL]) hU fun w' a' c' hw hpl h3 h4 =>
        monad1_is (f p).k (f p).v (f p).a (f p).x (f p).g (f p).m (f p).c q (tx w) (tx t) w' hw a' c' hpl h3 h4 (by omega) (pverb_is hd hp hz hv q (fun t h => by cases h)) (vx_size hd hp hz hv fun t h => by cases h) (ih 0 q t rfl rfl) (sz2 (sz 0 q t rfl rfl))
      rw [tx_cat] at g
      exact g
    | @monadB d u q bb w t hk3 hv =>
      have e1 : (f p).k = 3 := by rw [← hk3, hd]; rfl
      have g := tree_gen (a := a) (n := n) (c := c) (f := f) (b := b) 26 (tx w ++ tx t) [u, q] p W hW hp (by rw [e1]; decide) (by rw [e1]; simp [FL]) hU fun w' a' c' hw hpl h3 h4 =>
        monad2_is (f p).k (f p).v (f p).a (f p).x (f p).g (f p).m (f p).c u q (tx w) (tx t) w' hw a' c' hpl h3 h4 (by omega) (pverb_is hd hp hz hv u (fun t h => by cases h; exact ⟨sz 0 u bb rfl rfl, ih 0 u bb rfl rfl⟩)) (vx_size hd hp hz hv fun t h => by cases h; exact sz 0 u bb rfl rfl) (ih 1 q t rfl rfl) (sz2 (sz 1 q t rfl rfl))
      rw [tx_cat] at g
      exact g
    | @dyad d m l q w tl t hk4 hv hm =>
      have e1 : (f p).k = 4 := by rw [← hk4, hd]; rfl
      obtain ⟨T1, T2⟩ := tm 0 l tl m rfl rfl hm
      have g := tree_gen (a := a) (n := n) (c := c) (f := f) (b := b) 27 (tx (wrT m tl) ++ tx w ++ tx t) [l, q] p W hW hp (by rw [e1]; decide) (by rw [e1]; simp [FL]) hU fun w' a' c' hw hpl h3 h4 =>
        dyad2_is (f p).k (f p).v (f p).a (f p).x (f p).g (f p).m (f p).c l q (tx (wrT m tl)) (tx w) (tx t) w' hw a' c' hpl h3 h4 (by omega) T1 T2 (pverb_is hd hp hz hv l (fun t h => by cases h)) (vx_size hd hp hz hv fun t h => by cases h) (ih 1 q t rfl rfl) (sz2 (sz 1 q t rfl rfl))
      rw [tx_cat, tx_cat, List.append_assoc] at g
      exact g
    | @dyadB d m u l q bb w tl t hk4 hv hm =>
      have e1 : (f p).k = 4 := by rw [← hk4, hd]; rfl
      obtain ⟨T1, T2⟩ := tm 1 l tl m rfl rfl hm
      have g := tree_gen (a := a) (n := n) (c := c) (f := f) (b := b) 27 (tx (wrT m tl) ++ tx w ++ tx t) [u, l, q] p W hW hp (by rw [e1]; decide) (by rw [e1]; simp [FL]) hU fun w' a' c' hw hpl h3 h4 =>
        dyad3_is (f p).k (f p).v (f p).a (f p).x (f p).g (f p).m (f p).c u l q (tx (wrT m tl)) (tx w) (tx t) w' hw a' c' hpl h3 h4 (by omega) T1 T2 (pverb_is hd hp hz hv u (fun t h => by cases h; exact ⟨sz 0 u bb rfl rfl, ih 0 u bb rfl rfl⟩)) (vx_size hd hp hz hv fun t h => by cases h; exact sz 0 u bb rfl rfl) (ih 2 q t rfl rfl) (sz2 (sz 2 q t rfl rfl))
      rw [tx_cat, tx_cat, List.append_assoc] at g
      exact g
    | @assign x t q =>
      injection hd with e1 e2 e3 e4 e5
      have g := tree_gen (a := a) (n := n) (c := c) (f := f) (b := b) 28 ((f p).x ++ (⟨#[58]⟩ : ByteArray) ++ tx t) [q] p W hW hp (by rw [← e1]; decide) (by rw [← e1]; simp [FL]) hU fun w' a' c' hw hpl h3 h4 =>
        assign_is (f p).k (f p).v (f p).a (f p).x (f p).g (f p).m (f p).c q (tx t) w' hw a' c' hpl h3 h4 (by omega) (ih 0 q t rfl rfl) (sz2 (sz 0 q t rfl rfl))
      rw [tx_of e4.symm, show (⟨#[58]⟩ : ByteArray) = tx [58] from rfl, tx_cat, tx_cat, List.append_assoc] at g
      exact g
    | @amend x i t u q =>
      injection hd with e1 e2 e3 e4 e5
      have g := tree_gen (a := a) (n := n) (c := c) (f := f) (b := b) 29 ((f p).x ++ (⟨#[91]⟩ : ByteArray) ++ tx i ++ (⟨#[93, 58]⟩ : ByteArray) ++ tx t) [u, q] p W hW hp (by rw [← e1]; decide) (by rw [← e1]; simp [FL]) hU fun w' a' c' hw hpl h3 h4 =>
        amend_is (f p).k (f p).v (f p).a (f p).x (f p).g (f p).m (f p).c u q (tx i) (tx t) w' hw a' c' hpl h3 h4 (by omega) (ih 0 u i rfl rfl) (sz2 (sz 0 u i rfl rfl)) (ih 1 q t rfl rfl) (sz2 (sz 1 q t rfl rfl))
      rw [tx_of e4.symm, show (⟨#[91]⟩ : ByteArray) = tx [91] from rfl, show (⟨#[93, 58]⟩ : ByteArray) = tx [93, 58] from rfl, tx_cat, tx_cat, tx_cat, tx_cat] at g
      simpa using g
    | @define x t q =>
      injection hd with e1 e2 e3 e4 e5
      have g := tree_gen (a := a) (n := n) (c := c) (f := f) (b := b) 30 ((f p).x ++ (⟨#[58, 123]⟩ : ByteArray) ++ tx t ++ (⟨#[125]⟩ : ByteArray)) [q] p W hW hp (by rw [← e1]; decide) (by rw [← e1]; simp [FL]) hU fun w' a' c' hw hpl h3 h4 =>
        define_is (f p).k (f p).v (f p).a (f p).x (f p).g (f p).m (f p).c q (tx t) w' hw a' c' hpl h3 h4 (by omega) (ih 0 q t rfl rfl) (sz2 (sz 0 q t rfl rfl))
      rw [tx_of e4.symm, show (⟨#[58, 123]⟩ : ByteArray) = tx [58, 123] from rfl, show (⟨#[125]⟩ : ByteArray) = tx [125] from rfl, tx_cat, tx_cat, tx_cat] at g
      simpa using g
    | @index m l q tl t hm =>
      injection hd with e1 e2 e3 e4 e5
      obtain ⟨T1, T2⟩ := tm 0 l tl m rfl rfl hm
      have g := tree_gen (a := a) (n := n) (c := c) (f := f) (b := b) 31 (tx (wrT m tl) ++ (⟨#[91]⟩ : ByteArray) ++ tx t ++ (⟨#[93]⟩ : ByteArray)) [l, q] p W hW hp (by rw [← e1]; decide) (by rw [← e1]; simp [FL]) hU fun w' a' c' hw hpl h3 h4 =>
        index_is (f p).k (f p).v (f p).a (f p).x (f p).g (f p).m (f p).c l q (tx (wrT m tl)) (tx t) w' hw a' c' hpl h3 h4 (by omega) T1 T2 (ih 1 q t rfl rfl) (sz2 (sz 1 q t rfl rfl))
      rw [show (⟨#[91]⟩ : ByteArray) = tx [91] from rfl, show (⟨#[93]⟩ : ByteArray) = tx [93] from rfl, tx_cat, tx_cat, tx_cat] at g
      simpa using g
end Go.Proofs.Ytljkmdmbndjngaa

import Derived.Test.YtpledghphljfkaaDoorMai
import Derived.Test.YtpledghphljfkaaDoorMae
import Derived.Laws.CopyOwn
import Derived.IntWalk
/-
  Where elements are, and others in their place, in the document's words, over arrays as their axes and numbers; what is told may be. Nothing of any program.
-/
namespace Go.Proofs.YtpledghphljfkaaDoor
set_option linter.unusedVariables false
set_option linter.unusedSimpArgs false

/-- The places of n elements, in the order of f. -/
noncomputable def orL (f : Nat → Int) (n : Nat) : List Nat := Classical.epsilon (Ord f n)
theorem orL_is {f : Nat → Int} {n : Nat} {l : List Nat} (h : Ord f n l) : orL f n = l := (Classical.epsilon_spec (p := Ord f n) ⟨l, h⟩).one h
/-- Numbers as they are told. -/
def intL (l : List Nat) : List Int := l.map fun i : Nat => (i : Int)
/-- Numbers as places. -/
def natL (l : List Int) : List Nat := l.map Int.toNat
theorem nat_int (l : List Nat) : natL (intL l) = l := by simp [natL, intL, Function.comp_def]
noncomputable def upK (sg : Int) : Option Ar → Option Ar × Int
  | none => (none, 1)
  | some v => if v.1.length ≠ 1 then (none, 3) else (some ([(v.2.length : Int)], intL (orL (fun i => sg * v.2.getD i 0) v.2.length)), 0)
def whK : Option Ar → Option Ar × Int
  | none => (none, 1)
  | some v => if v.1.length ≠ 1 then (none, 3) else if v.2.all nearM = false then (none, 5) else if ∃ x ∈ v.2, x < 0 then (none, 5) else
    if 4096 < (natL v.2).sum then (none, 8) else (some ([((natL v.2).sum : Int)], intL (whS 0 (natL v.2))), 0)
def unK : Option Ar → Option Ar × Int
  | none => (none, 1)
  | some v => if v.1.length ≠ 1 then (none, 3) else (some ([((unS v.2).length : Int)], unS v.2), 0)
def fdK : Option Ar → Option Ar → Option Ar × Int
  | some v, some w => if v.1.length ≠ 1 then (none, 3) else (some (w.1, w.2.map fun x => (fpS v.2 x : Int)), 0)
  | _, _ => (none, 1)
/-- The error of an array's numbers as places of so many. -/
def plE (w : Ar) (many : Int) : Int := if w.2.all nearM = false then 5 else if ∃ x ∈ w.2, x < 0 ∨ many ≤ x then 6 else 0
def ixK : Option Ar → Option Ar → Option Ar × Int
  | some v, some w => if v.1 = [] then (none, 3) else if plE w (v.1.getD 0 0) ≠ 0 then (none, plE w (v.1.getD 0 0)) else
    if szE (w.1 ++ v.1.tail) ≠ 0 then (none, szE (w.1 ++ v.1.tail)) else (some (w.1 ++ v.1.tail, its v.2 (kI v.1) (natL w.2)), 0)
  | _, _ => (none, 1)
/-- As many elements as there are places: of no axis the only one each time. -/
def wsL (w : Ar) (n : Nat) : List Int := if w.1 = [] then List.replicate n (w.2.getD 0 0) else w.2
def amK : Option Ar → Option Ar → Option Ar → Option Ar × Int
  | some v, some t, some w => if v.1.length ≠ 1 then (none, 3) else if 1 < t.1.length then (none, 3) else if plE t (v.2.length : Int) ≠ 0 then (none, plE t (v.2.length : Int)) else
    if w.1 ≠ [] ∧ t.1 ≠ w.1 then (none, 4) else (some (v.1, amS v.2 (natL t.2) (wsL w t.2.length)), 0)
  | _, _, _ => (none, 1)
theorem plE_ok {w : Ar} {many : Int} (h : plE w many = 0) : w.2.all nearM = true ∧ ∀ x ∈ w.2, 0 ≤ x ∧ x < many := by
  unfold plE at h
  split at h
  · cases h
  · rename_i h1
    split at h
    · cases h
    · rename_i h2
      refine ⟨by simpa using h1, fun x hx => ?_⟩
      by_cases hc : x < 0 ∨ many ≤ x
      · exact absurd ⟨x, hx, hc⟩ h2
      · omega
theorem natL_at {l : List Int} (h : ∀ x ∈ l, 0 ≤ x) {k : Nat} (hk : k < l.length) : ((natL l).getD k 0 : Int) = l.getD k 0 := by
  have hx := h l[k] (List.getElem_mem _)
  simp only [natL, List.getD_eq_getElem?_getD, List.getElem?_map, List.getElem?_eq_getElem hk, Option.map_some, Option.getD_some]
  omega
theorem natL_int {l : List Int} (h : ∀ x ∈ l, 0 ≤ x) : intL (natL l) = l := by
  unfold intL natL
  rw [List.map_map]
  conv => rhs; rw [← List.map_id l]
  exact List.map_congr_left fun x hx => by have := h x hx; simp only [Function.comp, id]; omega
theorem natL_lt {l : List Int} {n : Nat} (h : ∀ x ∈ l, 0 ≤ x ∧ x < (n : Int)) : ∀ i ∈ natL l, i < n := by
  intro i hi
  obtain ⟨x, hx, rfl⟩ := List.mem_map.1 hi
  have := h x hx
  omega
end Go.Proofs.YtpledghphljfkaaDoor
/-
  val.Same, May, Many, and the reference's Few: their contracts at every array.
-/
namespace Go.Proofs.YtpledghphljfkaaDoor
set_option linter.unusedVariables false
set_option linter.unusedSimpArgs false
open Go.RowKit

def BoolEnd (b : Bool) (W : World) (e : Ending) (W' : World) : Prop := e = .returned (.bool b) ∧ Below W.heap.size W W'
def IntEnd (v : Int) (W : World) (e : Ending) (W' : World) : Prop := e = .returned (.int .i64 v) ∧ Below W.heap.size W W'
theorem Bx.two (W : World) (o : Obj) (a : Option Addr) (n c : Nat) (b : Option Addr) (m d : Nat) : Bx ((W.alloc o).alloc (.cells #[.slice a n c, .slice b m d] 25)) (W.heap.size + 1) a n c b m d := by
  have := Bx.new (W.alloc o) a n c b m d
  rwa [show (W.alloc o).heap.size = W.heap.size + 1 by simp] at this

/-! ### Same -/
set_option maxRecDepth 10000 in
theorem VSame_is {a1 b1 a2 b2 : Option Addr} {n1 c1 m1 d1 n2 c2 m2 d2 : Nat} {l k : List Int} {es fs : List ByteArray} (W : World) (h1 : Vl W a1 n1 b1 m1 l es) (h2 : Vl W a2 n2 b2 m2 k fs) (q1 : n1 ≤ 1000000) (q2 : n2 ≤ 1000000) :
    Calls Tryd.prog 14 #[.agg #[.slice a1 n1 c1, .slice b1 m1 d1], .agg #[.slice a2 n2 c2, .slice b2 m2 d2]] W (BoolEnd ((l == k) && decide (es = fs)) W) := by
  have K1 := Lib.hid (fun w (hb : Below W.heap.size W w) => Same_is a1 a2 n1 c1 n2 c2 l k w (h1.s.below hb) (h2.s.below hb) q1 q2)
  have K2 := Lib.hid (fun w (hb : Below W.heap.size W w) => EqualS_is b1 b2 m1 d1 m2 d2 es fs w (h1.t.below hb) (h2.t.below hb) h1.mm h2.mm)
  clear h1 h2 q1 q2
  generalize (l == k) = p at K1 ⊢
  generalize decide (es = fs) = q at K2 ⊢
  go_enter Tryd.func14, Tryd.ntmps14
  go_wp2_with fail
  have hA := (Bx.new W a1 n1 c1 b1 m1 d1).alloc (.cells #[.slice a2 n2 c2, .slice b2 m2 d2] 25)
  have hB := Bx.two W (.cells #[.slice a1 n1 c1, .slice b1 m1 d1] 25) a2 n2 c2 b2 m2 d2
  have hb0 : Below W.heap.size W ((W.alloc (.cells #[.slice a1 n1 c1, .slice b1 m1 d1] 25)).alloc (.cells #[.slice a2 n2 c2, .slice b2 m2 d2] 25)) := ((Below.refl _ _).alloc (Nat.le_refl _) _).alloc (by simp) _
  refine (K1.out _ hb0).mono ?_
  rintro x w1 ⟨rfl, hb1⟩
  have x1 := (hA.below hb1 hA.lt).c1
  have x2 := (hB.below hb1 hB.lt).c1
  have hb2 := hb0.trans (hb1.mono hb0.size)
  clear hA hB hb0 hb1
  rcases Bool.eq_false_or_eq_true p with rfl | rfl
  · go_wp2_with fail
    refine (K2.out _ hb2).mono ?_
    rintro x w3 ⟨rfl, hb3⟩
    go_wp2_with fail
    go_ret
    exact ⟨rfl, hb2.trans (hb3.mono hb2.size)⟩
  · go_wp2_with fail
    go_ret
    exact ⟨rfl, hb2⟩

/-! ### May -/
set_option maxRecDepth 10000 in
set_option maxHeartbeats 800000 in
theorem VMay_is {a b : Option Addr} {n c m d : Nat} {l : List Int} {es : List ByteArray} (W : World) (h : Vl W a n b m l es) (hz : ∀ j, j < m → (es.getD j ByteArray.empty).size ≤ maxLen) :
    Calls Tryd.prog 9 #[.agg #[.slice a n c, .slice b m d]] W (BoolEnd (mayV l es) W) := by
  have K1 := Lib.hid (fun w (hb : Below W.heap.size W w) => Size_is a n c l w (h.s.below hb))
  have r2 := h.mm
  have HT := Lib.hid h.t
  have HZ := Lib.hid hz
  clear h hz
  have hb0 : Below W.heap.size W (W.alloc (.cells #[.slice a n c, .slice b m d] 25)) := (Below.refl _ _).alloc (Nat.le_refl _) _
  by_cases he : szE l = 0
  · by_cases hm : (m : Int) = szV l
    · have hmv : ∀ (h : ∀ j, j < m → mayL (es.getD j ByteArray.empty).data.toList = true), mayV l es = true := fun h => mayV_yes.2 ⟨he, by rw [HT.out.1, hm, szV_pr he], by rw [HT.out.1]; exact h⟩
      have hmn : ∀ j, j < m → mayL (es.getD j ByteArray.empty).data.toList = false → mayV l es = false := fun j hj h => mayV_at (by rw [HT.out.1]; exact hj) h
      have HM := Lib.hid (And.intro hmv hmn)
      clear hmv hmn
      rw [← hm, he] at K1
      clear hm he
      generalize mayV l es = v at HM ⊢
      go_enter Tryd.func9, Tryd.ntmps9
      go_wp2_with fail
      refine (K1.out _ hb0).mono ?_
      rintro x w1 ⟨rfl, rfl⟩
      go_wp2_with fail
      go_loop [25] (fun i => ∃ k : Nat, i = .int .i64 k ∧ k ≤ m ∧ Hid (∀ j, j < k → mayL (es.getD j ByteArray.empty).data.toList = true)) (fun i => m - (intOf i).toNat)
      case atStart => exact ⟨0, rfl, by omega, Lib.hid fun j hj => by omega⟩
      case round =>
        obtain ⟨k, rfl, hk, HI⟩ := hrel
        by_cases hlt : k < m
        · have e2 : (k : Int) < (m : Int) := by omega
          obtain ⟨bb, off, rfl, hc⟩ := HT.out.2 (by omega)
          have hck := (hb0.cell (p := ⟨bb, off + k, none⟩) (World.block_lt_of_cell? W _ (hc k hlt))).trans (hc k hlt)
          have hs := HZ.out k hlt
          clear hc
          obtain ⟨s, hse⟩ : ∃ s, s = es.getD k ByteArray.empty := ⟨_, rfl⟩
          rw [← hse] at hck hs
          have KM := Lib.hid (fun w => may_any s w hs)
          have HE := Lib.hid hse
          clear hse hs
          cases hv : mayL s.data.toList
          · rw [hv] at KM
            obtain rfl : v = false := HM.out.2 k hlt (by rw [← HE.out]; exact hv)
            clear hv
            go_wp2_with fail
            refine (KM.out _).mono ?_
            rintro x w2 ⟨rfl, rfl⟩
            go_wp2_with fail
            go_ret
            exact ⟨rfl, hb0⟩
          · rw [hv] at KM
            have HV := Lib.hid hv
            clear hv
            go_wp2_with fail
            refine (KM.out _).mono ?_
            rintro x w2 ⟨rfl, rfl⟩
            go_wp2_with fail
            go_round
            case rel =>
              refine ⟨k + 1, by go_num, by omega, Lib.hid fun j hj => ?_⟩
              rcases Nat.lt_or_ge j k with h2 | h2
              · exact HI.out j h2
              · rw [show j = k by omega, ← HE.out]; exact HV.out
            case measure => simp [intOf]; omega
        · have e2 : ¬ (k : Int) < (m : Int) := by omega
          obtain rfl : v = true := HM.out.1 fun j hj => HI.out j (by omega)
          go_wp2_with fail
          go_ret
          exact ⟨rfl, hb0⟩
    · have hv := mayV_len (l := l) (es := es) (by rw [HT.out.1]; exact hm)
      rw [hv]
      rw [he] at K1
      clear hv he
      generalize szV l = P at *
      go_enter Tryd.func9, Tryd.ntmps9
      go_wp2_with fail
      refine (K1.out _ hb0).mono ?_
      rintro x w1 ⟨rfl, rfl⟩
      go_wp2_with fail
      go_ret
      exact ⟨rfl, hb0⟩
  · have hv := mayV_e (es := es) he
    rw [hv]
    rw [szV_zero he] at K1
    clear hv
    generalize szE l = E at *
    have hE : (E != 0) = true := by simpa using he
    go_enter Tryd.func9, Tryd.ntmps9
    go_wp2_with fail
    refine (K1.out _ hb0).mono ?_
    rintro x w1 ⟨rfl, rfl⟩
    go_wp2_with fail
    all_goals
      go_ret
      exact ⟨rfl, hb0⟩

/-! ### Many -/
end Go.Proofs.YtpledghphljfkaaDoor
/-
  val.Item: its contract at every array. Rows of strings of the call's own, and copies into them.
-/
namespace Go.Proofs.YtpledghphljfkaaDoor
set_option linter.unusedVariables false
set_option linter.unusedSimpArgs false
open Go.RowKit

theorem infoInt1 : (Tryd.prog.info? 3).map (fun i => (i.zero, i.size, i.bytes)) = some (some (.int .i64 0), 1, 8) := by kernel_rfl
theorem infoStr : (Tryd.prog.info? 9).map (fun i => (i.zero, i.size, i.bytes)) = some (some (.string ⟨#[]⟩), 1, 16) := by kernel_rfl
theorem infoStr1 : (Tryd.prog.info? 9).map (·.size) = some 1 := by kernel_rfl
/-- A whole row of strings of the call's own. -/
def Sr (w : World) (g n : Nat) (F : Nat → ByteArray) : Prop := w.rowIs g 9 n (fun j => Value.string (F j))
theorem Sr.made (w : World) (n : Nat) : Sr (w.alloc (.cells (madeCells #[.string ⟨#[]⟩] n) 9)) w.heap.size n (fun _ => ⟨#[]⟩) := World.rowIs_made w _ n _
theorem Sr.cell {w : World} {g n : Nat} {F : Nat → ByteArray} (h : Sr w g n F) {i : Nat} (hi : i < n) : w.cell? ⟨g, i, none⟩ = some (.string (F i)) := by
  obtain ⟨c, hg, _, hc⟩ := h
  rw [cell_of_row w g i c _ _ hg, hc i hi]
theorem Sr.lt {w : World} {g n : Nat} {F : Nat → ByteArray} (h : Sr w g n F) : g < w.heap.size := by
  obtain ⟨c, hg, _, hc⟩ := h
  exact (Array.getElem?_eq_some_iff.1 hg).1
theorem Sr.block {w w' : World} {g n : Nat} {F : Nat → ByteArray} (h : Sr w g n F) (e : w'.heap[g]? = w.heap[g]?) : Sr w' g n F := by
  obtain ⟨c, hg, h1, hc⟩ := h
  exact ⟨c, e.trans hg, h1, hc⟩
theorem Sr.below {w w' : World} {g n : Nat} {F : Nat → ByteArray} (h : Sr w g n F) (hb : Below w.heap.size w w') : Sr w' g n F := h.block (hb.block g h.lt)
theorem Sr.st {w : World} {g n : Nat} {F : Nat → ByteArray} (h : Sr w g n F) {l : List ByteArray} (hl : l.length = n) (he : ∀ j, j < n → F j = l.getD j ByteArray.empty) : St w (some ⟨g, 0, none⟩) n l :=
  ⟨hl, fun _ => ⟨g, 0, rfl, fun j hj => by rw [Nat.zero_add, h.cell hj, he j hj]⟩⟩
theorem grown_below {B g : Nat} {w w' : World} (h : w.grownBy w' (some g)) (hg : B ≤ g) (hB : B ≤ w.heap.size) : Below B w w' :=
  ⟨h.os, h.tape, h.output, h.size, fun k hk => h.block k (by omega) (by intro e; injection e with e; omega)⟩
theorem run_mks (n : Nat) (hn : n ≤ 1000000) (w : World) :
    (Instr.makeSlice 23 (.int .i64 (n : Int)) (.int .i64 (n : Int))).run Tryd.prog w = .ok (.slice (some ⟨w.heap.size, 0, none⟩) n n) (w.alloc (.cells (madeCells #[.string ⟨#[]⟩] n) 9)) :=
  run_make_row' 23 9 _ 16 Tryd.underlying23 infoStr rfl _ _ n (by omega) (by omega) w
/-- copy(d, s), d a whole row of strings of the call's own, s as long, or longer. -/
theorem wpList_copy_st {w : World} {ops : Array Oper} {rest : List Oper} {o : Oper} {a : Act} {Q : Exit → Act → World → Prop} (hgd : o.guard = none) (d s : Operand)
    (ho : o.op = .call { callee := .builtin .copy, args := #[d, s], argTypes := #[23, 23] }) (g n : Nat) (F : Nat → ByteArray) (A : Option Addr) (xs : List ByteArray) (sl sc : Nat)
    (hd : a.eval d = .slice (some ⟨g, 0, none⟩) n n) (hs : a.eval s = .slice A sl sc) (hR : Sr w g n F) (hx : xs.length = n) (hle : n ≤ sl)
    (hsrc : 0 < n → ∃ b off, A = some ⟨b, off, none⟩ ∧ ∀ j, j < n → w.cell? ⟨b, off + j, none⟩ = some (.string (xs.getD j ByteArray.empty)))
    (h : ∀ w', St w' (some ⟨g, 0, none⟩) n xs → w.grownBy w' (some g) → wpList Tryd.prog ops Q rest (a.put o.dst (goInt n)) w') : wpList Tryd.prog ops Q (o :: rest) a w := by
  by_cases h0 : n = 0
  · subst h0
    obtain rfl := List.length_eq_zero_iff.1 hx
    refine wpList_copy_nothing hgd d s _ _ ho 9 Tryd.underlying23 infoStr1 _ _ _ _ _ _ hd hs (by simp) ?_
    exact h w (St.nil _ _) (World.grownBy.refl w _)
  · obtain ⟨b, o', rfl, hcell⟩ := hsrc (by omega)
    obtain ⟨cur, hg, hsz, hc⟩ := hR
    have hlen : (xs.map Value.string).length = n := by simp [hx]
    refine wpList_copy_own hgd d s _ _ ho 9 Tryd.underlying23 infoStr1 g 0 n n ⟨b, o', none⟩ sl sc hd hs cur 9 hg (xs.map Value.string) (by rw [hlen]; exact (Nat.min_eq_right hle).symm) ?_ (by rw [hlen]; omega) (by simp [Value.oneCell']) ?_
    · intro j v hj
      simp only [List.getElem?_map, Option.map_eq_some_iff] at hj
      obtain ⟨p, hp, rfl⟩ := hj
      obtain ⟨hjl, rfl⟩ := List.getElem?_eq_some_iff.1 hp
      rw [show (⟨b, o', none⟩ : Addr).add j = ⟨b, o' + j, none⟩ by unfold Addr.add; split <;> simp_all, hcell j (by omega)]
      simp [List.getD_eq_getElem?_getD, List.getElem?_eq_getElem hjl]
    · rw [hlen]
      refine h _ ⟨hx, fun _ => ⟨g, 0, rfl, fun j hj => ?_⟩⟩ ⟨rfl, rfl, rfl, by simp [World.setRow], fun k _ hk => setRow_other w g k _ (by intro e; exact hk (by rw [e]))⟩
      show World.cell? _ ⟨g, 0 + j, none⟩ = _
      rw [show 0 + j = j from Nat.zero_add j, cell_of_row _ g j _ _ _ (setRow_heap w g _ _ _ _ hg)]
      simp [List.getElem?_append_left, hx, hj, List.getD_eq_getElem?_getD, List.getElem?_eq_getElem (show j < xs.length by omega)]

/-! ### Item -/
theorem cut_src {W w : World} {b : Option Addr} {m o e k : Nat} {es : List ByteArray} (hT : St W b m es) (hb : Below W.heap.size W w) (ho : o = k * e) (hoe : o + e ≤ m) :
    0 < e → ∃ b' off', Option.map (fun x : Addr => x.add o) b = some ⟨b', off', none⟩ ∧ ∀ j, j < e → w.cell? ⟨b', off' + j, none⟩ = some (.string ((part es e k).getD j ByteArray.empty)) := by
  intro he
  obtain ⟨bb, off, rfl, hc⟩ := (hT.below hb).2 (by omega)
  refine ⟨bb, off + o, ?_, fun j hj => ?_⟩
  · show some ((⟨bb, off, none⟩ : Addr).add o) = _
    rw [Lib.add_plain]
  · rw [part_get hj, Nat.add_assoc, hc (o + j) (by omega), ho]
theorem item_sum {q e k m : Nat} (hk : k < q) (he : m = q * e) : (k + 1) * e ≤ m ∧ k * e + e ≤ m ∧ e ≤ m := by
  have h : (k + 1) * e ≤ m := by rw [he]; exact Nat.mul_le_mul_right _ hk
  have h2 : (k + 1) * e = k * e + e := by rw [Nat.add_mul, Nat.one_mul]
  exact ⟨h, by omega, by omega⟩
theorem item_div {q e m : Nat} (hq : 0 < q) (he : m = q * e) : (m : Int) / (q : Int) = (e : Int) := by
  have h : ((q * e : Nat) : Int) = (q : Int) * (e : Int) := Int.natCast_mul q e
  rw [he, h]
  exact Int.mul_ediv_cancel_left _ (by omega)
theorem item_wrap {k e o : Nat} (ho : o = k * e) (h : o ≤ 1000000) : IntKind.i64.wrap ((k : Int) * (e : Int)) = (o : Int) := by
  have h2 : ((k * e : Nat) : Int) = (k : Int) * (e : Int) := Int.natCast_mul k e
  rw [← h2, ← ho]
  exact IntWalk.i64_in _ (by omega)
def VEnd (l : List Int) (es : List ByteArray) (W : World) (e : Ending) (W' : World) : Prop :=
  ∃ a n c b m d, e = .returned (.tuple #[.agg #[.slice a n c, .slice b m d], .bool true]) ∧ Vl W' a n b m l es ∧ n ≤ 20 ∧ Below W.heap.size W W'
def NoEnd (W : World) (e : Ending) (W' : World) : Prop :=
  e = .returned (.tuple #[.agg #[.slice none 0 0, .slice none 0 0], .bool false]) ∧ Below W.heap.size W W'
end Go.Proofs.YtpledghphljfkaaDoor
/-
  The reference's Few; val.near, Int, Scalar, Width: their contracts.
-/
namespace Go.Proofs.YtpledghphljfkaaDoor
set_option linter.unusedVariables false
set_option linter.unusedSimpArgs false
open Go.RowKit

/-! ### Few -/
set_option maxRecDepth 10000 in
set_option maxHeartbeats 800000 in
theorem Few_is {a b : Option Addr} {n c m d : Nat} {l : List Int} {es : List ByteArray} (W : World) (h : Vl W a n b m l es) (hz : ∀ j, j < m → (es.getD j ByteArray.empty).size ≤ maxLen) :
    Calls Tryd.prog 8 #[.agg #[.slice a n c, .slice b m d]] W (BoolEnd (fewB l es) W) := by
  have r1 := h.mm
  have hl := h.s.1
  have HT := Lib.hid h.t
  have hno : ∀ j, j < m → j < 301 → 120 < (es.getD j ByteArray.empty).size → fewB l es = false := fun j hj h3 h4 => fewB_at (by rw [h.t.1]; exact hj) h3 h4
  have hyes : (∀ j, j < m → j < 301 → (es.getD j ByteArray.empty).size ≤ 120) → fewB l es = (decide (m ≤ 300) && decide (n ≤ 20)) := fun hh => by rw [fewB_all (by rw [h.t.1]; exact hh), h.t.1, hl]
  have HN := Lib.hid hno
  have HY := Lib.hid hyes
  have HZ := Lib.hid hz
  clear h hno hyes hl hz
  have hb0 : Below W.heap.size W (W.alloc (.cells #[.slice a n c, .slice b m d] 25)) := (Below.refl _ _).alloc (Nat.le_refl _) _
  generalize fewB l es = v at HN HY ⊢
  go_enter Tryd.func8, Tryd.ntmps8
  go_wp2_with fail
  go_loop [3] (fun i => ∃ k : Nat, i = .int .i64 k ∧ k ≤ m ∧ k ≤ 301 ∧ Hid (∀ j, j < k → (es.getD j ByteArray.empty).size ≤ 120)) (fun i => m - (intOf i).toNat)
  case atStart => exact ⟨0, rfl, by omega, by omega, Lib.hid fun j hj => by omega⟩
  case round =>
    obtain ⟨k, rfl, hk, hk3, HI⟩ := hrel
    by_cases hlt : k < m
    · by_cases h3 : k < 301
      · have e2 : (k : Int) < (m : Int) := by omega
        have e3 : (k : Int) < 301 := by omega
        obtain ⟨bb, off, rfl, hc⟩ := HT.out.2 (by omega)
        have hck := (hb0.cell (p := ⟨bb, off + k, none⟩) (World.block_lt_of_cell? W _ (hc k hlt))).trans (hc k hlt)
        clear hc
        obtain ⟨s, hse⟩ : ∃ s, s = es.getD k ByteArray.empty := ⟨_, rfl⟩
        have hsz : s.size ≤ 9223372036854775807 := by have := HZ.out k hlt; rw [← hse] at this; unfold maxLen at this; omega
        rw [← hse] at hck
        by_cases hs : 120 < s.size
        · obtain rfl : v = false := HN.out k hlt h3 (by rw [← hse]; exact hs)
          clear hse
          have e4 : (120 : Int) < (s.size : Int) := by omega
          go_wp2_with fail
          go_ret
          exact ⟨rfl, hb0⟩
        · have HE := Lib.hid hse
          clear hse
          have e4 : ¬ (120 : Int) < (s.size : Int) := by omega
          have HS : Hid (s.size ≤ 120) := Lib.hid (by omega)
          go_wp2_with fail
          go_round
          case rel =>
            refine ⟨k + 1, by go_num, by omega, by omega, Lib.hid fun j hj => ?_⟩
            rcases Nat.lt_or_ge j k with h2 | h2
            · exact HI.out j h2
            · rw [show j = k by omega, ← HE.out]; exact HS.out
          case measure => simp [intOf]; omega
      · obtain rfl : k = 301 := by omega
        obtain rfl : v = false := (HY.out fun j _ h4 => HI.out j h4).trans (by rw [decide_eq_false (by omega)]; rfl)
        have e2 : (301 : Int) < (m : Int) := by omega
        have e5 : ¬ (m : Int) ≤ 300 := by omega
        go_wp2_with fail
        go_ret
        exact ⟨rfl, hb0⟩
    · have e2 : ¬ (k : Int) < (m : Int) := by omega
      have hv := HY.out fun j hj _ => HI.out j (by omega)
      by_cases c1 : m ≤ 300
      · by_cases c2 : n ≤ 20
        · obtain rfl : v = true := hv.trans (by rw [decide_eq_true c1, decide_eq_true c2]; rfl)
          have e5 : (m : Int) ≤ 300 := by omega
          have e6 : (n : Int) ≤ 20 := by omega
          clear hv
          go_wp2_with fail
          go_ret
          exact ⟨rfl, hb0⟩
        · obtain rfl : v = false := hv.trans (by rw [decide_eq_false c2]; simp)
          have e5 : (m : Int) ≤ 300 := by omega
          have e6 : ¬ (n : Int) ≤ 20 := by omega
          clear hv
          go_wp2_with fail
          go_ret
          exact ⟨rfl, hb0⟩
      · obtain rfl : v = false := hv.trans (by rw [decide_eq_false c1]; rfl)
        have e5 : ¬ (m : Int) ≤ 300 := by omega
        clear hv
        go_wp2_with fail
        go_ret
        exact ⟨rfl, hb0⟩

/-! ### near, Int, Scalar -/
/-- Not too far from 0. -/
def fine (x : Int) : Bool := decide (-1099511627776 ≤ x) && decide (x ≤ 1099511627776)
def NearEnd (x e : Int) (W : World) (x' : Ending) (W' : World) : Prop := x' = .returned (.tuple #[.int .i64 x, .int .i64 e]) ∧ Below W.heap.size W W'
theorem fine_yes {x : Int} : fine x = true ↔ -1099511627776 ≤ x ∧ x ≤ 1099511627776 := by simp [fine]
theorem fine_no {x : Int} : fine x = false ↔ x < -1099511627776 ∨ 1099511627776 < x := by
  rw [← Bool.not_eq_true, fine_yes]; omega
set_option maxRecDepth 10000 in
theorem near_yes (s : ByteArray) (x : Int) (W : World) (hi : IntW s x true W) (hf : fine x = true) : Calls Tryd.prog 34 #[.string s] W (NearEnd x 0 W) := by
  obtain ⟨h0, h1⟩ := fine_yes.1 hf
  unfold IntW at hi
  have K := Lib.hid hi
  clear hi hf
  go_enter Tryd.func34, Tryd.ntmps34
  go_wp2_with fail
  refine K.out.mono ?_
  rintro x w1 ⟨rfl, hb⟩
  go_wp2_with fail
  go_ret2
  exact ⟨rfl, hb⟩
set_option maxRecDepth 10000 in
theorem near_no (s : ByteArray) (x : Int) (v : Bool) (W : World) (hi : IntW s x v W) (hf : v = false ∨ fine x = false) : Calls Tryd.prog 34 #[.string s] W (NearEnd 0 5 W) := by
  unfold IntW at hi
  have K := Lib.hid hi
  clear hi
  rcases Bool.eq_false_or_eq_true v with rfl | rfl
  · have hf : fine x = false := by rcases hf with h | h; cases h; exact h
    have hc := fine_no.1 hf
    clear hf
    by_cases c1 : x < -1099511627776
    · clear hc
      go_enter Tryd.func34, Tryd.ntmps34
      go_wp2_with fail
      refine K.out.mono ?_
      rintro x w1 ⟨rfl, hb⟩
      go_wp2_with fail
      go_ret2
      exact ⟨rfl, hb⟩
    · have c2 : 1099511627776 < x := by omega
      clear hc
      go_enter Tryd.func34, Tryd.ntmps34
      go_wp2_with fail
      refine K.out.mono ?_
      rintro x w1 ⟨rfl, hb⟩
      go_wp2_with fail
      go_ret2
      exact ⟨rfl, hb⟩
  · clear hf
    go_enter Tryd.func34, Tryd.ntmps34
    go_wp2_with fail
    refine K.out.mono ?_
    rintro x w1 ⟨rfl, hb⟩
    go_wp2_with fail
    go_ret2
    exact ⟨rfl, hb⟩
def ScEnd (s : ByteArray) (W : World) (e : Ending) (W' : World) : Prop :=
  ∃ g, e = .returned (.agg #[.slice none 0 0, .slice (some ⟨g, 0, none⟩) 1 1]) ∧ W'.cell? ⟨g, 0, none⟩ = some (.string s) ∧ Below W.heap.size W W'
theorem St.one {W : World} {g : Nat} {s : ByteArray} (h : W.cell? ⟨g, 0, none⟩ = some (.string s)) : St W (some ⟨g, 0, none⟩) 1 [s] := by
  refine ⟨rfl, fun _ => ⟨g, 0, rfl, fun j hj => ?_⟩⟩
  obtain rfl : j = 0 := by omega
  exact h
theorem Vl.one {W : World} {g : Nat} {s : ByteArray} (h : W.cell? ⟨g, 0, none⟩ = some (.string s)) : Vl W none 0 (some ⟨g, 0, none⟩) 1 [] [s] := ⟨Sl.nil _ _, St.one h, by omega⟩
/-- The greatest one of the first k. -/
def wmax (f : Nat → Int) : Nat → Int
  | 0 => 8
  | k + 1 => max (wmax f k) (f k)
theorem wmax_ge (f : Nat → Int) : ∀ (m k : Nat), k < m → f k ≤ wmax f m
  | m + 1, k, h => by
    show f k ≤ max (wmax f m) (f m)
    rcases Nat.lt_or_ge k m with h1 | h1
    · have := wmax_ge f m k h1; omega
    · rw [show k = m by omega]; omega
theorem wmax_lo (f : Nat → Int) : ∀ m, 8 ≤ wmax f m
  | 0 => Int.le_refl _
  | m + 1 => by
    show 8 ≤ max (wmax f m) (f m)
    have := wmax_lo f m; omega
theorem wmax_is (f : Nat → Int) : ∀ m, wmax f m = 8 ∨ ∃ k, k < m ∧ wmax f m = f k
  | 0 => .inl rfl
  | m + 1 => by
    show max (wmax f m) (f m) = 8 ∨ ∃ k, k < m + 1 ∧ max (wmax f m) (f m) = f k
    rcases Int.le_total (wmax f m) (f m) with h | h
    · exact .inr ⟨m, by omega, Int.max_eq_right h⟩
    · rw [Int.max_eq_left h]
      rcases wmax_is f m with h1 | ⟨k, h1, h2⟩
      · exact .inl h1
      · exact .inr ⟨k, by omega, h2⟩
end Go.Proofs.YtpledghphljfkaaDoor
/-
  The reference's Same of an array and itself; the document's example at the head of all statements.
-/
namespace Go.Proofs.YtpledghphljfkaaDoor
set_option linter.unusedVariables false
set_option linter.unusedSimpArgs false
open Go.RowKit

theorem St.row {w : World} {g : Nat} {l : List ByteArray} {t : TypeId} {fr : Nat × Nat} (h : w.heap[g]? = some (.cells (l.map Value.string).toArray t fr)) : St w (some ⟨g, 0, none⟩) l.length l := by
  refine ⟨rfl, fun _ => ⟨g, 0, rfl, fun j hj => ?_⟩⟩
  rw [Nat.zero_add, cell_of_row w g j _ _ _ h]
  simp [List.getD_eq_getElem?_getD, List.getElem?_eq_getElem hj]
theorem Sl.row {w : World} {g : Nat} {l : List Int} {t : TypeId} {fr : Nat × Nat} (h : w.heap[g]? = some (.cells (l.map (Value.int .i64)).toArray t fr)) : Sl w (some ⟨g, 0, none⟩) l.length l := by
  refine ⟨rfl, fun _ => ⟨g, 0, rfl, fun j hj => ?_⟩⟩
  rw [Nat.zero_add, cell_of_row w g j _ _ _ h]
  simp [List.getD_eq_getElem?_getD, List.getElem?_eq_getElem hj]
theorem Bx.drewN {W : World} {a b : Option Addr} {g n c m d : Nat} (h : Bx W g a n c b m d) (q : Nat) : Bx (W.drewN q) g a n c b m d := h
theorem below_drewN {B : Nat} {a w : World} (h : Below B a w) (n : Nat) : Below B a (w.drewN n) := ⟨h.os, h.tape, h.output, h.size, h.block⟩

/-! ### The reference's Same -/
end Go.Proofs.YtpledghphljfkaaDoor

import Derived.Test.YtpledghphljfkaaDoorMam
import Derived.Test.YtpledghphljfkaaDoorMaj
import Derived.Test.YtpledghphljfkaaDoorMag
/-
  val.All of any numbers; mould's Reshape, by its contract.
-/
namespace Go.Proofs.YtpledghphljfkaaDoor
set_option linter.unusedVariables false
set_option linter.unusedSimpArgs false
open Go.RowKit

/-! ### All -/
def AlO (xs : List Int) (W : World) (e : Ending) (W' : World) : Prop :=
  ∃ a n c z, e = .returned (.tuple #[.slice a n c, .int .i64 z]) ∧ ((xs.all nearM = true ∧ z = 0 ∧ n = xs.length ∧ Sl W' a n xs ∧ n ≤ c ∧ c ≤ maxLen) ∨ (xs.all nearM = false ∧ z = 5)) ∧ Below W.heap.size W W'
theorem near_all {l : List Int} : l.all nearM = true ↔ ∀ j, j < l.length → nearM (l.getD j 0) = true := fine_all
theorem near_some {l : List Int} {j : Nat} (hj : j < l.length) (h : nearM (l.getD j 0) = false) : l.all nearM = false := fine_some hj h
set_option maxRecDepth 10000 in
set_option maxHeartbeats 1600000 in
theorem All_av {a b : Option Addr} {k c n d : Nat} {s l : List Int} (W : World) (h : Vl W a k b n s (l.map S)) (hl : ∀ x ∈ l, x.natAbs < lim) (hn : n ≤ 1000000) (hW : WT W) :
    Calls Tryd.prog 16 #[.agg #[.slice a k c, .slice b n d]] W (AlO l W) := by
  have hll : l.length = n := by have := h.t.1; rwa [List.length_map] at this
  have HL := Lib.hid hll
  have HT := Lib.hid h.t
  have HI := Lib.hid (fun j (hj : j < n) => hl (l.getD j 0) (by
    rw [List.getD_eq_getElem?_getD, List.getElem?_eq_getElem (by omega)]
    exact List.getElem_mem _))
  have HW := Lib.hid hW
  have hmk := run_mki n hn
  clear h hl hll hW
  go_enter Tryd.func16, Tryd.ntmps16
  have hA := (Bx.new W a k c b n d).alloc (.cells (madeCells #[.int .i64 0] n) 3)
  have x1 := hA.c1
  go_wp2_with fail
  have hR := Ir.made (W.alloc (.cells #[.slice a k c, .slice b n d] 25)) n
  rw [show (W.alloc (.cells #[.slice a k c, .slice b n d] 25)).heap.size = W.heap.size + 1 by simp] at hR
  have hb0 : Below W.heap.size W ((W.alloc (.cells #[.slice a k c, .slice b n d] 25)).alloc (.cells (madeCells #[.int .i64 0] n) 3)) := ((Below.refl _ _).alloc (Nat.le_refl _) _).alloc (by simp) _
  clear hmk x1
  go_loopw [16] (fun i wr => ∃ (q : Nat) (F : Nat → Int), i = .int .i64 q ∧ q ≤ n ∧ Ir wr (W.heap.size + 1) n F ∧ Hid (∀ j, j < q → F j = l.getD j 0 ∧ nearM (l.getD j 0) = true) ∧ Below W.heap.size W wr) (fun i _ => n - (intOf i).toNat)
  case atStart => exact ⟨0, _, rfl, by omega, hR, Lib.hid (fun j hj => by omega), hb0⟩
  case round =>
    obtain ⟨q, F, rfl, hq, hR1, HF, hb1⟩ := hrel
    clear hA hR hb0
    by_cases hlt : q < n
    · have e2 : (q : Int) < (n : Int) := by omega
      obtain ⟨bb, off, rfl, hc⟩ := HT.out.2 (by omega)
      have hck := (hb1.cell (p := ⟨bb, off + q, none⟩) (World.block_lt_of_cell? W _ (hc q hlt))).trans (hc q hlt)
      rw [map_getD l (by rw [HL.out]; exact hlt)] at hck
      obtain ⟨x, hx⟩ : ∃ x, x = l.getD q 0 := ⟨_, rfl⟩
      rw [← hx] at hck
      have KN := Lib.hid (near_S (x := x) (by rw [hx]; exact HI.out q hlt) wr (HW.out.below hb1))
      have HX := Lib.hid hx
      clear hc hx
      generalize hs : S x = t at hck KN
      clear hs
      rcases Bool.eq_false_or_eq_true (nearM x) with hf | hf
      · have HFX := Lib.hid hf
        rw [hf] at KN
        simp only [if_true] at KN
        clear hf
        go_wp2_with fail
        refine KN.out.mono ?_
        rintro e w2 ⟨rfl, hb⟩
        have hR2 := hR1.below hb
        have hb2 := hb1.trans (hb.mono hb1.size)
        have y0 := hR2.cell (i := q) hlt
        have f0 := hR2.frozen q
        clear hR1 hb1 hb hck
        have hR3 := hR2.set q x
        have hb3 := hb2.setCell (p := ⟨W.heap.size + 1, q, none⟩) (show W.heap.size ≤ W.heap.size + 1 by omega) (.int .i64 x)
        have HF2 : Hid (∀ j, j < q + 1 → (fun j => if j = q then x else F j) j = l.getD j 0 ∧ nearM (l.getD j 0) = true) := Lib.hid fun j hj => by
          show (if j = q then x else F j) = _ ∧ _
          by_cases hjk : j = q
          · rw [if_pos hjk, hjk, ← HX.out]; exact ⟨rfl, HFX.out⟩
          · rw [if_neg hjk]; exact HF.out j (by omega)
        go_wp2_with fail
        go_roundw
        case rel => exact ⟨q + 1, _, by go_num, by omega, hR3, HF2, hb3⟩
        case measure => simp [intOf]; omega
      · have HN := Lib.hid (near_some (l := l) (j := q) (by rw [HL.out]; exact hlt) (by rw [← HX.out]; exact hf))
        rw [hf] at KN
        simp only [Bool.false_eq_true, if_false] at KN
        clear hf
        go_wp2_with fail
        refine KN.out.mono ?_
        rintro e w2 ⟨rfl, hb⟩
        have hb2 := hb1.trans (hb.mono hb1.size)
        go_wp2_with fail
        go_ret2
        exact ⟨none, 0, 0, 5, rfl, .inr ⟨HN.out, rfl⟩, hb2⟩
    · have e2 : ¬ (q : Int) < (n : Int) := by omega
      obtain rfl : q = n := by omega
      have hS : Sl wr (some ⟨W.heap.size + 1, 0, none⟩) q l := hR1.sl HL.out (fun j hj => (HF.out j hj).1)
      have HSS := Lib.hid hS
      have HAll := Lib.hid (near_all.2 fun j hj => (HF.out j (by rw [HL.out] at hj; exact hj)).2)
      have hm : q ≤ maxLen := by unfold maxLen; omega
      clear hS hR1
      go_wp2_with fail
      go_ret2
      exact ⟨_, _, _, 0, rfl, .inl ⟨HAll.out, rfl, HL.out.symm, HSS.out, Nat.le_refl _, hm⟩, hb1⟩

/-! ### Reshape -/
def lenV : Value → Nat
  | .slice _ n _ => n
  | _ => 0
theorem cy_len (es : List Int) (n : Nat) : (cyM es n).length = n := by simp [cyM]
theorem cy_step {es : List Int} {k t : Nat} (h : es.length ∣ k) (ht : t ≤ es.length) : cyM es (k + t) = cyM es k ++ es.take t := by
  unfold cyM
  rw [List.range_add, List.map_append, List.map_map]
  congr 1
  apply List.ext_getElem
  · simp; omega
  · intro i g1 g2
    have hi : i < t := by simpa using g1
    obtain ⟨r, rfl⟩ := h
    simp [Nat.mul_add_mod, Nat.mod_eq_of_lt (show i < es.length by omega), List.getD_eq_getElem?_getD, List.getElem?_eq_getElem (show i < es.length by omega)]
theorem rs_rok {q r : Ar} (h : szE q.2 = 0) (hr : Rok (some r)) (h0 : ¬ (pr q.2 ≠ 0 ∧ r.2 = [])) : Rok (some (q.2, cyM r.2 (pr q.2).toNat)) := by
  have hp := (may_pr h).1
  refine ⟨h, by show ((cyM r.2 (pr q.2).toNat).length : Int) = pr q.2; rw [cy_len]; omega, fun x hx => ?_⟩
  obtain ⟨j, hj, rfl⟩ := List.mem_map.1 hx
  have hj := List.mem_range.1 hj
  have hne : r.2 ≠ [] := fun e => h0 ⟨by omega, e⟩
  have hl : j % r.2.length < r.2.length := Nat.mod_lt _ (List.length_pos_iff.2 hne)
  rw [List.getD_eq_getElem?_getD, List.getElem?_eq_getElem hl]
  exact hr.2.2 _ (List.getElem_mem _)
theorem live_al {P : World → Prop} {w : World} {f : FuncId} {args : Array Value} {xs : List Int} (h : Lv P w) (hc : Calls Tryd.prog f args w (AlO xs w))
    (hs : Stb P := by repeat' (first | exact Stb.bel _ | exact Stb.bx | exact Stb.vl | refine Stb.and ?_ ?_ | exact Stb.triv)) :
    Calls Tryd.prog f args w fun e w' => ∃ a n c z, e = .returned (.tuple #[.slice a n c, .int .i64 z]) ∧ ((xs.all nearM = true ∧ z = 0 ∧ n = xs.length ∧ Sl w' a n xs ∧ n ≤ c ∧ c ≤ maxLen) ∨ (xs.all nearM = false ∧ z = 5)) ∧ Lv P w' :=
  hc.mono fun _ _ ⟨a, n, c, z, h1, h2, h3⟩ => ⟨a, n, c, z, h1, h2, ⟨hs _ _ h.out h3⟩⟩
end Go.Proofs.YtpledghphljfkaaDoor
/-
  There is an order of places; what seek's calls tell is an array that may be.
-/
namespace Go.Proofs.YtpledghphljfkaaDoor
set_option linter.unusedVariables false
set_option linter.unusedSimpArgs false
open Go.RowKit

theorem orr_ex (f : Nat → Int) : ∀ (k p q : Nat), q - p ≤ k → ∃ l, Orr f p q l
  | 0, _, _, h => ⟨[], Orr.none (by omega)⟩
  | k + 1, p, q, h => by
    by_cases hq : q ≤ p
    · exact ⟨[], Orr.none hq⟩
    · obtain ⟨l, hl⟩ := orr_ex f k (p + 1) q (by omega)
      exact ⟨_, Orr.merged (by omega) (by omega) (Orr.one (p := p)) hl⟩
theorem or_ord (f : Nat → Int) (n : Nat) : Ord f n (orL f n) := by
  obtain ⟨l, hl⟩ := orr_ex f n 0 n (by omega)
  rw [orL_is hl.ord]; exact hl.ord
theorem intL_len (l : List Nat) : (intL l).length = l.length := by simp [intL]
theorem intL_rok {t : Nat} {L : List Nat} (hl : L.length = t) (ht : t ≤ 4096) (hb : ∀ i ∈ L, i ≤ 1099511627776) : Rok (some ([(t : Int)], intL L)) :=
  vec_rok ht (by rw [intL_len, hl]) fun x hx => by
    obtain ⟨i, hi, rfl⟩ := List.mem_map.1 hx
    have := hb i hi
    exact small_rok (by omega)
theorem or_rok (f : Nat → Int) {n : Nat} (hn : n ≤ 4096) : Rok (some ([(n : Int)], intL (orL f n))) :=
  intL_rok (or_ord f n).len hn fun i hi => by have := ((or_ord f n).all i).1 hi; omega
theorem wh_rok {l : List Nat} (h : l.sum ≤ 4096) (hl : l.length ≤ 4096) : Rok (some ([(l.sum : Int)], intL (whS 0 l))) :=
  intL_rok (wh_len 0 l) h fun i hi => by have := (wh_mem hi).2; omega
theorem un_rok {q : Ar} (h : Rok (some q)) (hl : q.2.length ≤ 4096) : Rok (some ([((unS q.2).length : Int)], unS q.2)) :=
  vec_rok (Nat.le_trans (un_len q.2) hl) rfl fun x hx => h.2.2 x (un_mem.1 hx)
theorem fd_rok {q r : Ar} (h : Rok (some r)) (hl : q.2.length ≤ 4096) : Rok (some (r.1, r.2.map fun x => (fpS q.2 x : Int))) :=
  ⟨h.1, by show ((r.2.map fun x => (fpS q.2 x : Int)).length : Int) = _; rw [List.length_map]; exact h.2.1, fun x hx => by
    obtain ⟨y, _, rfl⟩ := List.mem_map.1 hx
    have := fp_le q.2 y
    exact small_rok (by omega)⟩
theorem its_in {α : Type} {es : List α} {k : Nat} : ∀ {l : List Nat} {x : α}, x ∈ its es k l → x ∈ es
  | [], _, h => by cases h
  | i :: r, x, h => by
    rcases List.mem_append.1 h with h | h
    · exact List.mem_of_mem_drop (List.mem_of_mem_take h)
    · exact its_in h
theorem ix_rok {q r : Ar} (h : Rok (some q)) (hf : Fits q.1 q.2) (hl : q.1 ≠ []) (hr : Rok (some r)) (hz : szE (r.1 ++ q.1.tail) = 0) (hn : ∀ i ∈ natL r.2, i < nI q.1) (hk : 0 ≤ pr q.1.tail) : Rok (some (r.1 ++ q.1.tail, its q.2 (kI q.1) (natL r.2))) := by
  refine ⟨hz, ?_, fun x hx => h.2.2 x (its_in hx)⟩
  show ((its q.2 (kI q.1) (natL r.2)).length : Int) = pr (r.1 ++ q.1.tail)
  rw [its_length (hf.cut hl) hn, pr_append, ← hr.2.1, Int.natCast_mul]
  congr 1
  · simp [natL]
  · exact Int.toNat_of_nonneg hk
theorem am_in {α : Type} : ∀ {es : List α} {l : List Nat} {ws : List α} {x : α}, x ∈ amS es l ws → x ∈ es ∨ x ∈ ws
  | es, [], ws, x, h => by cases ws <;> exact .inl h
  | es, _ :: _, [], x, h => .inl h
  | es, i :: r, y :: s, x, h => by
    rcases am_in (es := es.set i y) (l := r) (ws := s) h with h | h
    · rcases List.mem_or_eq_of_mem_set h with h | h
      · exact .inl h
      · exact .inr (by rw [h]; exact List.mem_cons_self ..)
    · exact .inr (List.mem_cons_of_mem _ h)
theorem am_rok {q t r : Ar} (h : Rok (some q)) (hr : Rok (some r)) (hm : t.2 ≠ [] → r.1 = [] → r.2 ≠ []) : Rok (some (q.1, amS q.2 (natL t.2) (wsL r t.2.length))) := by
  refine ⟨h.1, by show ((amS q.2 (natL t.2) (wsL r t.2.length)).length : Int) = _; rw [am_len]; exact h.2.1, fun x hx => ?_⟩
  rcases am_in hx with hx | hx
  · exact h.2.2 x hx
  · unfold wsL at hx
    split at hx
    · obtain ⟨h0, rfl⟩ := List.mem_replicate.1 hx
      exact getD_bd hr.2.2 0
    · exact hr.2.2 x hx
end Go.Proofs.YtpledghphljfkaaDoor
/-
  A heap of places in memory: its box, its row, and what must stay.
-/
namespace Go.Proofs.YtpledghphljfkaaDoor
set_option linter.unusedVariables false
set_option linter.unusedSimpArgs false
open Go.RowKit

/-- A row's values: the places a 0, .. a (n - 1). -/
def rowP (a : Nat → Nat) (n : Nat) : List Value := (List.range n).map fun k => Value.int .i64 (a k : Int)
theorem rowP_len (a : Nat → Nat) (n : Nat) : (rowP a n).length = n := by simp [rowP]
theorem rowP_at {a : Nat → Nat} {n k : Nat} (hk : k < n) : (rowP a n)[k]? = some (.int .i64 (a k : Int)) := by simp [rowP, hk]
theorem rowP_no {a : Nat → Nat} {n k : Nat} (hk : ¬ k < n) : (rowP a n)[k]? = none := by simp [rowP]; omega
theorem rowP_congr {a b : Nat → Nat} {n : Nat} (h : ∀ k, k < n → b k = a k) : rowP b n = rowP a n := List.map_congr_left fun k hk => by rw [h k (List.mem_range.1 hk)]
theorem rowP_snoc (a : Nat → Nat) (n : Nat) : rowP a (n + 1) = rowP a n ++ [.int .i64 (a n : Int)] := by simp [rowP, List.range_succ]
theorem rowP_take (a : Nat → Nat) (n : Nat) : (rowP a (n + 1)).take n = rowP a n := by
  rw [rowP_snoc, List.take_left' (rowP_len a n)]
theorem rowP_swap {a : Nat → Nat} {n i j : Nat} (hi : i < n) (hj : j < n) : ((rowP a n).set i (.int .i64 (a j : Int))).set j (.int .i64 (a i : Int)) = rowP (swp a i j) n := by
  apply List.ext_getElem?
  intro k
  rw [List.getElem?_set, List.getElem?_set, List.length_set, rowP_len]
  by_cases hk : k < n
  · rw [rowP_at (a := Go.Proofs.YtpledghphljfkaaDoor.swp a i j) hk]
    by_cases h1 : j = k
    · subst h1; rw [if_pos rfl, if_pos hj, swp_r]
    · rw [if_neg h1]
      by_cases h2 : i = k
      · subst h2; rw [if_pos rfl, if_pos hi, swp_l]
      · rw [if_neg h2, rowP_at hk, swp_o (fun e => h2 e.symm) (fun e => h1 e.symm)]
  · rw [rowP_no (a := Go.Proofs.YtpledghphljfkaaDoor.swp a i j) hk, if_neg (fun e => hk (by omega)), if_neg (fun e => hk (by omega)), rowP_no hk]
/-- The places as they are told. -/
theorem rowP_list (l : List Nat) : rowP (fun k => l.getD k 0) l.length = valsI (intL l) := by
  apply List.ext_getElem?
  intro k
  by_cases hk : k < l.length
  · rw [rowP_at hk]; simp [valsI, intL, List.getElem?_map, hk]
  · rw [rowP_no hk]; simp [valsI, intL, List.getElem?_map, Nat.not_lt.1 hk]
/-- These blocks stay as they were. -/
structure Kep (K : Nat → Prop) (w w' : World) : Prop where
  os : w'.os = w.os
  tape : w'.tape = w.tape
  output : w'.output = w.output
  size : w.heap.size ≤ w'.heap.size
  block : ∀ k, K k → w'.heap[k]? = w.heap[k]?
section
variable {K : Nat → Prop} {w a b : World}
theorem Kep.refl (K : Nat → Prop) (w : World) : Kep K w w := ⟨rfl, rfl, rfl, Nat.le_refl _, fun _ _ => rfl⟩
theorem Kep.on (h : Kep K w a) (hK : ∀ k, K k → k < w.heap.size) (hb : Below a.heap.size a b) : Kep K w b :=
  ⟨hb.os.trans h.os, hb.tape.trans h.tape, hb.output.trans h.output, Nat.le_trans h.size hb.size, fun k hk => (hb.block k (Nat.lt_of_lt_of_le (hK k hk) h.size)).trans (h.block k hk)⟩
theorem Kep.set (h : Kep K w a) {p : Addr} (hp : ¬ K p.block) (u : Value) : Kep K w (a.setCell p u) :=
  ⟨h.os, h.tape, h.output, by simpa using h.size, fun k hk => (Below.heap_setCell a p u k (fun e => hp (e ▸ hk))).trans (h.block k hk)⟩
theorem Kep.grown (h : Kep K w a) (hK : ∀ k, K k → k < w.heap.size) {row : Option Nat} (hg : a.grownBy b row) (hr : ∀ k, row = some k → ¬ K k) : Kep K w b :=
  ⟨hg.os.trans h.os, hg.tape.trans h.tape, hg.output.trans h.output, Nat.le_trans h.size hg.size, fun k hk => (hg.block k (Nat.lt_of_lt_of_le (hK k hk) h.size) (fun e => hr k e.symm hk)).trans (h.block k hk)⟩
theorem Kep.below (h : Kep K w a) {B : Nat} (hB : ∀ k, k < B → K k) : Below B w a := ⟨h.os, h.tape, h.output, h.size, fun k hk => h.block k (hB k hk)⟩
theorem Kep.cell (h : Kep K w a) {p : Addr} (hp : K p.block) : a.cell? p = w.cell? p := World.cell?_of_block (w := w) (h.block p.block hp)
end
/-- The box of an order, its row of places, and what stays. -/
structure Od (G B1 : Nat) (b : Option Addr) (m d : Nat) (sg : Int) (K : Nat → Prop) (W0 : World) (pf : Option Addr → Prop) (M : Nat) (a : Nat → Nat) (n : Nat) (w : World) (pa : Option Addr) (pc : Nat) : Prop where
  box : w.heap[G]? = some (.cells #[.slice b m d, .slice pa n pc, .int .i64 sg] 72 (0, 0))
  row : w.ownsRow B1 3 1 (.slice pa n pc) n (rowP a n)
  addr : pf pa
  kep : Kep K W0 w
  lt : ∀ k, k < n → a k < M
  nle : n ≤ M
section
variable {G B1 : Nat} {b : Option Addr} {m d : Nat} {sg : Int} {K : Nat → Prop} {W0 : World} {pf : Option Addr → Prop} {M : Nat} {a : Nat → Nat} {n : Nat} {w w' : World} {pa : Option Addr} {pc : Nat}
theorem Od.gl (h : Od G B1 b m d sg K W0 pf M a n w pa pc) : G < w.heap.size := (Array.getElem?_eq_some_iff.1 h.box).1
theorem Od.c0 (h : Od G B1 b m d sg K W0 pf M a n w pa pc) : w.cell? ⟨G, 0, none⟩ = some (.slice b m d) := by rw [cell_of_row _ _ _ _ _ _ h.box]; rfl
theorem Od.c1 (h : Od G B1 b m d sg K W0 pf M a n w pa pc) : w.cell? ⟨G, 1, none⟩ = some (.slice pa n pc) := by rw [cell_of_row _ _ _ _ _ _ h.box]; rfl
theorem Od.c2 (h : Od G B1 b m d sg K W0 pf M a n w pa pc) : w.cell? ⟨G, 2, none⟩ = some (.int .i64 sg) := by rw [cell_of_row _ _ _ _ _ _ h.box]; rfl
theorem Od.on (h : Od G B1 b m d sg K W0 pf M a n w pa pc) (hK : ∀ k, K k → k < W0.heap.size) (hb : Below w.heap.size w w') : Od G B1 b m d sg K W0 pf M a n w' pa pc :=
  ⟨(hb.block G h.gl).trans h.box, own_below h.row hb, h.addr, h.kep.on hK hb, h.lt, h.nle⟩
theorem Od.drew (h : Od G B1 b m d sg K W0 pf M a n w pa pc) : Od G B1 b m d sg K W0 pf M a n w.drew pa pc := ⟨h.box, h.row, h.addr, ⟨h.kep.os, h.kep.tape, h.kep.output, h.kep.size, h.kep.block⟩, h.lt, h.nle⟩
/-- The row's cells, where there are any. -/
theorem Od.at (h : Od G B1 b m d sg K W0 pf M a n w pa pc) (h0 : 0 < n) : ∃ R, pa = some ⟨R, 0, none⟩ ∧ B1 ≤ R ∧ R < w.heap.size ∧ ∀ j, j < n → w.cell? ⟨R, j, none⟩ = some (.int .i64 (a j : Int)) ∧ w.frozen? ⟨R, j, none⟩ = false := by
  rcases h.row.2 with ⟨e, e0⟩ | ⟨R, cap, cur, e, hB, hg, _⟩
  · omega
  · injection e with e1 e2 e3
    have hr := h.row
    rw [e1] at hr
    refine ⟨R, e1, hB, (Array.getElem?_eq_some_iff.1 hg).1, fun j hj => ⟨?_, hr.frozenAt j⟩⟩
    rw [hr.cellAt j (by omega), rowP_at hj]
theorem Od.caps (h : Od G B1 b m d sg K W0 pf M a n w pa pc) : n ≤ pc ∧ pc ≤ maxLen := own_caps h.row
end
theorem od_box1 {w : World} {G : Nat} {s0 s1 s2 : Value} {t : TypeId} (h : w.heap[G]? = some (.cells #[s0, s1, s2] t (0, 0))) (v : Value) : (w.setCell ⟨G, 1, none⟩ v).heap[G]? = some (.cells #[s0, v, s2] t (0, 0)) := by
  simp [World.setCell, Array.getElem?_modify, h]
section
variable {G B1 : Nat} {b : Option Addr} {m d : Nat} {sg : Int} {K : Nat → Prop} {W0 : World} {pf : Option Addr → Prop} {M : Nat} {a : Nat → Nat} {n : Nat} {w w' : World} {pa : Option Addr} {pc : Nat}
theorem Od.swap (h : Od G B1 b m d sg K W0 pf M a n w pa pc) (hG : G < B1) (hpf : ∀ R, pf (some ⟨R, 0, none⟩) → B1 ≤ R → ¬ K R) {R i j : Nat} (hR : pa = some ⟨R, 0, none⟩) (hBR : B1 ≤ R) (hi : i < n) (hj : j < n) :
    Od G B1 b m d sg K W0 pf M (swp a i j) n ((w.setCell ⟨R, i, none⟩ (.int .i64 (a j : Int))).setCell ⟨R, j, none⟩ (.int .i64 (a i : Int))) pa pc := by
  subst hR
  have hK := hpf R h.addr hBR
  have r1 := (h.row.stored i (.int .i64 (a j : Int))).1
  have r2 := (r1.stored j (.int .i64 (a i : Int))).1
  rw [rowP_swap hi hj] at r2
  refine ⟨?_, r2, h.addr, (h.kep.set (p := ⟨R, i, none⟩) hK _).set (p := ⟨R, j, none⟩) hK _, fun k hk => ?_, h.nle⟩
  · exact (Below.heap_setCell _ ⟨R, j, none⟩ _ G (show G ≠ R by omega)).trans ((Below.heap_setCell _ ⟨R, i, none⟩ _ G (show G ≠ R by omega)).trans h.box)
  · unfold swp
    split
    · exact h.lt j hj
    · split
      · exact h.lt i hi
      · exact h.lt k hk
theorem Od.far (h : Od G B1 b m d sg K W0 pf M a n w pa pc) (hpf : ∀ R, pf (some ⟨R, 0, none⟩) → B1 ≤ R → ¬ K R) : ∀ k, (Value.slice pa n pc).ownBlock = some k → B1 ≤ k ∧ ¬ K k := fun k hk => by
  rcases h.row.2 with ⟨e, e0⟩ | ⟨R, cap, cur, e, hB, hg, _⟩
  · rw [e] at hk; cases hk
  · injection e with e1 e2 e3
    subst e1
    have : R = k := by simpa [Value.ownBlock] using hk
    subst this
    exact ⟨hB, hpf R h.addr hB⟩
/-- The box stays while the row grows. -/
theorem Od.box3 (h : Od G B1 b m d sg K W0 pf M a n w pa pc) (hG : G < B1) (hpf : ∀ R, pf (some ⟨R, 0, none⟩) → B1 ≤ R → ¬ K R) {w3 : World} (hg : w.grownBy w3 (Value.slice pa n pc).ownBlock) :
    w3.heap[G]? = some (.cells #[.slice b m d, .slice pa n pc, .int .i64 sg] 72 (0, 0)) := (hg.block G h.gl (fun e => by have := (h.far hpf G e.symm).1; omega)).trans h.box
/-- One place more, behind all: the row has grown (or is new), and the box has it. -/
theorem Od.pushed (h : Od G B1 b m d sg K W0 pf M a n w pa pc) (hK : ∀ k, K k → k < W0.heap.size) (hKG : ¬ K G) (hG : G < B1) (hpf : ∀ R, pf (some ⟨R, 0, none⟩) → B1 ≤ R → ¬ K R) (hall : ∀ q, pf q)
    (hM : n < M) {w3 : World} {a' : Option Addr} {c' : Nat} (ho : w3.ownsRow B1 3 1 (.slice a' (n + 1) c') (n + 1) (rowP a n ++ [.int .i64 (n : Int)])) (hg : w.grownBy w3 (Value.slice pa n pc).ownBlock) :
    Od G B1 b m d sg K W0 pf M (fun k => if k = n then n else a k) (n + 1) (w3.setCell ⟨G, 1, none⟩ (.slice a' (n + 1) c')) a' c' := by
  have e : rowP a n ++ [.int .i64 (n : Int)] = rowP (fun k => if k = n then n else a k) (n + 1) := by
    rw [rowP_snoc, if_pos rfl]
    congr 1
    exact (rowP_congr fun k hk => if_neg (by omega)).symm
  rw [e] at ho
  have hne := h.far hpf
  have hb3 := h.box3 hG hpf hg
  refine ⟨od_box1 hb3 _, ?_, hall _, (h.kep.grown hK hg fun k hk => (hne k hk).2).set (p := ⟨G, 1, none⟩) hKG _, fun k hk => ?_, hM⟩
  · refine ⟨ho.1, ?_⟩
    rcases ho.2 with h0 | ⟨g', cap, cur, e1, e2, hg', h2⟩
    · exact .inl h0
    · exact .inr ⟨g', cap, cur, e1, e2, (Below.heap_setCell _ ⟨G, 1, none⟩ _ g' (show g' ≠ G by omega)).trans hg', h2⟩
  · show (if k = n then n else a k) < M
    split
    · exact hM
    · exact h.lt k (by omega)
/-- The last place is taken away. -/
theorem Od.popped (h : Od G B1 b m d sg K W0 pf M a (n + 1) w pa pc) (hKG : ¬ K G) (hG : G < B1) :
    Od G B1 b m d sg K W0 pf M a n (w.setCell ⟨G, 1, none⟩ (.slice pa n pc)) pa pc := by
  refine ⟨od_box1 h.box _, ?_, h.addr, h.kep.set (p := ⟨G, 1, none⟩) hKG _, fun k hk => h.lt k (by omega), by have := h.nle; omega⟩
  refine ⟨by rw [rowP_len]; omega, ?_⟩
  rcases h.row.2 with ⟨e, e0⟩ | ⟨R, cap, cur, e, hB, hg, h1, h2, h3, h4⟩
  · omega
  · injection e with e1 e2 e3
    subst e1 e3
    refine .inr ⟨R, pc, cur, rfl, hB, (Below.heap_setCell _ ⟨G, 1, none⟩ _ R (show R ≠ G by omega)).trans hg, by omega, h2, h3, ?_⟩
    rw [← rowP_take, ← h4, List.take_take]
    congr 1
    omega
end
end Go.Proofs.YtpledghphljfkaaDoor

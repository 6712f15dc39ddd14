import Derived.Test.YtomkjmhebnecbaaGreatDoorMaw
import Derived.Deep.RegionHeld3
/-
  text.row and vector over a function that tells each number; the two functions of text.Text; Text.
-/
namespace Go.Proofs.YtomkjmhebnecbaaGreatDoor
set_option linter.unusedVariables false
set_option linter.unusedSimpArgs false
open Go.RowKit

theorem join_is : ∀ l : List (List UInt8), Lib.join l [32] = joinT l
  | [] => rfl
  | [a] => by rw [Lib.join_one]; rfl
  | a :: b :: r => by
    rw [joinT_cons a (by simp), ← join_is (b :: r), Lib.join_cons, Lib.join_cons]
    simp [Lib.joinTail]
def StrBelow (t : List UInt8) (W : World) (e : Ending) (W' : World) : Prop := e = .returned (.string (tx t)) ∧ Below W.heap.size W W'
theorem lit_len {l : List UInt8} (h : l.length ≤ 1000) : (litT l).length ≤ 1000 := by
  unfold litT
  split
  · cases l with
    | nil => simp [swapL]
    | cons c r =>
      show (if c = 45 then 95 :: r else c :: r).length ≤ 1000
      split <;> exact h
  · simp
theorem span_le : ∀ (l : List (List UInt8)), (∀ t ∈ l, t.length ≤ 1000) → spanT l ≤ 1001 * l.length
  | [], _ => by simp [spanT]
  | a :: r, h => by
    have h1 := span_le r fun t ht => h t (by simp [ht])
    have h2 := h a (by simp)
    unfold spanT at h1 ⊢
    simp only [List.map_cons, List.sum_cons, List.length_cons]
    omega
theorem row_len {ts : List (List UInt8)} (h : ∀ t ∈ ts, t.length ≤ 1000) : (rowT litT ts).length ≤ 1001 * ts.length := by
  unfold rowT
  have h1 := joinT_len (ts.map litT)
  have h2 := span_le (ts.map litT) fun t ht => by
    obtain ⟨u, hu, rfl⟩ := List.mem_map.1 ht
    exact lit_len (h u hu)
  rw [List.length_map] at h2
  omega
theorem row_txs (ts : List (List UInt8)) : (⟨(Lib.join (((ts.map litT).map tx).map (·.data.toList)) (⟨#[32]⟩ : ByteArray).data.toList).toArray⟩ : ByteArray) = tx (rowT litT ts) := by
  rw [List.map_map]
  show tx (Lib.join ((ts.map litT).map fun t => (tx t).data.toList) [32]) = tx (joinT (ts.map litT))
  rw [show (fun t => (tx t).data.toList) = (id : List UInt8 → List UInt8) from rfl, List.map_id, join_is]
/-- A function that tells each of some texts. -/
def Tells (f g : Nat) (ts : List (List UInt8)) (W : World) : Prop :=
  ∀ k, k < ts.length → ∀ w, Below W.heap.size W w → Calls Tryz.prog f #[.int .i64 k, .pointer (some ⟨g, 0, none⟩)] w (StrBelow (ts.getD k []) w)
theorem Tells.below {f g : Nat} {ts : List (List UInt8)} {W W' : World} (h : Tells f g ts W) (hb : Below W.heap.size W W') : Tells f g ts W' := fun k hk w hw => h k hk w (hb.trans (hw.mono hb.size))
def Fv (f g : Nat) : Value := .func (.func f) #[] #[.pointer (some ⟨g, 0, none⟩)]
set_option maxRecDepth 10000 in
set_option maxHeartbeats 1600000 in
theorem row_is (f g : Nat) (hf : ∀ args w, (callFunc f args).run Tryz.prog w = .ok (.enter f args) w) (ts : List (List UInt8)) (h0 : 0 < ts.length) (hn : ts.length ≤ 1000000) (hl : ∀ t ∈ ts, t.length ≤ 1000) (W : World) (h : Tells f g ts W) :
    Calls Tryz.prog 16 #[.int .i64 ts.length, Fv f g] W (StrBelow (rowT litT ts) W) := by
  obtain ⟨n, hN⟩ : ∃ n, n = ts.length := ⟨_, rfl⟩
  have HT := Lib.hid h
  have HL := Lib.hid hl
  rw [← hN] at h0 hn ⊢
  have HN := Lib.hid hN
  have hmk := run_mks n hn W
  clear hN h hl
  unfold Fv
  go_enter Tryz.func16, Tryz.ntmps16
  go_wp2_with fail
  have hS0 := Sr.made W n
  have hb0 : Below W.heap.size W (W.alloc (.cells (madeCells #[.string ⟨#[]⟩] n) 9)) := (Below.refl _ _).alloc (Nat.le_refl _) _
  clear hmk
  go_loopw [11] (fun i wr => ∃ (k : Nat) (F : Nat → ByteArray), i = .int .i64 k ∧ k ≤ n ∧ Sr wr W.heap.size n F ∧ Hid (∀ j, j < k → F j = tx (litT (ts.getD j []))) ∧ Below W.heap.size W wr) (fun i _ => n - (intOf i).toNat)
  case atStart => exact ⟨0, _, rfl, by omega, hS0, Lib.hid (fun j hj => by omega), hb0⟩
  case round =>
    obtain ⟨k, F, rfl, hk, hS, HF, hb⟩ := hrel
    clear hS0 hb0
    by_cases hlt : k < n
    · have e2 : (k : Int) < (n : Int) := by omega
      have hkt : k < ts.length := by rw [← HN.out]; exact hlt
      have hmem : ts.getD k [] ∈ ts := by rw [List.getD_eq_getElem?_getD, List.getElem?_eq_getElem hkt]; exact List.getElem_mem hkt
      have hlen := HL.out _ hmem
      have K1 := Lib.hid (HT.out k hkt wr hb)
      generalize hx : ts.getD k [] = x at *
      have HX := Lib.hid hx
      have K2 := Lib.hid (fun w => Literal_is x (by omega) w)
      clear hmem hlen hx hkt
      go_wp2_with fail
      refine K1.out.mono ?_
      rintro e w1 ⟨rfl, hb1⟩
      go_wp2_with fail
      refine (K2.out _).mono ?_
      rintro e w2 ⟨rfl, rfl⟩
      have hS1 := hS.below hb1
      have hb2 := hb.trans (hb1.mono hb.size)
      have fz := hS1.frozen k
      have ck := hS1.cell hlt
      have hS2 := hS1.set k (tx (litT x))
      have hb3 := hb2.setCell (p := ⟨W.heap.size, k, none⟩) (Nat.le_refl _) (.string (tx (litT x)))
      have HF2 : Hid (∀ j, j < k + 1 → (fun j => if j = k then tx (litT x) else F j) j = tx (litT (ts.getD j []))) := Lib.hid fun j hj => by
        show (if j = k then tx (litT x) else F j) = _
        by_cases hjk : j = k
        · rw [if_pos hjk, hjk, HX.out]
        · rw [if_neg hjk]; exact HF.out j (by omega)
      clear hS hb hb1 hS1 hb2
      go_wp2_with fail
      go_roundw
      case rel => exact ⟨k + 1, _, by go_num, by omega, hS2, HF2, hb3⟩
      case measure => simp [intOf]; omega
    · have e2 : ¬ (k : Int) < (n : Int) := by omega
      obtain rfl : k = n := by omega
      have hlm : ((ts.map litT).map tx).length = k := by rw [List.length_map, List.length_map]; exact HN.out.symm
      have KJ := Tryz.strings_Join W.heap.size 0 k ((ts.map litT).map tx) ⟨#[32]⟩ wr (fun j x hx => by
        obtain ⟨hj, rfl⟩ := List.getElem?_eq_some_iff.1 hx
        rw [hlm] at hj
        rw [Nat.zero_add, hS.cell hj, HF.out j hj]
        have hj2 : j < ts.length := by rw [← HN.out]; exact hj
        simp [List.getD_eq_getElem?_getD, List.getElem?_eq_getElem hj2]) hS.lt (by rw [hlm]; omega) (by rw [hlm]; exact Nat.le_refl _) (by
          have h1 := row_len HL.out
          have h2 := HN.out
          have h3 := congrArg ByteArray.size (row_txs ts)
          rw [tx_size] at h3
          have h4 : (⟨(Lib.join (((ts.map litT).map tx).map (·.data.toList)) (⟨#[32]⟩ : ByteArray).data.toList).toArray⟩ : ByteArray).size = (Lib.join (((ts.map litT).map tx).map (·.data.toList)) (⟨#[32]⟩ : ByteArray).data.toList).length := rfl
          omega)
      rw [hlm, row_txs] at KJ
      replace KJ := Lib.hid KJ
      clear hlm hS
      go_wp2_with fail
      refine KJ.out.mono ?_
      rintro e w1 ⟨rfl, hq⟩
      go_wp2_with fail
      go_ret
      exact ⟨rfl, hb.trans (hq.mono hb.size)⟩
/-! ### vector -/
theorem vec_len {es : List (List UInt8)} (h : ∀ t ∈ es, t.length ≤ 1000) : (vecT litT es).length ≤ 1001 * es.length + 2 := by
  match es, h with
  | [], _ => simp [vecT]
  | [e], h =>
    have := row_len h
    show (44 :: rowT litT [e]).length ≤ _
    rw [List.length_cons]; omega
  | e :: f :: r, h =>
    have := row_len h
    show (rowT litT (e :: f :: r)).length ≤ _
    omega
set_option maxHeartbeats 800000 in
theorem vector_is (f g : Nat) (hf : ∀ args w, (callFunc f args).run Tryz.prog w = .ok (.enter f args) w) (ts : List (List UInt8)) (hn : ts.length ≤ 1000000) (hl : ∀ t ∈ ts, t.length ≤ 1000) (W : World) (h : Tells f g ts W) :
    Calls Tryz.prog 17 #[.int .i64 ts.length, Fv f g] W (StrBelow (vecT litT ts) W) := by
  match ts, hn, hl, h with
  | [], hn, hl, h =>
    go_enter Tryz.func17, Tryz.ntmps17
    go_wp2_with fail
    go_ret
    exact ⟨rfl, Below.refl _ _⟩
  | [e], hn, hl, h =>
    have K := row_is f g hf [e] (by simp) hn hl W h
    have hz : (rowT litT [e]).length ≤ 1001 * [e].length := row_len hl
    have hz2 : (tx (rowT litT [e])).size ≤ 1001 := by rw [tx_size]; simpa using hz
    have hc : (⟨#[44]⟩ : ByteArray) ++ tx (rowT litT [e]) = tx (vecT litT [e]) := tx_cat [44] (rowT litT [e])
    have HC := Lib.hid hc
    have q1 : ¬ (9223372036854775807 < 1 + (tx (rowT litT [e])).size) := by omega
    have q2 : ¬ (9223372036854775806 < (tx (rowT litT [e])).size) := by omega
    replace K := Lib.hid K
    rw [show (([e] : List (List UInt8)).length : Nat) = 1 from rfl] at K
    clear hc hz h hl
    go_enter Tryz.func17, Tryz.ntmps17
    go_wp2_with fail
    refine K.out.mono ?_
    rintro x w1 ⟨rfl, hb⟩
    generalize tx (rowT litT [e]) = u at hz2 q1 q2 HC ⊢
    go_wp2_with fail
    go_ret
    exact ⟨by rw [← HC.out]; rfl, hb⟩
  | e :: e' :: r, hn, hl, h =>
    have K := row_is f g hf (e :: e' :: r) (by simp) hn hl W h
    obtain ⟨n, hN⟩ : ∃ n, n = (e :: e' :: r).length := ⟨_, rfl⟩
    have h2 : 2 ≤ n := by rw [hN]; simp
    rw [← hN] at K ⊢
    have e0 : ((n : Int) == 0) = false := beq_eq_false_iff_ne.2 (by omega)
    have e1 : ((n : Int) == 1) = false := beq_eq_false_iff_ne.2 (by omega)
    replace K := Lib.hid K
    clear hN h hl hn
    go_enter Tryz.func17, Tryz.ntmps17
    go_wp2_with fail
    refine K.out.mono ?_
    rintro x w1 ⟨rfl, hb⟩
    go_wp2_with fail
    go_ret
    exact ⟨rfl, hb⟩

/-! ### Text's two functions -/
theorem enter_ax : ∀ args w, (callFunc 13 args).run Tryz.prog w = .ok (.enter 13 args) w := enters_of Tryz.func13 (by kernel_rfl) rfl
theorem enter_el : ∀ args w, (callFunc 15 args).run Tryz.prog w = .ok (.enter 15 args) w := enters_of Tryz.func15 (by kernel_rfl) rfl
theorem el_tells {W : World} {g : Nat} {a b : Option Addr} {n c d : Nat} {es : List (List UInt8)} (hA : Bx W g a n c b es.length d) (h : St W b es.length (es.map tx)) (hn : es.length ≤ 1000000) : Tells 15 g es W := by
  intro k hk w hb
  have hA2 := hA.below hb hA.lt
  have h2 := h.below hb
  obtain ⟨bb, off, rfl, hc⟩ := h2.2 (by omega)
  have ck := hc k hk
  rw [getD_tx es hk] at ck
  have y1 := hA2.c1
  obtain ⟨x, hx⟩ : ∃ x, x = es.getD k [] := ⟨_, rfl⟩
  rw [← hx] at ck ⊢
  generalize hm : es.length = m at *
  have e1 : (k : Int) < (m : Int) := by omega
  clear hc h2 h hA hA2 hb hm hx
  go_enter Tryz.func15, Tryz.ntmps15
  go_wp2_with fail
  go_ret
  exact ⟨rfl, Below.refl _ _⟩
theorem ax_tells {W : World} {g : Nat} {a b : Option Addr} {n c m d : Nat} {l : List Int} (hA : Bx W g a n c b m d) (h : Sl W a n l) (hn : n ≤ 1000000) (hi : ∀ j, j < n → I64 (l.getD j 0)) (ht : Tab W) : Tells 13 g (l.map Lib.itoa) W := by
  intro k hk w hb
  rw [List.length_map] at hk
  have hkn : k < n := by rw [← h.1]; exact hk
  have hA2 := hA.below hb hA.lt
  have h2 := h.below hb
  obtain ⟨bb, off, rfl, hc⟩ := h2.2 (by omega)
  have ck := hc k hkn
  have y1 := hA2.c0
  have hx : (l.map Lib.itoa).getD k [] = Lib.itoa (l.getD k 0) := by simp [List.getD_eq_getElem?_getD, List.getElem?_eq_getElem hk]
  rw [hx]
  have h64 := hi k hkn
  have K := Lib.hid (Of_any (l.getD k 0) h64.1 h64.2 w (ht.below hb))
  generalize l.getD k 0 = x at *
  have e1 : (k : Int) < (n : Int) := by omega
  clear hc h2 h hA hA2 hb hx h64 hi ht hk
  go_enter Tryz.func13, Tryz.ntmps13
  go_wp2_with fail
  refine K.out.mono ?_
  rintro e w1 ⟨rfl, hb1⟩
  go_wp2_with fail
  go_ret
  exact ⟨rfl, hb1⟩
end Go.Proofs.YtomkjmhebnecbaaGreatDoor

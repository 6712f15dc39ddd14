import Derived.Test.YtomkjmhebnecbaaGreatDoorMak
import Derived.Test.YtomkjmhebnecbaaGreatDoorMas
/-
  val.Vector, and val.All of any elements.
-/
namespace Go.Proofs.YtomkjmhebnecbaaGreatDoor
set_option linter.unusedVariables false
set_option linter.unusedSimpArgs false
open Go.RowKit

theorem getD_tx (es : List (List UInt8)) {j : Nat} (hj : j < es.length) : (es.map tx).getD j ByteArray.empty = tx (es.getD j []) := by
  simp [List.getD_eq_getElem?_getD, List.getElem?_eq_getElem hj]
theorem owns_st {w : World} {base n : Nat} {v : Value} {es : List (List UInt8)} (h : w.ownsRow base 9 1 v n (valsT es)) : ∃ a c, v = .slice a n c ∧ St w a n (es.map tx) ∧ (a = none → n = 0) := by
  obtain ⟨hl, h⟩ := h
  unfold valsT at hl h
  rw [List.length_map, Nat.mul_one] at hl
  rcases h with ⟨rfl, rfl⟩ | ⟨g, cap, cur, rfl, _, hg, _, _, _, ht⟩
  · exact ⟨none, 0, rfl, ⟨by rw [List.length_map]; exact hl, fun h => by omega⟩, fun _ => rfl⟩
  · refine ⟨_, cap, rfl, ⟨by rw [List.length_map]; exact hl, fun _ => ⟨g, 0, rfl, fun j hj => ?_⟩⟩, fun h => by cases h⟩
    rw [Nat.mul_one] at ht
    rw [Nat.zero_add, cell_of_row w g j cur _ _ hg, ← Array.getElem?_toList]
    have e : cur.toList[j]? = (cur.toList.take n)[j]? := by rw [List.getElem?_take_of_lt hj]
    rw [e, ht, List.getElem?_map, List.getElem?_eq_getElem (by omega), getD_tx es (by omega)]
    simp [List.getD_eq_getElem?_getD, List.getElem?_eq_getElem (show j < es.length by omega)]
/-- A slice of texts that a call handed back, cloned. -/
def StPost (es : List (List UInt8)) (W : World) (x : Ending) (W' : World) : Prop := ∃ a c, x = .returned (.slice a es.length c) ∧ St W' a es.length (es.map tx) ∧ Below W.heap.size W W'
theorem valsT_is (es : List (List UInt8)) : (es.map tx).map Value.string = valsT es := by unfold valsT; rw [List.map_map]; rfl
theorem CloneT_is (a : Option Addr) (c : Nat) (es : List (List UInt8)) (W : World) (h : St W a es.length (es.map tx)) (hn : es.length ≤ 1000000) : Calls Tryz.prog 52 #[.slice a es.length c] W (StPost es W) := by
  rcases a with _ | a
  · have h0 : es.length = 0 := by
      rcases Nat.eq_zero_or_pos es.length with h0 | h0
      · exact h0
      · obtain ⟨b, off, e, _⟩ := h.2 h0; cases e
    obtain rfl := List.length_eq_zero_iff.1 h0
    refine (Tryz.slices_Clone_string_nil 0 c W).mono ?_
    rintro x w ⟨rfl, rfl⟩
    exact ⟨none, 0, rfl, St.nil _ _, Below.refl _ _⟩
  · by_cases h0 : es.length = 0
    · obtain rfl := List.length_eq_zero_iff.1 h0
      refine (Tryz.slices_Clone_string_zero a c W).mono ?_
      rintro x w ⟨v', rfl, hown, _, hb⟩
      obtain ⟨a', c', rfl, hs, _⟩ := owns_st (es := []) hown
      exact ⟨a', c', rfl, hs, hb⟩
    · obtain ⟨b, off, e, hc⟩ := h.2 (by omega)
      injection e with e
      subst e
      have hl : (es.map tx).length = es.length := List.length_map _
      refine (Tryz.slices_Clone_string b off es.length c (es.map tx) W (by rw [hl]; exact Nat.le_refl _) (by omega) (fun j hj => hc j (by rw [← hl]; exact hj))).mono ?_
      rintro x w ⟨v', rfl, hown, _, hb⟩
      rw [List.take_of_length_le (by rw [hl]; exact Nat.le_refl _), valsT_is] at hown
      obtain ⟨a', c', rfl, hs, _⟩ := owns_st hown
      exact ⟨a', c', rfl, hs, hb⟩
def VcEnd (es : List (List UInt8)) (W : World) (x : Ending) (W' : World) : Prop :=
  ∃ g a c, x = .returned (.agg #[.slice (some ⟨g, 0, none⟩) 1 1, .slice a es.length c]) ∧ Vl W' (some ⟨g, 0, none⟩) 1 a es.length [((es.length : Nat) : Int)] (es.map tx) ∧ Below W.heap.size W W'
set_option maxRecDepth 10000 in
theorem Vector_is (a : Option Addr) (c : Nat) (es : List (List UInt8)) (W : World) (h : St W a es.length (es.map tx)) (hn : es.length ≤ 1000000) : Calls Tryz.prog 38 #[.slice a es.length c] W (VcEnd es W) := by
  have K := fun w (hb : Below W.heap.size W w) => CloneT_is a c es w (h.below hb) hn
  replace K := Lib.hid K
  clear h
  obtain ⟨n, hN⟩ : ∃ n, n = es.length := ⟨_, rfl⟩
  have HN := Lib.hid hN
  rw [← hN] at K ⊢
  clear hN
  have hA := Bx.new W none 0 0 none 0 0
  have hb0 : Below W.heap.size W (W.alloc (.cells #[.slice none 0 0, .slice none 0 0] 25)) := (Below.refl _ _).alloc (Nat.le_refl _) _
  go_enter Tryz.func38, Tryz.ntmps38
  go_wp2_with fail
  have hb1 := hb0.alloc hb0.size (.cells #[.int .i64 n] 3)
  refine (K.out _ hb1).mono ?_
  rintro x w1 ⟨a', c', rfl, hs, hb⟩
  have hA2 := (hA.alloc (.cells #[.int .i64 n] 3)).below hb (by simp; omega)
  have hS : Sl ((W.alloc (.cells #[.slice none 0 0, .slice none 0 0] 25)).alloc (.cells #[.int .i64 n] 3)) (some ⟨W.heap.size + 1, 0, none⟩) 1 [(n : Int)] := by
    have := Sl.row (l := [(n : Int)]) (heap_alloc_new (W.alloc (.cells #[.slice none 0 0, .slice none 0 0] 25)) (.cells #[.int .i64 n] 3))
    rw [World.size_alloc] at this
    exact this
  have hS2 := hS.below hb
  have hb2 := hb1.trans (hb.mono hb1.size)
  have y0 := hA2.c0
  have y1 := hA2.c1
  have f0 := hA2.f 0
  have f1 := hA2.f 1
  have HS := Lib.hid (And.intro hS2 hs)
  clear hS hS2 hs hA hb0 hb1 hb
  go_wp2_with fail
  have hA3 := hA2.set (some ⟨W.heap.size + 1, 0, none⟩) 1 1 a' es.length c'
  have r0 := hA3.c0
  have r1 := hA3.c1
  rw [HN.out] at HS
  exact bodyPost_ret (v := .agg #[.slice (some ⟨W.heap.size + 1, 0, none⟩) 1 1, .slice a' es.length c']) (by simp [results, Tryz.results38, go_sem, r0, r1]) rfl ⟨_, _, _, rfl, ⟨hA2.sl HS.out.1 _ _, hA2.st HS.out.2 _ _, by omega⟩, below_made hb2 (Nat.le_refl _) _ _⟩

/-! ### All -/
/-- A number's figures; an axis that may be told. -/
theorem S_tx (x : Int) : S x = tx (Lib.itoa x) := rfl
theorem tx_inj {a b : List UInt8} (h : tx a = tx b) : a = b := by
  have := congrArg (fun s : ByteArray => s.data.toList) h
  exact this
def AaEnd (es : List (List UInt8)) (W : World) (e : Ending) (W' : World) : Prop :=
  ∃ a n c z, e = .returned (.tuple #[.slice a n c, .int .i64 z]) ∧ ((z = 0 ∧ ∃ xs, xs.map Lib.itoa = es ∧ (∀ x ∈ xs, fine x = true) ∧ Sl W' a n xs) ∨ (z = 5 ∧ n = 0 ∧ ∃ e ∈ es, ∀ x, fine x = true → Lib.itoa x ≠ e)) ∧ (n ≤ c ∧ c ≤ 1000000) ∧ Below W.heap.size W W'
/-- What near tells of any text. -/
theorem near_any (t : List UInt8) (ht : t.length ≤ 1000000000) (W : World) (he : ErrT W) :
    (∃ x, Lib.itoa x = t ∧ fine x = true ∧ Calls Tryz.prog 69 #[.string (tx t)] W (NearEnd x 0 W)) ∨ ((∀ x, fine x = true → Lib.itoa x ≠ t) ∧ Calls Tryz.prog 69 #[.string (tx t)] W (NearEnd 0 5 W)) := by
  obtain ⟨o, ho⟩ := is_ex (tx t) (by rw [tx_size]; unfold maxLen; omega)
  have hi := Int_opt ho W he
  have hf64 : ∀ x, fine x = true → I64 x := fun x hx => by
    have := fine_yes.1 hx
    exact ⟨by omega, by omega⟩
  cases o with
  | none =>
    refine .inr ⟨fun x hx e => ?_, near_no _ _ _ W hi (.inl rfl)⟩
    have h1 := ho.1
    have h2 := (mayL_itoa x).2 (lim_i64 (hf64 x hx).1 (hf64 x hx).2)
    rw [tx_list, ← e, h2] at h1
    cases h1
  | some y =>
    have hy : Lib.itoa y = t := (tx_inj ho.1).symm
    by_cases hb : fine y = true
    · have h64 := hf64 y hb
      have e : intO (some y) = (y, true) := if_pos h64
      rw [e] at hi
      exact .inl ⟨y, hy, hb, near_yes _ _ W hi hb⟩
    · refine .inr ⟨fun x hx e => ?_, near_no _ _ _ W hi ?_⟩
      · have := S_inj (show S x = S y by rw [S_tx, S_tx, e, hy])
        rw [this] at hx
        exact hb hx
      · by_cases h64 : I64 y
        · have e : intO (some y) = (y, true) := if_pos h64
          rw [e]
          exact .inr (by simpa using hb)
        · have e : intO (some y) = (0, false) := if_neg h64
          rw [e]
          exact .inl rfl
set_option maxRecDepth 10000 in
set_option maxHeartbeats 800000 in
theorem AllT_is {a b : Option Addr} {k c d : Nat} {s : List Int} {es : List (List UInt8)} (W : World) (h : Vl W a k b es.length s (es.map tx)) (hz : ∀ t ∈ es, t.length ≤ 1000000000) (hn : es.length ≤ 1000000) (he : ErrT W) :
    Calls Tryz.prog 53 #[.agg #[.slice a k c, .slice b es.length d]] W (AaEnd es W) := by
  obtain ⟨n, hN⟩ : ∃ n, n = es.length := ⟨_, rfl⟩
  have HN := Lib.hid hN
  have HT := h.t
  rw [← hN] at HT hn ⊢
  replace HT := Lib.hid HT
  have HZ := Lib.hid hz
  have HE := Lib.hid he
  have hmk := run_mki n hn
  clear h hz he hN
  go_enter Tryz.func53, Tryz.ntmps53
  have hA := (Bx.new W a k c b n d).alloc (.cells (madeCells #[.int .i64 0] n) 3)
  have x1 := hA.c1
  go_wp2_with fail
  have hR := Ir.made (W.alloc (.cells #[.slice a k c, .slice b n d] 25)) n
  rw [show (W.alloc (.cells #[.slice a k c, .slice b n d] 25)).heap.size = W.heap.size + 1 by simp] at hR
  have hb0 : Below W.heap.size W ((W.alloc (.cells #[.slice a k c, .slice b n d] 25)).alloc (.cells (madeCells #[.int .i64 0] n) 3)) := ((Below.refl _ _).alloc (Nat.le_refl _) _).alloc (by simp) _
  clear hmk x1
  go_loopw [16] (fun i wr => ∃ (q : Nat) (F : Nat → Int), i = .int .i64 q ∧ q ≤ n ∧ Ir wr (W.heap.size + 1) n F ∧ Hid (∀ j, j < q → Lib.itoa (F j) = es.getD j [] ∧ fine (F j) = true) ∧ Below W.heap.size W wr) (fun i _ => n - (intOf i).toNat)
  case atStart => exact ⟨0, _, rfl, by omega, hR, Lib.hid (fun j hj => by omega), hb0⟩
  case round =>
    obtain ⟨q, F, rfl, hq, hR1, HF, hb1⟩ := hrel
    clear hA hR hb0
    by_cases hlt : q < n
    · have e2 : (q : Int) < (n : Int) := by omega
      obtain ⟨bb, off, rfl, hc⟩ := HT.out.2 (by omega)
      have hck := (hb1.cell (p := ⟨bb, off + q, none⟩) (World.block_lt_of_cell? W _ (hc q hlt))).trans (hc q hlt)
      have hql : q < es.length := by rw [← HN.out]; exact hlt
      rw [getD_tx es hql] at hck
      have hmem : es.getD q [] ∈ es := by rw [List.getD_eq_getElem?_getD, List.getElem?_eq_getElem hql]; exact List.getElem_mem hql
      have hna := near_any (es.getD q []) (HZ.out _ hmem) wr (HE.out.below hb1)
      have HM := Lib.hid hmem
      clear hc hmem hql
      generalize ht : es.getD q [] = t at hck hna HM
      have HX := Lib.hid ht
      clear ht
      generalize hs : tx t = u at hck hna
      clear hs
      rcases hna with ⟨x, hx, hf, KN⟩ | ⟨hno, KN⟩
      · replace KN := Lib.hid KN
        have HFX := Lib.hid (And.intro hx hf)
        clear hx hf
        go_wp2_with fail
        refine KN.out.mono ?_
        rintro e w2 ⟨rfl, hb⟩
        have hR2 := hR1.below hb
        have hb2 := hb1.trans (hb.mono hb1.size)
        have y0 := hR2.cell (i := q) hlt
        have f0 := hR2.frozen q
        clear hR1 hb1 hb hck
        have hR3 := hR2.set q x
        have hb3 := hb2.setCell (p := ⟨W.heap.size + 1, q, none⟩) (show W.heap.size ≤ W.heap.size + 1 by omega) (.int .i64 x)
        have HF2 : Hid (∀ j, j < q + 1 → Lib.itoa ((fun j => if j = q then x else F j) j) = es.getD j [] ∧ fine ((fun j => if j = q then x else F j) j) = true) := Lib.hid fun j hj => by
          show Lib.itoa (if j = q then x else F j) = _ ∧ fine (if j = q then x else F j) = true
          by_cases hjk : j = q
          · rw [if_pos hjk, hjk, HX.out]; exact HFX.out
          · rw [if_neg hjk]; exact HF.out j (by omega)
        go_wp2_with fail
        go_roundw
        case rel => exact ⟨q + 1, _, by go_num, by omega, hR3, HF2, hb3⟩
        case measure => simp [intOf]; omega
      · replace KN := Lib.hid KN
        have HNO := Lib.hid hno
        clear hno
        go_wp2_with fail
        refine KN.out.mono ?_
        rintro e w2 ⟨rfl, hb⟩
        have hb2 := hb1.trans (hb.mono hb1.size)
        go_wp2_with fail
        go_ret2
        exact ⟨none, 0, 0, 5, rfl, .inr ⟨rfl, rfl, t, HM.out, HNO.out⟩, by decide, hb2⟩
    · have e2 : ¬ (q : Int) < (n : Int) := by omega
      obtain rfl : q = n := by omega
      have hlr : ((List.range q).map F).length = q := by simp
      have hg : ∀ j, j < q → F j = ((List.range q).map F).getD j 0 := fun j hj => by simp [List.getD_eq_getElem?_getD, hj]
      have hS : Sl wr (some ⟨W.heap.size + 1, 0, none⟩) q ((List.range q).map F) := hR1.sl hlr hg
      have hm : ((List.range q).map F).map Lib.itoa = es := by
        refine List.ext_getElem (by rw [List.length_map, hlr]; exact HN.out) fun j h1 h2 => ?_
        rw [List.length_map, hlr] at h1
        have := (HF.out j h1).1
        rw [List.getD_eq_getElem?_getD, List.getElem?_eq_getElem h2] at this
        simpa using this
      have hfa : ∀ x ∈ (List.range q).map F, fine x = true := fun x hx => by
        obtain ⟨j, hj, rfl⟩ := List.mem_map.1 hx
        exact (HF.out j (List.mem_range.1 hj)).2
      have HAll := Lib.hid (And.intro hm (And.intro hfa hS))
      clear hS hR1 hm hfa hlr hg
      go_wp2_with fail
      go_ret2
      exact ⟨_, _, _, 0, rfl, .inl ⟨rfl, _, HAll.out⟩, ⟨Nat.le_refl _, hn⟩, hb1⟩
end Go.Proofs.YtomkjmhebnecbaaGreatDoor

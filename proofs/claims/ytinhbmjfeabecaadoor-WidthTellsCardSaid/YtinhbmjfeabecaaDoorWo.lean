import Derived.Test.YtinhbmjfeabecaaDoorWx
namespace Go.Proofs.YtinhbmjfeabecaaDoor
open Go.RowKit

theorem foldl_max (a b : Int) (l : List Int) : l.foldl max (max a b) = max a (l.foldl max b) := by
  induction l generalizing b with
  | nil => rfl
  | cons c r ih => simp only [List.foldl_cons]; rw [Int.max_assoc, ih]
theorem foldl_max_head (a : Int) {l : List Int} (h : l ≠ []) : l.foldl max a = max a (Lib.maxOf l) := by
  cases l with
  | nil => exact absurd rfl h
  | cons y r =>
    unfold Lib.maxOf
    simp only [List.foldl_cons, List.headD_cons, Int.max_self]
    exact foldl_max a y r
theorem maxOf_append {l k : List Int} (hl : l ≠ []) (hk : k ≠ []) : Lib.maxOf (l ++ k) = max (Lib.maxOf l) (Lib.maxOf k) := by
  have e : (l ++ k).headD 0 = l.headD 0 := by cases l with
    | nil => exact absurd rfl hl
    | cons y r => rfl
  unfold Lib.maxOf
  rw [e, List.foldl_append, foldl_max_head _ hk]
  rfl
theorem infoInt : (Tryd.prog.info? 3).map (fun i => (i.zero, i.size, i.bytes)) = some (some (.int .i64 0), 1, 8) := by kernel_rfl
/-- A slice's ints, read. -/
def IntsAt (W : World) (b off n : Nat) (l : List Int) : Prop := l.length = n ∧ ∀ j, j < n → W.cell? ⟨b, off + j, none⟩ = some (.int .i64 (l.getD j 0))
theorem IntsAt.below {W W' : World} {b off n : Nat} {l : List Int} (h : IntsAt W b off n l) (hb : Below W.heap.size W W') : IntsAt W' b off n l :=
  ⟨h.1, fun j hj => (hb.cell (show (⟨b, off + j, none⟩ : Addr).block < W.heap.size from Lib.lt_of_cell (h.2 j hj))).trans (h.2 j hj)⟩
theorem Max_ints {W : World} {b off n c : Nat} {l : List Int} (h : IntsAt W b off n l) (hn : 0 < n) (hm : n ≤ maxLen) :
    Calls Tryd.prog 14 #[.slice (some ⟨b, off, none⟩) n c] W fun e W' => e = .returned (.int .i64 (Lib.maxOf l)) ∧ W = W' := by
  have := Max_some b off n c l W hn (by rw [h.1]; exact Nat.le_refl _) (by unfold maxLen at hm; omega) (fun j hj => h.2 j (by rw [← h.1]; exact hj))
  rwa [List.take_of_length_le (by rw [h.1]; exact Nat.le_refl _)] at this
theorem owns_ints {W : World} {base n : Nat} {v : Value} {l : List Int} (h : W.ownsRow base 3 1 v n (l.map (Value.int .i64))) (hn : 0 < n) : ∃ g cap, v = .slice (some ⟨g, 0, none⟩) n cap ∧ IntsAt W g 0 n l := by
  obtain ⟨hl, h⟩ := h
  rw [List.length_map, Nat.mul_one] at hl
  rcases h with ⟨_, h⟩ | ⟨g, cap, cur, rfl, _, hg, _, _, _, ht⟩
  · omega
  · refine ⟨g, cap, rfl, hl, fun j hj => ?_⟩
    rw [Nat.mul_one] at ht
    rw [Nat.zero_add, cell_of_row W g j cur _ _ hg, ← Array.getElem?_toList]
    have e : cur.toList[j]? = (cur.toList.take n)[j]? := by rw [List.getElem?_take_of_lt hj]
    rw [e, ht, List.getElem?_map, List.getElem?_eq_getElem (by omega)]
    simp [List.getElem?_eq_getElem (show j < l.length by omega)]
theorem ints_news {W : World} {b off n : Nat} {l : List Int} (h : IntsAt W b off n l) : ∀ j u, (l.map (Value.int .i64))[j]? = some u → W.cell? ((⟨b, off, none⟩ : Addr).add j) = some u := by
  intro j u hj
  rw [List.getElem?_map, Option.map_eq_some_iff] at hj
  obtain ⟨x, hx, rfl⟩ := hj
  obtain ⟨hlt, rfl⟩ := List.getElem?_eq_some_iff.1 hx
  rw [Lib.add_plain, h.2 j (by rw [← h.1]; exact hlt)]
  simp [List.getElem?_eq_getElem hlt]
theorem ints_one (l : List Int) : ∀ u ∈ l.map (Value.int .i64), u.oneCell' = true := by
  intro u hu
  obtain ⟨x, _, rfl⟩ := List.mem_map.1 hu
  rfl
set_option maxRecDepth 10000 in
set_option maxHeartbeats 3200000 in
theorem order_some (w n : Int) (b1 o1 n1 c1 b2 o2 n2 c2 : Nat) (l k : List Int) (W : World) (ht : WT W) (h1 : IntsAt W b1 o1 n1 l) (h2 : IntsAt W b2 o2 n2 k) (p1 : 0 < n1) (p2 : 0 < n2) (q1 : n1 ≤ 100) (q2 : n2 ≤ 100)
    (HN : NextIs w n) (HM : NextIs 128 128) (hn : n = 128 ∨ n ≠ 128 ∧ w < n) :
    Calls Tryd.prog 8 #[.int .i64 w, .slice (some ⟨b1, o1, none⟩) n1 c1, .slice (some ⟨b2, o2, none⟩) n2 c2] W (TrueEnd W) := by
  have KT := Lib.hid ht
  have KN := Lib.hid HN
  have KM := Lib.hid HM
  have K1 := Lib.hid h1
  have K2 := Lib.hid h2
  have Kn := Lib.hid hn
  clear HN HM hn ht h1 h2
  have e1 : ¬ (100 : Int) < (n1 : Int) := by omega
  have e2 : ¬ (100 : Int) < (n2 : Int) := by omega
  have e3 : ((n1 : Int) == 0) = false := beq_eq_false_iff_ne.2 (by omega)
  have e4 : ((n2 : Int) == 0) = false := beq_eq_false_iff_ne.2 (by omega)
  go_enter Tryd.func8, Tryd.ntmps8
  go_wp2_with fail
  refine (shown_w _ KT.out).mono ?_
  rintro e w1 ⟨rfl, hb1⟩
  go_wp2_with fail
  refine (KN.out _ (KT.out.below hb1).wid).mono ?_
  rintro e w9 ⟨rfl, rfl⟩
  obtain ⟨i0, hi, hz0, hz1, hz2⟩ := info_parts infoInt
  have a1 := K1.out.below hb1
  have hown : (w1.alloc (.cells #[] 3)).ownsRow W.heap.size 3 1 (.slice (some ⟨w1.heap.size, 0, none⟩) 0 0) 0 ([].map (Value.int .i64)) :=
    ⟨rfl, .inr ⟨w1.heap.size, 0, #[], rfl, hb1.size, by show (w1.heap.push _)[w1.heap.size]? = _; simp, Nat.le_refl _, Nat.zero_le _, rfl, rfl⟩⟩
  go_wp2_with (at_builtin; refine wpList_append_own _ rfl (.tmp 36) (.tmp 37) 22 rfl W.heap.size 3 i0 (.int .i64 0) 1 8 Tryd.underlying22 hi hz0 hz1 hz2 rfl (by decide) _ _ _ rfl hown ⟨b1, o1, none⟩ n1 c1 (l.map (Value.int .i64)) rfl ?c1 ?c2 ?c3 ?c4 ?c5 ?c6 ?_)
  case c1 => rw [List.length_map, a1.1, Nat.mul_one]
  case c2 => exact ints_news (a1.below ((Below.refl _ _).alloc (Nat.le_refl _) _))
  case c3 => exact ints_one l
  case c4 => unfold maxLen; omega
  case c5 => omega
  case c6 => have := hb1.size; show _ ≤ (w1.heap.push _).size; simp; omega
  intro v1 w2 hown2 hg2 _
  have hb2 : Below W.heap.size W w2 := (hb1.alloc hb1.size _).grown hg2 (by have := hb1.size; show _ ≤ (w1.heap.push _).size; simp; omega) (fun q hq => (hown.lt q hq).1)
  clear hown hg2 hb1 a1
  have a2 := K2.out.below hb2
  go_wp2_with (at_builtin; refine wpList_append_own _ rfl (.tmp 38) (.tmp 39) 22 rfl W.heap.size 3 i0 (.int .i64 0) 1 8 Tryd.underlying22 hi hz0 hz1 hz2 rfl (by decide) _ _ _ rfl hown2 ⟨b2, o2, none⟩ n2 c2 (k.map (Value.int .i64)) rfl ?d1 ?d2 ?d3 ?d4 ?d5 ?d6 ?_)
  case d1 => rw [List.length_map, a2.1, Nat.mul_one]
  case d2 => exact ints_news a2
  case d3 => exact ints_one k
  case d4 => unfold maxLen; omega
  case d5 => omega
  case d6 => exact hb2.size
  intro v2 w3 hown3 hg3 _
  have hb3 : Below W.heap.size W w3 := hb2.grown hg3 hb2.size (fun q hq => (hown2.lt q hq).1)
  clear hown2 hg3 hb2 a2
  rw [← List.map_append] at hown3
  obtain ⟨g, cap, rfl, h3⟩ := owns_ints hown3 (by omega)
  have l1 : l ≠ [] := by intro h; have := K1.out.1; rw [h] at this; simp at this; omega
  have l2 : k ≠ [] := by intro h; have := K2.out.1; rw [h] at this; simp at this; omega
  have em := maxOf_append l1 l2
  have M1 := Lib.hid (Max_ints (c := c1) (K1.out.below hb3) p1 (by unfold maxLen; omega))
  have M2 := Lib.hid (Max_ints (c := c2) (K2.out.below hb3) p2 (by unfold maxLen; omega))
  have M3 := Lib.hid (Max_ints (c := cap) h3 (by omega) (by unfold maxLen; omega))
  have KW := Lib.hid (KT.out.below hb3).wid
  clear h3 hown3 l1 l2
  generalize Lib.maxOf (l ++ k) = m3 at M3 em
  generalize Lib.maxOf l = m1 at M1 em
  generalize Lib.maxOf k = m2 at M2 em
  have hn := Kn.out
  clear Kn
  have KE := Lib.hid em
  clear em
  rcases hn with rfl | ⟨hne, hlt⟩
  · go_wp2_with fail
    refine (KM.out _ KW.out).mono ?_
    rintro e w9 ⟨rfl, rfl⟩
    go_wp2_with fail
    refine (M3.out).mono ?_
    rintro e w9 ⟨rfl, rfl⟩
    go_wp2_with fail
    refine (M1.out).mono ?_
    rintro e w9 ⟨rfl, rfl⟩
    go_wp2_with fail
    refine (M2.out).mono ?_
    rintro e w9 ⟨rfl, rfl⟩
    have em := KE.out
    go_wp2_with fail
    go_ret
    exact ⟨rfl, hb3⟩
  · have e5 : (n == 128) = false := beq_eq_false_iff_ne.2 hne
    go_wp2_with fail
    refine (KM.out _ KW.out).mono ?_
    rintro e w9 ⟨rfl, rfl⟩
    go_wp2_with fail
    refine (M3.out).mono ?_
    rintro e w9 ⟨rfl, rfl⟩
    go_wp2_with fail
    refine (M1.out).mono ?_
    rintro e w9 ⟨rfl, rfl⟩
    go_wp2_with fail
    refine (M2.out).mono ?_
    rintro e w9 ⟨rfl, rfl⟩
    have em := KE.out
    go_wp2_with fail
    go_ret
    exact ⟨rfl, hb3⟩
set_option maxRecDepth 10000 in
set_option maxHeartbeats 3200000 in
theorem order_none (w : Int) (a1 a2 : Option Addr) (n1 c1 n2 c2 : Nat) (W : World) (ht : WT W) (h : 100 < n1 ∨ 100 < n2 ∨ n1 = 0 ∨ n2 = 0) :
    Calls Tryd.prog 8 #[.int .i64 w, .slice a1 n1 c1, .slice a2 n2 c2] W (TrueEnd W) := by
  have KT := Lib.hid ht
  clear ht
  by_cases h1 : 100 < n1
  · clear h
    have e1 : (100 : Int) < (n1 : Int) := by omega
    go_enter Tryd.func8, Tryd.ntmps8
    go_wp2_with fail
    refine (shown_w _ KT.out).mono ?_
    rintro e w1 ⟨rfl, hb1⟩
    go_wp2_with fail
    refine (Max_none _).mono ?_
    rintro e w9 ⟨rfl, rfl⟩
    go_wp2_with fail
    go_ret
    exact ⟨rfl, hb1⟩
  by_cases h2 : 100 < n2
  · clear h
    have e1 : ¬ (100 : Int) < (n1 : Int) := by omega
    have e2 : (100 : Int) < (n2 : Int) := by omega
    go_enter Tryd.func8, Tryd.ntmps8
    go_wp2_with fail
    refine (shown_w _ KT.out).mono ?_
    rintro e w1 ⟨rfl, hb1⟩
    go_wp2_with fail
    refine (Max_none _).mono ?_
    rintro e w9 ⟨rfl, rfl⟩
    go_wp2_with fail
    go_ret
    exact ⟨rfl, hb1⟩
  have h : n1 = 0 ∨ n2 = 0 := by omega
  have e1 : ¬ (100 : Int) < (n1 : Int) := by omega
  have e2 : ¬ (100 : Int) < (n2 : Int) := by omega
  by_cases h3 : n1 = 0
  · clear h
    subst h3
    go_enter Tryd.func8, Tryd.ntmps8
    go_wp2_with fail
    refine (shown_w _ KT.out).mono ?_
    rintro e w1 ⟨rfl, hb1⟩
    go_wp2_with fail
    refine (Max_none _).mono ?_
    rintro e w9 ⟨rfl, rfl⟩
    go_wp2_with fail
    go_ret
    exact ⟨rfl, hb1⟩
  · have h4 : n2 = 0 := by omega
    clear h
    subst h4
    have e3 : ((n1 : Int) == 0) = false := beq_eq_false_iff_ne.2 (by omega)
    go_enter Tryd.func8, Tryd.ntmps8
    go_wp2_with fail
    refine (shown_w _ KT.out).mono ?_
    rintro e w1 ⟨rfl, hb1⟩
    go_wp2_with fail
    refine (Max_none _).mono ?_
    rintro e w9 ⟨rfl, rfl⟩
    go_wp2_with fail
    go_ret
    exact ⟨rfl, hb1⟩
/-- What a row's slice of ints is: empty, or ints that lie there. -/
def Ints (W : World) (a : Option Addr) (n : Nat) : Prop := n = 0 ∨ ∃ b off l, a = some ⟨b, off, none⟩ ∧ 0 < n ∧ n ≤ maxLen ∧ IntsAt W b off n l
theorem order_any (w : Int) (a1 a2 : Option Addr) (n1 c1 n2 c2 : Nat) (W : World) (ht : WT W) (h1 : Ints W a1 n1) (h2 : Ints W a2 n2) :
    Calls Tryd.prog 8 #[.int .i64 w, .slice a1 n1 c1, .slice a2 n2 c2] W (TrueEnd W) := by
  by_cases h : 100 < n1 ∨ 100 < n2 ∨ n1 = 0 ∨ n2 = 0
  · exact order_none w a1 a2 n1 c1 n2 c2 W ht h
  · rcases h1 with h1 | ⟨b1, o1, l, rfl, p1, _, h1⟩
    · omega
    rcases h2 with h2 | ⟨b2, o2, k, rfl, p2, _, h2⟩
    · omega
    refine order_some w (nextW w) b1 o1 n1 c1 b2 o2 n2 c2 l k W ht h1 h2 p1 p2 (by omega) (by omega) (next_is w) (next_is 128) ?_
    unfold nextW
    split
    · right; omega
    · split
      · right; omega
      · split
        · right; omega
        · exact .inl rfl
end Go.Proofs.YtinhbmjfeabecaaDoor

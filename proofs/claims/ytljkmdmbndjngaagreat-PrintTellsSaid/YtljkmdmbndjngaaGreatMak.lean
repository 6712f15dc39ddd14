import Derived.Test.YtljkmdmbndjngaaGreatMaj
import Derived.Deep.DeepCutAuto
/-
  Whether a node may be: of the program, kind by kind.
-/
namespace Go.Proofs.YtljkmdmbndjngaaGreat
set_option linter.unusedVariables false
set_option linter.unusedSimpArgs false
open Go.RowKit

theorem Bd.set3 {W : World} {i : Nat} {k : Int} {v a x : ByteArray} {g : Option Addr} {m c : Nat} (h : Bd W i k v a x g m c) (y : ByteArray) : Bd (W.setCell ⟨i, 3, none⟩ (.string y)) i k v a y g m c := by
  unfold Bd at h ⊢
  simp [World.setCell, Array.getElem?_modify, h]
theorem Bd.set12 {W : World} {i : Nat} {k : Int} {v a x : ByteArray} {g : Option Addr} {m c : Nat} (h : Bd W i k v a x g m c) (y z : ByteArray) : Bd ((W.setCell ⟨i, 1, none⟩ (.string y)).setCell ⟨i, 2, none⟩ (.string z)) i k y z x g m c := by
  unfold Bd at h ⊢
  simp [World.setCell, Array.getElem?_modify, h]
theorem Bd.set4 {W : World} {i : Nat} {k : Int} {v a x : ByteArray} {g : Option Addr} {m c : Nat} (h : Bd W i k v a x g m c) (g' : Option Addr) (m' c' : Nat) : Bd (W.setCell ⟨i, 4, none⟩ (.slice g' m' c')) i k v a x g' m' c' := by
  unfold Bd at h ⊢
  simp [World.setCell, Array.getElem?_modify, h]
theorem calls_two {f : FuncId} {args : Array Value} {wb w : World} {v : Value} (hb : Below wb.heap.size wb w) (h : Calls Tryz.prog f args w (ValEnd v w)) : Calls Tryz.prog f args w fun e W' => e = .returned v ∧ Below wb.heap.size wb W' ∧ Below w.heap.size w W' :=
  h.mono fun _ _ ⟨h1, h2⟩ => ⟨h1, hb.trans (h2.mono hb.size), h2⟩
theorem Bd.kept {W W' : World} {i : Nat} {k : Int} {v a x : ByteArray} {g : Option Addr} {m c : Nat} (hb : Below W.heap.size W W') (h : Bd W i k v a x g m c) : Bd W' i k v a x g m c := h.on hb
theorem Bd.drew {W : World} {i : Nat} {k : Int} {v a x : ByteArray} {g : Option Addr} {m c : Nat} (h : Bd W i k v a x g m c) : Bd W.drew i k v a x g m c := h
set_option maxHeartbeats 3200000 in
theorem mayBe_name (v a x : ByteArray) (g : Option Addr) (m c : Nat) (ns : List ByteArray) (W : World) (hd : (Nd.mk 2 v a x g m c ns).on W) :
    Calls Tryz.prog 19 #[.agg #[.int .i64 2, .string v, .string a, .string x, .slice g m c]] W (ValEnd (.bool (prt x 2 && smN ⟨2, v, a, x, g, m, c, ns⟩ ⟨2, ⟨#[]⟩, ⟨#[]⟩, x, none, 0, 0, []⟩)) W) := by
  have hb0 := box_below W (.cells #[.int .i64 2, .string v, .string a, .string x, .slice g m c] 37)
  have hA := Bd.new W 2 v a x g m c
  have KP := fun w => isPart_is x 2 (maxLen_le hd.xz) w
  obtain ⟨w1, hw1⟩ : ∃ w1, w1 = W.alloc (.cells #[.int .i64 2, .string v, .string a, .string x, .slice g m c] 37) := ⟨_, rfl⟩
  rw [← hw1] at hb0 hA
  have hw : W.heap.size + 1 = w1.heap.size := by rw [hw1]; simp
  have a0 := hA.c0
  have z0 := (hA.alloc (.cells #[.int .i64 0, .string ⟨#[]⟩, .string ⟨#[]⟩, .string ⟨#[]⟩, .slice none 0 0] 37)).c0
  have K0 := fun w (hd' : (Nd.mk 2 v a x g m c ns).on w) (he' : (⟨2, ⟨#[]⟩, ⟨#[]⟩, x, none, 0, 0, []⟩ : Nd).on w) => same_is _ _ w hd' he'
  generalize smN ⟨2, v, a, x, g, m, c, ns⟩ ⟨2, ⟨#[]⟩, ⟨#[]⟩, x, none, 0, 0, []⟩ = r at *
  generalize prt x 2 = p at *
  replace K0 := Lib.hid K0
  replace KP := Lib.hid KP
  have HD := Lib.hid hd
  have HW1 := Lib.hid hw1
  have HW := Lib.hid hw
  clear hd hw1 hw
  go_enter Tryz.func19, Tryz.ntmps19
  go_wp2_with fail
  rw [← HW1.out]
  go_region
  obtain ⟨w2, hw2⟩ : ∃ w2, w2 = (w1.alloc (.cells #[.int .i64 2, .string ⟨#[]⟩, .string ⟨#[]⟩, .string ⟨#[]⟩, .slice none 0 0] 37)).drew := ⟨_, rfl⟩
  rw [← hw2]
  have hB : Bd w2 w1.heap.size 2 ⟨#[]⟩ ⟨#[]⟩ ⟨#[]⟩ none 0 0 := by rw [hw2]; exact (Bd.new w1 2 ⟨#[]⟩ ⟨#[]⟩ ⟨#[]⟩ none 0 0).drew
  have hq : Below w1.heap.size w1 w2 := by rw [hw2]; exact ((Below.refl _ w1).alloc (Nat.le_refl _) _).drew
  have hA2 := hA.on hq
  have l0 := hA.lt
  have b0 := hA2.c0
  have a3 := hA.c3
  have b3 := hA2.c3
  have f3 := hB.f 3
  have KQ := Lib.hid (fun w' (hb : Below w1.heap.size w1 w') => calls_two hb (KP.out w'))
  generalize hi : w1.heap.size = i at *
  clear hw2 a0 z0 KP
  go_upto_region 8 with fail
  go_region_held3 (fun w' => w'.cell? ⟨W.heap.size, 3, none⟩ = some (.string x))
    (first | exact (Below.cell (p := ⟨W.heap.size, 3, none⟩) (by repeat' (first | exact hq | refine Below.drew ?_ | refine Below.setCell ?_ ?_ _ | exact Nat.le_refl _)) l0).trans a3 | fail)
    (first
      | (go_at_call 43; (with_reducible refine (KQ.out _ (by repeat' (first | exact hq | refine Below.drew ?_))).mono ?_); rintro e wa ⟨rfl, hq, hr⟩; have hBa := Bd.kept (k := 2) (v := ⟨#[]⟩) (a := ⟨#[]⟩) (x := ⟨#[]⟩) (g := none) (m := 0) (c := 0) (i := i) hr (by first | exact hB | exact hB.drew); have fa := hBa.f 3; have ca := hBa.c3))
  have hb3 : Below i w1 (wa.setCell ⟨i, 3, none⟩ (.string x)) := hq.setCell (Nat.le_refl i) _
  have hA3 := hA.below hb3 l0
  have hB3 := hBa.set3 x
  have hbW : Below W.heap.size W (wa.setCell ⟨i, 3, none⟩ (.string x)) := hb0.trans (hb3.mono (by have := HW.out; omega))
  generalize wa.setCell ⟨i, 3, none⟩ (.string x) = wb at *
  have KS := Lib.hid (K0.out wb (HD.out.below hbW) ⟨St.nil _ _, Nat.le_refl _, Nat.zero_le _, HD.out.k0, HD.out.k1, Nat.zero_le _, Nat.zero_le _, HD.out.xz, fun s hs => by cases hs⟩)
  have u0 := hA3.c0
  have u1 := hA3.c1
  have u2 := hA3.c2
  have u3 := hA3.c3
  have u4 := hA3.c4
  have y0 := hB3.c0
  have y1 := hB3.c1
  have y2 := hB3.c2
  have y3 := hB3.c3
  have y4 := hB3.c4
  clear K0 HD HW HW1 hA hA3 hB hB3 hA2 hb0 hb3 hBa fa ca hr KQ f3 b0 b3 a3 hi
  cases p
  · go_wp2_with fail
    go_ret
    exact ⟨rfl, hbW⟩
  · cases r
    all_goals
      go_wp2_with fail
      refine KS.out.mono ?_
      rintro e w9 ⟨rfl, hb⟩
      replace hbW := hbW.trans (hb.mono hbW.size)
      clear u0 u1 u2 u3 u4 y0 y1 y2 y3 y4 hb KS
      go_wp2_with fail
      go_ret
      exact ⟨rfl, hbW⟩
set_option maxHeartbeats 3200000 in
theorem mayBe_assign (v a x : ByteArray) (g : Option Addr) (m c : Nat) (ns : List ByteArray) (W : World) (hd : (Nd.mk 5 v a x g m c ns).on W) :
    Calls Tryz.prog 19 #[.agg #[.int .i64 5, .string v, .string a, .string x, .slice g m c]] W (ValEnd (.bool (prt x 2 && smN ⟨5, v, a, x, g, m, c, ns⟩ ⟨5, ⟨#[]⟩, ⟨#[]⟩, x, none, 0, 0, []⟩)) W) := by
  have hb0 := box_below W (.cells #[.int .i64 5, .string v, .string a, .string x, .slice g m c] 37)
  have hA := Bd.new W 5 v a x g m c
  have KP := fun w => isPart_is x 2 (maxLen_le hd.xz) w
  obtain ⟨w1, hw1⟩ : ∃ w1, w1 = W.alloc (.cells #[.int .i64 5, .string v, .string a, .string x, .slice g m c] 37) := ⟨_, rfl⟩
  rw [← hw1] at hb0 hA
  have hw : W.heap.size + 1 = w1.heap.size := by rw [hw1]; simp
  have a0 := hA.c0
  have z0 := (hA.alloc (.cells #[.int .i64 0, .string ⟨#[]⟩, .string ⟨#[]⟩, .string ⟨#[]⟩, .slice none 0 0] 37)).c0
  have K0 := fun w (hd' : (Nd.mk 5 v a x g m c ns).on w) (he' : (⟨5, ⟨#[]⟩, ⟨#[]⟩, x, none, 0, 0, []⟩ : Nd).on w) => same_is _ _ w hd' he'
  generalize smN ⟨5, v, a, x, g, m, c, ns⟩ ⟨5, ⟨#[]⟩, ⟨#[]⟩, x, none, 0, 0, []⟩ = r at *
  generalize prt x 2 = p at *
  replace K0 := Lib.hid K0
  replace KP := Lib.hid KP
  have HD := Lib.hid hd
  have HW1 := Lib.hid hw1
  have HW := Lib.hid hw
  clear hd hw1 hw
  go_enter Tryz.func19, Tryz.ntmps19
  go_wp2_with fail
  rw [← HW1.out]
  go_region
  obtain ⟨w2, hw2⟩ : ∃ w2, w2 = (w1.alloc (.cells #[.int .i64 5, .string ⟨#[]⟩, .string ⟨#[]⟩, .string ⟨#[]⟩, .slice none 0 0] 37)).drew := ⟨_, rfl⟩
  rw [← hw2]
  have hB : Bd w2 w1.heap.size 5 ⟨#[]⟩ ⟨#[]⟩ ⟨#[]⟩ none 0 0 := by rw [hw2]; exact (Bd.new w1 5 ⟨#[]⟩ ⟨#[]⟩ ⟨#[]⟩ none 0 0).drew
  have hq : Below w1.heap.size w1 w2 := by rw [hw2]; exact ((Below.refl _ w1).alloc (Nat.le_refl _) _).drew
  have hA2 := hA.on hq
  have l0 := hA.lt
  have b0 := hA2.c0
  have a3 := hA.c3
  have b3 := hA2.c3
  have f3 := hB.f 3
  have KQ := Lib.hid (fun w' (hb : Below w1.heap.size w1 w') => calls_two hb (KP.out w'))
  generalize hi : w1.heap.size = i at *
  clear hw2 a0 z0 KP
  go_upto_region 8 with fail
  go_region_held3 (fun w' => w'.cell? ⟨W.heap.size, 3, none⟩ = some (.string x))
    (first | exact (Below.cell (p := ⟨W.heap.size, 3, none⟩) (by repeat' (first | exact hq | refine Below.drew ?_ | refine Below.setCell ?_ ?_ _ | exact Nat.le_refl _)) l0).trans a3 | fail)
    (first
      | (go_at_call 43; (with_reducible refine (KQ.out _ (by repeat' (first | exact hq | refine Below.drew ?_))).mono ?_); rintro e wa ⟨rfl, hq, hr⟩; have hBa := Bd.kept (k := 5) (v := ⟨#[]⟩) (a := ⟨#[]⟩) (x := ⟨#[]⟩) (g := none) (m := 0) (c := 0) (i := i) hr (by first | exact hB | exact hB.drew); have fa := hBa.f 3; have ca := hBa.c3))
  have hb3 : Below i w1 (wa.setCell ⟨i, 3, none⟩ (.string x)) := hq.setCell (Nat.le_refl i) _
  have hA3 := hA.below hb3 l0
  have hB3 := hBa.set3 x
  have hbW : Below W.heap.size W (wa.setCell ⟨i, 3, none⟩ (.string x)) := hb0.trans (hb3.mono (by have := HW.out; omega))
  generalize wa.setCell ⟨i, 3, none⟩ (.string x) = wb at *
  have KS := Lib.hid (K0.out wb (HD.out.below hbW) ⟨St.nil _ _, Nat.le_refl _, Nat.zero_le _, HD.out.k0, HD.out.k1, Nat.zero_le _, Nat.zero_le _, HD.out.xz, fun s hs => by cases hs⟩)
  have u0 := hA3.c0
  have u1 := hA3.c1
  have u2 := hA3.c2
  have u3 := hA3.c3
  have u4 := hA3.c4
  have y0 := hB3.c0
  have y1 := hB3.c1
  have y2 := hB3.c2
  have y3 := hB3.c3
  have y4 := hB3.c4
  clear K0 HD HW HW1 hA hA3 hB hB3 hA2 hb0 hb3 hBa fa ca hr KQ f3 b0 b3 a3 hi
  cases p
  · go_wp2_with fail
    go_ret
    exact ⟨rfl, hbW⟩
  · cases r
    all_goals
      go_wp2_with fail
      refine KS.out.mono ?_
      rintro e w9 ⟨rfl, hb⟩
      replace hbW := hbW.trans (hb.mono hbW.size)
      clear u0 u1 u2 u3 u4 y0 y1 y2 y3 y4 hb KS
      go_wp2_with fail
      go_ret
      exact ⟨rfl, hbW⟩
set_option maxHeartbeats 3200000 in
theorem mayBe_amend (v a x : ByteArray) (g : Option Addr) (m c : Nat) (ns : List ByteArray) (W : World) (hd : (Nd.mk 6 v a x g m c ns).on W) :
    Calls Tryz.prog 19 #[.agg #[.int .i64 6, .string v, .string a, .string x, .slice g m c]] W (ValEnd (.bool (prt x 2 && smN ⟨6, v, a, x, g, m, c, ns⟩ ⟨6, ⟨#[]⟩, ⟨#[]⟩, x, none, 0, 0, []⟩)) W) := by
  have hb0 := box_below W (.cells #[.int .i64 6, .string v, .string a, .string x, .slice g m c] 37)
  have hA := Bd.new W 6 v a x g m c
  have KP := fun w => isPart_is x 2 (maxLen_le hd.xz) w
  obtain ⟨w1, hw1⟩ : ∃ w1, w1 = W.alloc (.cells #[.int .i64 6, .string v, .string a, .string x, .slice g m c] 37) := ⟨_, rfl⟩
  rw [← hw1] at hb0 hA
  have hw : W.heap.size + 1 = w1.heap.size := by rw [hw1]; simp
  have a0 := hA.c0
  have z0 := (hA.alloc (.cells #[.int .i64 0, .string ⟨#[]⟩, .string ⟨#[]⟩, .string ⟨#[]⟩, .slice none 0 0] 37)).c0
  have K0 := fun w (hd' : (Nd.mk 6 v a x g m c ns).on w) (he' : (⟨6, ⟨#[]⟩, ⟨#[]⟩, x, none, 0, 0, []⟩ : Nd).on w) => same_is _ _ w hd' he'
  generalize smN ⟨6, v, a, x, g, m, c, ns⟩ ⟨6, ⟨#[]⟩, ⟨#[]⟩, x, none, 0, 0, []⟩ = r at *
  generalize prt x 2 = p at *
  replace K0 := Lib.hid K0
  replace KP := Lib.hid KP
  have HD := Lib.hid hd
  have HW1 := Lib.hid hw1
  have HW := Lib.hid hw
  clear hd hw1 hw
  go_enter Tryz.func19, Tryz.ntmps19
  go_wp2_with fail
  rw [← HW1.out]
  go_region
  obtain ⟨w2, hw2⟩ : ∃ w2, w2 = (w1.alloc (.cells #[.int .i64 6, .string ⟨#[]⟩, .string ⟨#[]⟩, .string ⟨#[]⟩, .slice none 0 0] 37)).drew := ⟨_, rfl⟩
  rw [← hw2]
  have hB : Bd w2 w1.heap.size 6 ⟨#[]⟩ ⟨#[]⟩ ⟨#[]⟩ none 0 0 := by rw [hw2]; exact (Bd.new w1 6 ⟨#[]⟩ ⟨#[]⟩ ⟨#[]⟩ none 0 0).drew
  have hq : Below w1.heap.size w1 w2 := by rw [hw2]; exact ((Below.refl _ w1).alloc (Nat.le_refl _) _).drew
  have hA2 := hA.on hq
  have l0 := hA.lt
  have b0 := hA2.c0
  have a3 := hA.c3
  have b3 := hA2.c3
  have f3 := hB.f 3
  have KQ := Lib.hid (fun w' (hb : Below w1.heap.size w1 w') => calls_two hb (KP.out w'))
  generalize hi : w1.heap.size = i at *
  clear hw2 a0 z0 KP
  go_upto_region 8 with fail
  go_region_held3 (fun w' => w'.cell? ⟨W.heap.size, 3, none⟩ = some (.string x))
    (first | exact (Below.cell (p := ⟨W.heap.size, 3, none⟩) (by repeat' (first | exact hq | refine Below.drew ?_ | refine Below.setCell ?_ ?_ _ | exact Nat.le_refl _)) l0).trans a3 | fail)
    (first
      | (go_at_call 43; (with_reducible refine (KQ.out _ (by repeat' (first | exact hq | refine Below.drew ?_))).mono ?_); rintro e wa ⟨rfl, hq, hr⟩; have hBa := Bd.kept (k := 6) (v := ⟨#[]⟩) (a := ⟨#[]⟩) (x := ⟨#[]⟩) (g := none) (m := 0) (c := 0) (i := i) hr (by first | exact hB | exact hB.drew); have fa := hBa.f 3; have ca := hBa.c3))
  have hb3 : Below i w1 (wa.setCell ⟨i, 3, none⟩ (.string x)) := hq.setCell (Nat.le_refl i) _
  have hA3 := hA.below hb3 l0
  have hB3 := hBa.set3 x
  have hbW : Below W.heap.size W (wa.setCell ⟨i, 3, none⟩ (.string x)) := hb0.trans (hb3.mono (by have := HW.out; omega))
  generalize wa.setCell ⟨i, 3, none⟩ (.string x) = wb at *
  have KS := Lib.hid (K0.out wb (HD.out.below hbW) ⟨St.nil _ _, Nat.le_refl _, Nat.zero_le _, HD.out.k0, HD.out.k1, Nat.zero_le _, Nat.zero_le _, HD.out.xz, fun s hs => by cases hs⟩)
  have u0 := hA3.c0
  have u1 := hA3.c1
  have u2 := hA3.c2
  have u3 := hA3.c3
  have u4 := hA3.c4
  have y0 := hB3.c0
  have y1 := hB3.c1
  have y2 := hB3.c2
  have y3 := hB3.c3
  have y4 := hB3.c4
  clear K0 HD HW HW1 hA hA3 hB hB3 hA2 hb0 hb3 hBa fa ca hr KQ f3 b0 b3 a3 hi
  cases p
  · go_wp2_with fail
    go_ret
    exact ⟨rfl, hbW⟩
  · cases r
    all_goals
      go_wp2_with fail
      refine KS.out.mono ?_
      rintro e w9 ⟨rfl, hb⟩
      replace hbW := hbW.trans (hb.mono hbW.size)
      clear u0 u1 u2 u3 u4 y0 y1 y2 y3 y4 hb KS
      go_wp2_with fail
      go_ret
      exact ⟨rfl, hbW⟩
set_option maxHeartbeats 3200000 in
theorem mayBe_define (v a x : ByteArray) (g : Option Addr) (m c : Nat) (ns : List ByteArray) (W : World) (hd : (Nd.mk 7 v a x g m c ns).on W) :
    Calls Tryz.prog 19 #[.agg #[.int .i64 7, .string v, .string a, .string x, .slice g m c]] W (ValEnd (.bool (prt x 3 && smN ⟨7, v, a, x, g, m, c, ns⟩ ⟨7, ⟨#[]⟩, ⟨#[]⟩, x, none, 0, 0, []⟩)) W) := by
  have hb0 := box_below W (.cells #[.int .i64 7, .string v, .string a, .string x, .slice g m c] 37)
  have hA := Bd.new W 7 v a x g m c
  have KP := fun w => isPart_is x 3 (maxLen_le hd.xz) w
  obtain ⟨w1, hw1⟩ : ∃ w1, w1 = W.alloc (.cells #[.int .i64 7, .string v, .string a, .string x, .slice g m c] 37) := ⟨_, rfl⟩
  rw [← hw1] at hb0 hA
  have hw : W.heap.size + 1 = w1.heap.size := by rw [hw1]; simp
  have a0 := hA.c0
  have z0 := (hA.alloc (.cells #[.int .i64 0, .string ⟨#[]⟩, .string ⟨#[]⟩, .string ⟨#[]⟩, .slice none 0 0] 37)).c0
  have K0 := fun w (hd' : (Nd.mk 7 v a x g m c ns).on w) (he' : (⟨7, ⟨#[]⟩, ⟨#[]⟩, x, none, 0, 0, []⟩ : Nd).on w) => same_is _ _ w hd' he'
  generalize smN ⟨7, v, a, x, g, m, c, ns⟩ ⟨7, ⟨#[]⟩, ⟨#[]⟩, x, none, 0, 0, []⟩ = r at *
  generalize prt x 3 = p at *
  replace K0 := Lib.hid K0
  replace KP := Lib.hid KP
  have HD := Lib.hid hd
  have HW1 := Lib.hid hw1
  have HW := Lib.hid hw
  clear hd hw1 hw
  go_enter Tryz.func19, Tryz.ntmps19
  go_wp2_with fail
  rw [← HW1.out]
  go_region
  obtain ⟨w2, hw2⟩ : ∃ w2, w2 = (w1.alloc (.cells #[.int .i64 7, .string ⟨#[]⟩, .string ⟨#[]⟩, .string ⟨#[]⟩, .slice none 0 0] 37)).drew := ⟨_, rfl⟩
  rw [← hw2]
  have hB : Bd w2 w1.heap.size 7 ⟨#[]⟩ ⟨#[]⟩ ⟨#[]⟩ none 0 0 := by rw [hw2]; exact (Bd.new w1 7 ⟨#[]⟩ ⟨#[]⟩ ⟨#[]⟩ none 0 0).drew
  have hq : Below w1.heap.size w1 w2 := by rw [hw2]; exact ((Below.refl _ w1).alloc (Nat.le_refl _) _).drew
  have hA2 := hA.on hq
  have l0 := hA.lt
  have b0 := hA2.c0
  have a3 := hA.c3
  have b3 := hA2.c3
  have f3 := hB.f 3
  have KQ := Lib.hid (fun w' (hb : Below w1.heap.size w1 w') => calls_two hb (KP.out w'))
  generalize hi : w1.heap.size = i at *
  clear hw2 a0 z0 KP
  go_upto_region 8 with fail
  go_region_held3 (fun w' => w'.cell? ⟨W.heap.size, 3, none⟩ = some (.string x))
    (first | exact (Below.cell (p := ⟨W.heap.size, 3, none⟩) (by repeat' (first | exact hq | refine Below.drew ?_ | refine Below.setCell ?_ ?_ _ | exact Nat.le_refl _)) l0).trans a3 | fail)
    (first
      | (go_at_call 43; (with_reducible refine (KQ.out _ (by repeat' (first | exact hq | refine Below.drew ?_))).mono ?_); rintro e wa ⟨rfl, hq, hr⟩; have hBa := Bd.kept (k := 7) (v := ⟨#[]⟩) (a := ⟨#[]⟩) (x := ⟨#[]⟩) (g := none) (m := 0) (c := 0) (i := i) hr (by first | exact hB | exact hB.drew); have fa := hBa.f 3; have ca := hBa.c3))
  have hb3 : Below i w1 (wa.setCell ⟨i, 3, none⟩ (.string x)) := hq.setCell (Nat.le_refl i) _
  have hA3 := hA.below hb3 l0
  have hB3 := hBa.set3 x
  have hbW : Below W.heap.size W (wa.setCell ⟨i, 3, none⟩ (.string x)) := hb0.trans (hb3.mono (by have := HW.out; omega))
  generalize wa.setCell ⟨i, 3, none⟩ (.string x) = wb at *
  have KS := Lib.hid (K0.out wb (HD.out.below hbW) ⟨St.nil _ _, Nat.le_refl _, Nat.zero_le _, HD.out.k0, HD.out.k1, Nat.zero_le _, Nat.zero_le _, HD.out.xz, fun s hs => by cases hs⟩)
  have u0 := hA3.c0
  have u1 := hA3.c1
  have u2 := hA3.c2
  have u3 := hA3.c3
  have u4 := hA3.c4
  have y0 := hB3.c0
  have y1 := hB3.c1
  have y2 := hB3.c2
  have y3 := hB3.c3
  have y4 := hB3.c4
  clear K0 HD HW HW1 hA hA3 hB hB3 hA2 hb0 hb3 hBa fa ca hr KQ f3 b0 b3 a3 hi
  cases p
  · go_wp2_with fail
    go_ret
    exact ⟨rfl, hbW⟩
  · cases r
    all_goals
      go_wp2_with fail
      refine KS.out.mono ?_
      rintro e w9 ⟨rfl, hb⟩
      replace hbW := hbW.trans (hb.mono hbW.size)
      clear u0 u1 u2 u3 u4 y0 y1 y2 y3 y4 hb KS
      go_wp2_with fail
      go_ret
      exact ⟨rfl, hbW⟩
set_option maxHeartbeats 3200000 in
theorem mayBe_lit (v a x : ByteArray) (g : Option Addr) (m c : Nat) (ns : List ByteArray) (W : World) (hd : (Nd.mk 1 v a x g m c ns).on W) :
    Calls Tryz.prog 19 #[.agg #[.int .i64 1, .string v, .string a, .string x, .slice g m c]] W (ValEnd (.bool (numsB ns && smN ⟨1, v, a, x, g, m, c, ns⟩ ⟨1, ⟨#[]⟩, ⟨#[]⟩, ⟨#[]⟩, g, m, c, ns⟩)) W) := by
  have hb0 := box_below W (.cells #[.int .i64 1, .string v, .string a, .string x, .slice g m c] 37)
  have hA := Bd.new W 1 v a x g m c
  have KP := fun w (hw : Below W.heap.size W w) => areNumbers_is g m c ns w (hd.st.below hw) (Nat.le_trans hd.mc hd.cm) hd.nz
  obtain ⟨w1, hw1⟩ : ∃ w1, w1 = W.alloc (.cells #[.int .i64 1, .string v, .string a, .string x, .slice g m c] 37) := ⟨_, rfl⟩
  rw [← hw1] at hb0 hA
  have hw : W.heap.size + 1 = w1.heap.size := by rw [hw1]; simp
  have a0 := hA.c0
  have z0 := (hA.alloc (.cells #[.int .i64 0, .string ⟨#[]⟩, .string ⟨#[]⟩, .string ⟨#[]⟩, .slice none 0 0] 37)).c0
  have K0 := fun w (hd' : (Nd.mk 1 v a x g m c ns).on w) (he' : (⟨1, ⟨#[]⟩, ⟨#[]⟩, ⟨#[]⟩, g, m, c, ns⟩ : Nd).on w) => same_is _ _ w hd' he'
  generalize smN ⟨1, v, a, x, g, m, c, ns⟩ ⟨1, ⟨#[]⟩, ⟨#[]⟩, ⟨#[]⟩, g, m, c, ns⟩ = r at *
  generalize numsB ns = p at *
  replace K0 := Lib.hid K0
  replace KP := Lib.hid KP
  have HD := Lib.hid hd
  have HW1 := Lib.hid hw1
  have HW := Lib.hid hw
  clear hd hw1 hw
  go_enter Tryz.func19, Tryz.ntmps19
  go_wp2_with fail
  rw [← HW1.out]
  go_region
  obtain ⟨w2, hw2⟩ : ∃ w2, w2 = (w1.alloc (.cells #[.int .i64 1, .string ⟨#[]⟩, .string ⟨#[]⟩, .string ⟨#[]⟩, .slice none 0 0] 37)).drew := ⟨_, rfl⟩
  rw [← hw2]
  have hB : Bd w2 w1.heap.size 1 ⟨#[]⟩ ⟨#[]⟩ ⟨#[]⟩ none 0 0 := by rw [hw2]; exact (Bd.new w1 1 ⟨#[]⟩ ⟨#[]⟩ ⟨#[]⟩ none 0 0).drew
  have hq : Below w1.heap.size w1 w2 := by rw [hw2]; exact ((Below.refl _ w1).alloc (Nat.le_refl _) _).drew
  have hA2 := hA.on hq
  have l0 := hA.lt
  have b0 := hA2.c0
  have a4 := hA.c4
  have b4 := hA2.c4
  have f4 := hB.f 4
  have hw8 : W.heap.size ≤ w1.heap.size := hb0.size
  have KQ := Lib.hid (fun w' (hb : Below w1.heap.size w1 w') => calls_two hb (KP.out w' (hb0.trans (hb.mono hw8))))
  generalize hi : w1.heap.size = i at *
  clear hw2 a0 z0 KP
  go_upto_region 4 with fail
  go_region_held3 (fun w' => w'.cell? ⟨W.heap.size, 4, none⟩ = some (.slice g m c))
    (first | exact (Below.cell (p := ⟨W.heap.size, 4, none⟩) (by repeat' (first | exact hq | refine Below.drew ?_ | refine Below.setCell ?_ ?_ _ | exact Nat.le_refl _)) l0).trans a4 | fail)
    (first
      | (go_at_call 42; (with_reducible refine (KQ.out _ (by repeat' (first | exact hq | refine Below.drew ?_))).mono ?_); rintro e wa ⟨rfl, hq, hr⟩; have hBa := Bd.kept (k := 1) (v := ⟨#[]⟩) (a := ⟨#[]⟩) (x := ⟨#[]⟩) (g := none) (m := 0) (c := 0) (i := i) hr (by first | exact hB | exact hB.drew); have fa := hBa.f 4; have ca := hBa.c4))
  have hb3 : Below i w1 (wa.setCell ⟨i, 4, none⟩ (.slice g m c)) := hq.setCell (Nat.le_refl i) _
  have hA3 := hA.below hb3 l0
  have hB3 := hBa.set4 g m c
  have hbW : Below W.heap.size W (wa.setCell ⟨i, 4, none⟩ (.slice g m c)) := hb0.trans (hb3.mono (by have := HW.out; omega))
  generalize wa.setCell ⟨i, 4, none⟩ (.slice g m c) = wb at *
  have KS := Lib.hid (K0.out wb (HD.out.below hbW) ⟨HD.out.st.below hbW, HD.out.mc, HD.out.cm, HD.out.k0, HD.out.k1, Nat.zero_le _, Nat.zero_le _, Nat.zero_le _, HD.out.nz⟩)
  have u0 := hA3.c0
  have u1 := hA3.c1
  have u2 := hA3.c2
  have u3 := hA3.c3
  have u4 := hA3.c4
  have y0 := hB3.c0
  have y1 := hB3.c1
  have y2 := hB3.c2
  have y3 := hB3.c3
  have y4 := hB3.c4
  clear K0 HD HW HW1 hA hA3 hB hB3 hA2 hb0 hb3 hBa fa ca hr KQ f4 b0 b4 a4 hi hw8
  cases p
  · go_wp2_with fail
    go_ret
    exact ⟨rfl, hbW⟩
  · cases r
    all_goals
      go_wp2_with fail
      refine KS.out.mono ?_
      rintro e w9 ⟨rfl, hb⟩
      replace hbW := hbW.trans (hb.mono hbW.size)
      clear u0 u1 u2 u3 u4 y0 y1 y2 y3 y4 hb KS
      go_wp2_with fail
      go_ret
      exact ⟨rfl, hbW⟩
set_option maxHeartbeats 3200000 in
theorem mayBe_monad (v a x : ByteArray) (g : Option Addr) (m c : Nat) (ns : List ByteArray) (W : World) (hd : (Nd.mk 3 v a x g m c ns).on W) :
    Calls Tryz.prog 19 #[.agg #[.int .i64 3, .string v, .string a, .string x, .slice g m c]] W (ValEnd (.bool ((verbB v && advB a [39, 47, 92, 96]) && smN ⟨3, v, a, x, g, m, c, ns⟩ ⟨3, v, a, ⟨#[]⟩, none, 0, 0, []⟩)) W) := by
  have hb0 := box_below W (.cells #[.int .i64 3, .string v, .string a, .string x, .slice g m c] 37)
  have hA := Bd.new W 3 v a x g m c
  have KP := fun w => isVerb_is v (maxLen_le hd.vz) w
  have KA : ∀ w, Calls Tryz.prog 45 #[.string a, .string ⟨#[39, 47, 92, 96]⟩] w (ValEnd (.bool (advB a [39, 47, 92, 96])) w) := fun w => isAdv_is a ⟨#[39, 47, 92, 96]⟩ (maxLen_le hd.az) w
  obtain ⟨w1, hw1⟩ : ∃ w1, w1 = W.alloc (.cells #[.int .i64 3, .string v, .string a, .string x, .slice g m c] 37) := ⟨_, rfl⟩
  rw [← hw1] at hb0 hA
  have hw : W.heap.size + 1 = w1.heap.size := by rw [hw1]; simp
  have a0 := hA.c0
  have z0 := (hA.alloc (.cells #[.int .i64 0, .string ⟨#[]⟩, .string ⟨#[]⟩, .string ⟨#[]⟩, .slice none 0 0] 37)).c0
  have K0 := fun w (hd' : (Nd.mk 3 v a x g m c ns).on w) (he' : (⟨3, v, a, ⟨#[]⟩, none, 0, 0, []⟩ : Nd).on w) => same_is _ _ w hd' he'
  generalize smN ⟨3, v, a, x, g, m, c, ns⟩ ⟨3, v, a, ⟨#[]⟩, none, 0, 0, []⟩ = r at *
  generalize verbB v = p at *
  generalize advB a [39, 47, 92, 96] = p2 at *
  replace K0 := Lib.hid K0
  replace KP := Lib.hid KP
  replace KA := Lib.hid KA
  cases p
  · have HD := Lib.hid hd
    have HW1 := Lib.hid hw1
    have HW := Lib.hid hw
    clear hd hw1 hw
    go_enter Tryz.func19, Tryz.ntmps19
    go_wp2_with fail
    rw [← HW1.out]
    go_region
    obtain ⟨w2, hw2⟩ : ∃ w2, w2 = (w1.alloc (.cells #[.int .i64 3, .string ⟨#[]⟩, .string ⟨#[]⟩, .string ⟨#[]⟩, .slice none 0 0] 37)).drew := ⟨_, rfl⟩
    rw [← hw2]
    have hB : Bd w2 w1.heap.size 3 ⟨#[]⟩ ⟨#[]⟩ ⟨#[]⟩ none 0 0 := by rw [hw2]; exact (Bd.new w1 3 ⟨#[]⟩ ⟨#[]⟩ ⟨#[]⟩ none 0 0).drew
    have hq : Below w1.heap.size w1 w2 := by rw [hw2]; exact ((Below.refl _ w1).alloc (Nat.le_refl _) _).drew
    have hA2 := hA.on hq
    have l0 := hA.lt
    have b0 := hA2.c0
    have a1 := hA.c1
    have a2 := hA.c2
    have b1 := hA2.c1
    have b2 := hA2.c2
    have f1 := hB.f 1
    have f2 := hB.f 2
    have KQ := Lib.hid (fun w' (hb : Below w1.heap.size w1 w') => calls_two hb (KP.out w'))
    have KB := Lib.hid (fun w' (hb : Below w1.heap.size w1 w') => calls_two hb (KA.out w'))
    generalize hi : w1.heap.size = i at *
    clear hw2 a0 z0 KP KA
    go_upto_region 12 with fail
    refine wp_region_noPanic ?_
    refine wp_region_held_drew (S := fun w' => w'.cell? ⟨W.heap.size, 1, none⟩ = some (.string v) ∧ w'.cell? ⟨W.heap.size, 2, none⟩ = some (.string a)) (by kernel_rfl) ⟨(Below.cell (p := ⟨W.heap.size, 1, none⟩) (by repeat' (first | exact hq | refine Below.drew ?_ | refine Below.setCell ?_ ?_ _ | exact Nat.le_refl _)) l0).trans a1, (Below.cell (p := ⟨W.heap.size, 2, none⟩) (by repeat' (first | exact hq | refine Below.drew ?_ | refine Below.setCell ?_ ?_ _ | exact Nat.le_refl _)) l0).trans a2⟩ (fun hHeld => ?_)
    refine wpAnyH_take (i := 0) (v := ?_) rfl (by kernel_rfl) (by kernel_rfl) (by kernel_rfl) (fun _ _ _ h => h) (Or.inl ⟨by rfl, ?_⟩) (by assumption) ?_
    rotate_left
    · (intro w hSw; (try dsimp only at hSw); go_simp; try (with_reducible rfl))
    try simp only [Act.put, List.setIfInBounds_toArray, List.set_cons_zero, List.set_cons_succ]
    refine wpAnyH_take (i := 1) (v := ?_) rfl (by kernel_rfl) (by kernel_rfl) (by kernel_rfl) (fun _ _ _ h => h) (Or.inl ⟨by rfl, ?_⟩) (by assumption) ?_
    rotate_left
    · (intro w hSw; (try dsimp only at hSw); go_simp; try (with_reducible rfl))
    try simp only [Act.put, List.setIfInBounds_toArray, List.set_cons_zero, List.set_cons_succ]
    refine wpAnyH_take (i := 8) (v := ?_) rfl (by kernel_rfl) (by kernel_rfl) (by kernel_rfl) (fun _ _ _ h => h) (Or.inl ⟨by rfl, ?_⟩) (by assumption) ?_
    rotate_left
    · (intro w hSw; (try dsimp only at hSw); go_simp; try (with_reducible rfl))
    try simp only [Act.put, List.setIfInBounds_toArray, List.set_cons_zero, List.set_cons_succ]
    refine wpAnyH_take (i := 9) (v := ?_) rfl (by kernel_rfl) (by kernel_rfl) (by kernel_rfl) (fun _ _ _ h => h) (Or.inl ⟨by rfl, ?_⟩) (by assumption) ?_
    rotate_left
    · (intro w hSw; (try dsimp only at hSw); go_simp; try (with_reducible rfl))
    try simp only [Act.put, List.setIfInBounds_toArray, List.set_cons_zero, List.set_cons_succ]
    refine wpAnyH_take (i := 10) (v := ?_) rfl (by kernel_rfl) (by kernel_rfl) (by kernel_rfl) (fun _ _ _ h => h) (Or.inl ⟨by rfl, ?_⟩) (by assumption) ?_
    rotate_left
    · (intro w hSw; (try dsimp only at hSw); go_simp; try (with_reducible rfl))
    try simp only [Act.put, List.setIfInBounds_toArray, List.set_cons_zero, List.set_cons_succ]
    refine wpAnyH_take (i := 11) (v := ?_) rfl (by kernel_rfl) (by kernel_rfl) (by kernel_rfl) (fun _ _ _ h => h) (Or.inl ⟨by rfl, ?_⟩) (by assumption) ?_
    rotate_left
    · (intro w hSw; (try dsimp only at hSw); go_simp; try (with_reducible rfl))
    try simp only [Act.put, List.setIfInBounds_toArray, List.set_cons_zero, List.set_cons_succ]
    refine wpAnyH_ready (rs := [2]) (by kernel_rfl) (by simp) ?_
    refine AllReadyH.cons rfl (fun K hK => ?_) AllReadyH.nil
    go_simp
    (go_at_call 44; (with_reducible refine (KQ.out _ (by repeat' (first | exact hq | refine Below.drew ?_))).mono ?_); rintro e wa ⟨rfl, hq, hr⟩; have hBa := Bd.kept (k := 3) (v := ⟨#[]⟩) (a := ⟨#[]⟩) (x := ⟨#[]⟩) (g := none) (m := 0) (c := 0) (i := i) hr (by first | exact hB | exact hB.drew); have fa := hBa.f 1; have fb := hBa.f 2; have ca := hBa.c1; have cb := hBa.c2)
    refine hK.out _ _ ⟨(Below.cell (p := ⟨W.heap.size, 1, none⟩) (by repeat' (first | exact hq | refine Below.drew ?_ | refine Below.setCell ?_ ?_ _ | exact Nat.le_refl _)) l0).trans a1, (Below.cell (p := ⟨W.heap.size, 2, none⟩) (by repeat' (first | exact hq | refine Below.drew ?_ | refine Below.setCell ?_ ?_ _ | exact Nat.le_refl _)) l0).trans a2⟩ (fun hHeld => ?_)
    clear hK K
    try simp only [Act.put, List.setIfInBounds_toArray, List.set_cons_zero, List.set_cons_succ]
    refine wpAnyH_take (i := 3) (v := ?_) rfl (by kernel_rfl) (by kernel_rfl) (by kernel_rfl) (fun _ _ _ h => h) (Or.inl ⟨by rfl, ?_⟩) (by assumption) ?_
    rotate_left
    · (intro w hSw; (try dsimp only at hSw); go_simp; try (with_reducible rfl))
    try simp only [Act.put, List.setIfInBounds_toArray, List.set_cons_zero, List.set_cons_succ]
    refine wpAnyH_take (i := 4) (v := undef) rfl (by kernel_rfl) (by kernel_rfl) (by kernel_rfl) (fun _ _ _ h => h) (Or.inr ⟨by rfl, rfl⟩) (by assumption) ?_
    try simp only [Act.put, List.setIfInBounds_toArray, List.set_cons_zero, List.set_cons_succ]
    refine wpAnyH_take (i := 5) (v := undef) rfl (by kernel_rfl) (by kernel_rfl) (by kernel_rfl) (fun _ _ _ h => h) (Or.inr ⟨by rfl, rfl⟩) (by assumption) ?_
    try simp only [Act.put, List.setIfInBounds_toArray, List.set_cons_zero, List.set_cons_succ]
    refine wpAnyH_take (i := 6) (v := undef) rfl (by kernel_rfl) (by kernel_rfl) (by kernel_rfl) (fun _ _ _ h => h) (Or.inr ⟨by rfl, rfl⟩) (by assumption) ?_
    try simp only [Act.put, List.setIfInBounds_toArray, List.set_cons_zero, List.set_cons_succ]
    refine wpAnyH_take (i := 7) (v := ?_) rfl (by kernel_rfl) (by kernel_rfl) (by kernel_rfl) (fun _ _ _ h => h) (Or.inl ⟨by rfl, ?_⟩) (by assumption) ?_
    rotate_left
    · (intro w hSw; (try dsimp only at hSw); go_simp; try (with_reducible rfl))
    try simp only [Act.put, List.setIfInBounds_toArray, List.set_cons_zero, List.set_cons_succ]
    refine wpAnyH_take (i := 12) (v := ?_) rfl (by kernel_rfl) (by kernel_rfl) (by kernel_rfl) (fun _ _ _ h => h) (Or.inl ⟨by rfl, ?_⟩) (by assumption) ?_
    rotate_left
    · (intro w hSw; (try dsimp only at hSw); go_simp; try (with_reducible rfl))
    try simp only [Act.put, List.setIfInBounds_toArray, List.set_cons_zero, List.set_cons_succ]
    refine wpAnyH_take (i := 13) (v := ?_) rfl (by kernel_rfl) (by kernel_rfl) (by kernel_rfl) (fun _ _ _ h => h) (Or.inl ⟨by rfl, ?_⟩) (by assumption) ?_
    rotate_left
    · (intro w hSw; (try dsimp only at hSw); go_simp; try (with_reducible rfl))
    try simp only [Act.put, List.setIfInBounds_toArray, List.set_cons_zero, List.set_cons_succ]
    refine wpAnyH_ready (rs := [14]) (by kernel_rfl) (by simp) ?_
    refine AllReadyH.cons rfl (fun K hK => ?_) AllReadyH.nil
    go_simp
    refine hK.out _ _ ⟨(Below.cell (p := ⟨W.heap.size, 1, none⟩) (by repeat' (first | exact hq | refine Below.drew ?_ | refine Below.setCell ?_ ?_ _ | exact Nat.le_refl _)) l0).trans a1, (Below.cell (p := ⟨W.heap.size, 2, none⟩) (by repeat' (first | exact hq | refine Below.drew ?_ | refine Below.setCell ?_ ?_ _ | exact Nat.le_refl _)) l0).trans a2⟩ (fun hHeld => ?_)
    clear hK K
    try simp only [Act.put, List.setIfInBounds_toArray, List.set_cons_zero, List.set_cons_succ]
    refine wpAnyH_take (i := 15) (v := ?_) rfl (by kernel_rfl) (by kernel_rfl) (by kernel_rfl) (fun _ _ _ h => h) (Or.inl ⟨by rfl, ?_⟩) (by assumption) ?_
    rotate_left
    · (intro w hSw; (try dsimp only at hSw); go_simp; try (with_reducible rfl))
    try simp only [Act.put, List.setIfInBounds_toArray, List.set_cons_zero, List.set_cons_succ]
    refine wpAnyH_ready (rs := [16]) (by kernel_rfl) (by simp) ?_
    refine AllReadyH.cons rfl (fun K hK => ?_) AllReadyH.nil
    go_simp
    refine hK.out _ _ ⟨(Below.cell (p := ⟨W.heap.size, 1, none⟩) (by repeat' (first | exact hq | refine Below.drew ?_ | refine Below.setCell ?_ ?_ _ | exact Nat.le_refl _)) l0).trans a1, (Below.cell (p := ⟨W.heap.size, 2, none⟩) (by repeat' (first | exact hq | refine Below.drew ?_ | refine Below.setCell ?_ ?_ _ | exact Nat.le_refl _)) l0).trans a2⟩ (fun hHeld => ?_)
    clear hK K
    try simp only [Act.put, List.setIfInBounds_toArray, List.set_cons_zero, List.set_cons_succ]
    refine wpAnyH_done (by kernel_rfl) ?_ _
    refine NoPanic.normal ?_
    clear hHeld
    all_goals
      have hb3 : Below i w1 ((wa.setCell ⟨i, 1, none⟩ (.string v)).setCell ⟨i, 2, none⟩ (.string a)) := (hq.setCell (Nat.le_refl i) _).setCell (Nat.le_refl i) _
      have hA3 := hA.below hb3 l0
      have hB3 := hBa.set12 v a
      have hbW : Below W.heap.size W ((wa.setCell ⟨i, 1, none⟩ (.string v)).setCell ⟨i, 2, none⟩ (.string a)) := hb0.trans (hb3.mono (by have := HW.out; omega))
      generalize (wa.setCell ⟨i, 1, none⟩ (.string v)).setCell ⟨i, 2, none⟩ (.string a) = wb at *
      have KS := Lib.hid (K0.out wb (HD.out.below hbW) ⟨St.nil _ _, Nat.le_refl _, Nat.zero_le _, HD.out.k0, HD.out.k1, HD.out.vz, HD.out.az, Nat.zero_le _, fun s hs => by cases hs⟩)
      have u0 := hA3.c0
      have u1 := hA3.c1
      have u2 := hA3.c2
      have u3 := hA3.c3
      have u4 := hA3.c4
      have y0 := hB3.c0
      have y1 := hB3.c1
      have y2 := hB3.c2
      have y3 := hB3.c3
      have y4 := hB3.c4
      clear K0 HD HW HW1 hA hA3 hB hB3 hA2 hb0 hb3 hBa fa fb ca cb hr KQ KB f1 f2 b0 b1 b2 a1 a2 hi
      go_wp2_with fail
      go_ret
      exact ⟨rfl, hbW⟩
  · have HD := Lib.hid hd
    have HW1 := Lib.hid hw1
    have HW := Lib.hid hw
    clear hd hw1 hw
    go_enter Tryz.func19, Tryz.ntmps19
    go_wp2_with fail
    rw [← HW1.out]
    go_region
    obtain ⟨w2, hw2⟩ : ∃ w2, w2 = (w1.alloc (.cells #[.int .i64 3, .string ⟨#[]⟩, .string ⟨#[]⟩, .string ⟨#[]⟩, .slice none 0 0] 37)).drew := ⟨_, rfl⟩
    rw [← hw2]
    have hB : Bd w2 w1.heap.size 3 ⟨#[]⟩ ⟨#[]⟩ ⟨#[]⟩ none 0 0 := by rw [hw2]; exact (Bd.new w1 3 ⟨#[]⟩ ⟨#[]⟩ ⟨#[]⟩ none 0 0).drew
    have hq : Below w1.heap.size w1 w2 := by rw [hw2]; exact ((Below.refl _ w1).alloc (Nat.le_refl _) _).drew
    have hA2 := hA.on hq
    have l0 := hA.lt
    have b0 := hA2.c0
    have a1 := hA.c1
    have a2 := hA.c2
    have b1 := hA2.c1
    have b2 := hA2.c2
    have f1 := hB.f 1
    have f2 := hB.f 2
    have KQ := Lib.hid (fun w' (hb : Below w1.heap.size w1 w') => calls_two hb (KP.out w'))
    have KB := Lib.hid (fun w' (hb : Below w1.heap.size w1 w') => calls_two hb (KA.out w'))
    generalize hi : w1.heap.size = i at *
    clear hw2 a0 z0 KP KA
    go_upto_region 12 with fail
    go_region_held3 (fun w' => w'.cell? ⟨W.heap.size, 1, none⟩ = some (.string v) ∧ w'.cell? ⟨W.heap.size, 2, none⟩ = some (.string a))
      (first | exact ⟨(Below.cell (p := ⟨W.heap.size, 1, none⟩) (by repeat' (first | exact hq | refine Below.drew ?_ | refine Below.setCell ?_ ?_ _ | exact Nat.le_refl _)) l0).trans a1, (Below.cell (p := ⟨W.heap.size, 2, none⟩) (by repeat' (first | exact hq | refine Below.drew ?_ | refine Below.setCell ?_ ?_ _ | exact Nat.le_refl _)) l0).trans a2⟩ | fail)
      (first
        | (go_at_call 44; (with_reducible refine (KQ.out _ (by repeat' (first | exact hq | refine Below.drew ?_))).mono ?_); rintro e wa ⟨rfl, hq, hr⟩; have hBa := Bd.kept (k := 3) (v := ⟨#[]⟩) (a := ⟨#[]⟩) (x := ⟨#[]⟩) (g := none) (m := 0) (c := 0) (i := i) hr (by first | exact hB | exact hB.drew); have fa := hBa.f 1; have fb := hBa.f 2; have ca := hBa.c1; have cb := hBa.c2)
        | (go_at_call 45; (with_reducible refine (KB.out _ (by repeat' (first | exact hq | refine Below.drew ?_))).mono ?_); rintro e wc ⟨rfl, hq, hr⟩; have hBa := Bd.kept (k := 3) (v := ⟨#[]⟩) (a := ⟨#[]⟩) (x := ⟨#[]⟩) (g := none) (m := 0) (c := 0) (i := i) hr (by first | exact hBa | exact hBa.drew); have fa := hBa.f 1; have fb := hBa.f 2; have ca := hBa.c1; have cb := hBa.c2))
    have hb3 : Below i w1 ((wc.setCell ⟨i, 1, none⟩ (.string v)).setCell ⟨i, 2, none⟩ (.string a)) := (hq.setCell (Nat.le_refl i) _).setCell (Nat.le_refl i) _
    have hA3 := hA.below hb3 l0
    have hB3 := hBa.set12 v a
    have hbW : Below W.heap.size W ((wc.setCell ⟨i, 1, none⟩ (.string v)).setCell ⟨i, 2, none⟩ (.string a)) := hb0.trans (hb3.mono (by have := HW.out; omega))
    generalize (wc.setCell ⟨i, 1, none⟩ (.string v)).setCell ⟨i, 2, none⟩ (.string a) = wb at *
    have KS := Lib.hid (K0.out wb (HD.out.below hbW) ⟨St.nil _ _, Nat.le_refl _, Nat.zero_le _, HD.out.k0, HD.out.k1, HD.out.vz, HD.out.az, Nat.zero_le _, fun s hs => by cases hs⟩)
    have u0 := hA3.c0
    have u1 := hA3.c1
    have u2 := hA3.c2
    have u3 := hA3.c3
    have u4 := hA3.c4
    have y0 := hB3.c0
    have y1 := hB3.c1
    have y2 := hB3.c2
    have y3 := hB3.c3
    have y4 := hB3.c4
    clear K0 HD HW HW1 hA hA3 hB hB3 hA2 hb0 hb3 hBa fa fb ca cb hr KQ KB f1 f2 b0 b1 b2 a1 a2 hi
    rw [Bool.true_and]
    cases p2
    · go_wp2_with fail
      go_ret
      exact ⟨rfl, hbW⟩
    · cases r
      all_goals
        go_wp2_with fail
        refine KS.out.mono ?_
        rintro e w9 ⟨rfl, hb⟩
        replace hbW := hbW.trans (hb.mono hbW.size)
        clear u0 u1 u2 u3 u4 y0 y1 y2 y3 y4 hb KS
        go_wp2_with fail
        go_ret
        exact ⟨rfl, hbW⟩
set_option maxHeartbeats 3200000 in
theorem mayBe_dyad (v a x : ByteArray) (g : Option Addr) (m c : Nat) (ns : List ByteArray) (W : World) (hd : (Nd.mk 4 v a x g m c ns).on W) :
    Calls Tryz.prog 19 #[.agg #[.int .i64 4, .string v, .string a, .string x, .slice g m c]] W (ValEnd (.bool ((verbB v && advB a [39, 46]) && smN ⟨4, v, a, x, g, m, c, ns⟩ ⟨4, v, a, ⟨#[]⟩, none, 0, 0, []⟩)) W) := by
  have hb0 := box_below W (.cells #[.int .i64 4, .string v, .string a, .string x, .slice g m c] 37)
  have hA := Bd.new W 4 v a x g m c
  have KP := fun w => isVerb_is v (maxLen_le hd.vz) w
  have KA : ∀ w, Calls Tryz.prog 45 #[.string a, .string ⟨#[39, 46]⟩] w (ValEnd (.bool (advB a [39, 46])) w) := fun w => isAdv_is a ⟨#[39, 46]⟩ (maxLen_le hd.az) w
  obtain ⟨w1, hw1⟩ : ∃ w1, w1 = W.alloc (.cells #[.int .i64 4, .string v, .string a, .string x, .slice g m c] 37) := ⟨_, rfl⟩
  rw [← hw1] at hb0 hA
  have hw : W.heap.size + 1 = w1.heap.size := by rw [hw1]; simp
  have a0 := hA.c0
  have z0 := (hA.alloc (.cells #[.int .i64 0, .string ⟨#[]⟩, .string ⟨#[]⟩, .string ⟨#[]⟩, .slice none 0 0] 37)).c0
  have K0 := fun w (hd' : (Nd.mk 4 v a x g m c ns).on w) (he' : (⟨4, v, a, ⟨#[]⟩, none, 0, 0, []⟩ : Nd).on w) => same_is _ _ w hd' he'
  generalize smN ⟨4, v, a, x, g, m, c, ns⟩ ⟨4, v, a, ⟨#[]⟩, none, 0, 0, []⟩ = r at *
  generalize verbB v = p at *
  generalize advB a [39, 46] = p2 at *
  replace K0 := Lib.hid K0
  replace KP := Lib.hid KP
  replace KA := Lib.hid KA
  cases p
  · have HD := Lib.hid hd
    have HW1 := Lib.hid hw1
    have HW := Lib.hid hw
    clear hd hw1 hw
    go_enter Tryz.func19, Tryz.ntmps19
    go_wp2_with fail
    rw [← HW1.out]
    go_region
    obtain ⟨w2, hw2⟩ : ∃ w2, w2 = (w1.alloc (.cells #[.int .i64 4, .string ⟨#[]⟩, .string ⟨#[]⟩, .string ⟨#[]⟩, .slice none 0 0] 37)).drew := ⟨_, rfl⟩
    rw [← hw2]
    have hB : Bd w2 w1.heap.size 4 ⟨#[]⟩ ⟨#[]⟩ ⟨#[]⟩ none 0 0 := by rw [hw2]; exact (Bd.new w1 4 ⟨#[]⟩ ⟨#[]⟩ ⟨#[]⟩ none 0 0).drew
    have hq : Below w1.heap.size w1 w2 := by rw [hw2]; exact ((Below.refl _ w1).alloc (Nat.le_refl _) _).drew
    have hA2 := hA.on hq
    have l0 := hA.lt
    have b0 := hA2.c0
    have a1 := hA.c1
    have a2 := hA.c2
    have b1 := hA2.c1
    have b2 := hA2.c2
    have f1 := hB.f 1
    have f2 := hB.f 2
    have KQ := Lib.hid (fun w' (hb : Below w1.heap.size w1 w') => calls_two hb (KP.out w'))
    have KB := Lib.hid (fun w' (hb : Below w1.heap.size w1 w') => calls_two hb (KA.out w'))
    generalize hi : w1.heap.size = i at *
    clear hw2 a0 z0 KP KA
    go_upto_region 14 with fail
    refine wp_region_noPanic ?_
    refine wp_region_held_drew (S := fun w' => w'.cell? ⟨W.heap.size, 1, none⟩ = some (.string v) ∧ w'.cell? ⟨W.heap.size, 2, none⟩ = some (.string a)) (by kernel_rfl) ⟨(Below.cell (p := ⟨W.heap.size, 1, none⟩) (by repeat' (first | exact hq | refine Below.drew ?_ | refine Below.setCell ?_ ?_ _ | exact Nat.le_refl _)) l0).trans a1, (Below.cell (p := ⟨W.heap.size, 2, none⟩) (by repeat' (first | exact hq | refine Below.drew ?_ | refine Below.setCell ?_ ?_ _ | exact Nat.le_refl _)) l0).trans a2⟩ (fun hHeld => ?_)
    refine wpAnyH_take (i := 0) (v := ?_) rfl (by kernel_rfl) (by kernel_rfl) (by kernel_rfl) (fun _ _ _ h => h) (Or.inl ⟨by rfl, ?_⟩) (by assumption) ?_
    rotate_left
    · (intro w hSw; (try dsimp only at hSw); go_simp; try (with_reducible rfl))
    try simp only [Act.put, List.setIfInBounds_toArray, List.set_cons_zero, List.set_cons_succ]
    refine wpAnyH_take (i := 1) (v := ?_) rfl (by kernel_rfl) (by kernel_rfl) (by kernel_rfl) (fun _ _ _ h => h) (Or.inl ⟨by rfl, ?_⟩) (by assumption) ?_
    rotate_left
    · (intro w hSw; (try dsimp only at hSw); go_simp; try (with_reducible rfl))
    try simp only [Act.put, List.setIfInBounds_toArray, List.set_cons_zero, List.set_cons_succ]
    refine wpAnyH_take (i := 8) (v := ?_) rfl (by kernel_rfl) (by kernel_rfl) (by kernel_rfl) (fun _ _ _ h => h) (Or.inl ⟨by rfl, ?_⟩) (by assumption) ?_
    rotate_left
    · (intro w hSw; (try dsimp only at hSw); go_simp; try (with_reducible rfl))
    try simp only [Act.put, List.setIfInBounds_toArray, List.set_cons_zero, List.set_cons_succ]
    refine wpAnyH_take (i := 9) (v := ?_) rfl (by kernel_rfl) (by kernel_rfl) (by kernel_rfl) (fun _ _ _ h => h) (Or.inl ⟨by rfl, ?_⟩) (by assumption) ?_
    rotate_left
    · (intro w hSw; (try dsimp only at hSw); go_simp; try (with_reducible rfl))
    try simp only [Act.put, List.setIfInBounds_toArray, List.set_cons_zero, List.set_cons_succ]
    refine wpAnyH_take (i := 10) (v := ?_) rfl (by kernel_rfl) (by kernel_rfl) (by kernel_rfl) (fun _ _ _ h => h) (Or.inl ⟨by rfl, ?_⟩) (by assumption) ?_
    rotate_left
    · (intro w hSw; (try dsimp only at hSw); go_simp; try (with_reducible rfl))
    try simp only [Act.put, List.setIfInBounds_toArray, List.set_cons_zero, List.set_cons_succ]
    refine wpAnyH_take (i := 11) (v := ?_) rfl (by kernel_rfl) (by kernel_rfl) (by kernel_rfl) (fun _ _ _ h => h) (Or.inl ⟨by rfl, ?_⟩) (by assumption) ?_
    rotate_left
    · (intro w hSw; (try dsimp only at hSw); go_simp; try (with_reducible rfl))
    try simp only [Act.put, List.setIfInBounds_toArray, List.set_cons_zero, List.set_cons_succ]
    refine wpAnyH_ready (rs := [2]) (by kernel_rfl) (by simp) ?_
    refine AllReadyH.cons rfl (fun K hK => ?_) AllReadyH.nil
    go_simp
    (go_at_call 44; (with_reducible refine (KQ.out _ (by repeat' (first | exact hq | refine Below.drew ?_))).mono ?_); rintro e wa ⟨rfl, hq, hr⟩; have hBa := Bd.kept (k := 4) (v := ⟨#[]⟩) (a := ⟨#[]⟩) (x := ⟨#[]⟩) (g := none) (m := 0) (c := 0) (i := i) hr (by first | exact hB | exact hB.drew); have fa := hBa.f 1; have fb := hBa.f 2; have ca := hBa.c1; have cb := hBa.c2)
    refine hK.out _ _ ⟨(Below.cell (p := ⟨W.heap.size, 1, none⟩) (by repeat' (first | exact hq | refine Below.drew ?_ | refine Below.setCell ?_ ?_ _ | exact Nat.le_refl _)) l0).trans a1, (Below.cell (p := ⟨W.heap.size, 2, none⟩) (by repeat' (first | exact hq | refine Below.drew ?_ | refine Below.setCell ?_ ?_ _ | exact Nat.le_refl _)) l0).trans a2⟩ (fun hHeld => ?_)
    clear hK K
    try simp only [Act.put, List.setIfInBounds_toArray, List.set_cons_zero, List.set_cons_succ]
    refine wpAnyH_take (i := 3) (v := ?_) rfl (by kernel_rfl) (by kernel_rfl) (by kernel_rfl) (fun _ _ _ h => h) (Or.inl ⟨by rfl, ?_⟩) (by assumption) ?_
    rotate_left
    · (intro w hSw; (try dsimp only at hSw); go_simp; try (with_reducible rfl))
    try simp only [Act.put, List.setIfInBounds_toArray, List.set_cons_zero, List.set_cons_succ]
    refine wpAnyH_take (i := 4) (v := undef) rfl (by kernel_rfl) (by kernel_rfl) (by kernel_rfl) (fun _ _ _ h => h) (Or.inr ⟨by rfl, rfl⟩) (by assumption) ?_
    try simp only [Act.put, List.setIfInBounds_toArray, List.set_cons_zero, List.set_cons_succ]
    refine wpAnyH_take (i := 5) (v := undef) rfl (by kernel_rfl) (by kernel_rfl) (by kernel_rfl) (fun _ _ _ h => h) (Or.inr ⟨by rfl, rfl⟩) (by assumption) ?_
    try simp only [Act.put, List.setIfInBounds_toArray, List.set_cons_zero, List.set_cons_succ]
    refine wpAnyH_take (i := 6) (v := undef) rfl (by kernel_rfl) (by kernel_rfl) (by kernel_rfl) (fun _ _ _ h => h) (Or.inr ⟨by rfl, rfl⟩) (by assumption) ?_
    try simp only [Act.put, List.setIfInBounds_toArray, List.set_cons_zero, List.set_cons_succ]
    refine wpAnyH_take (i := 7) (v := ?_) rfl (by kernel_rfl) (by kernel_rfl) (by kernel_rfl) (fun _ _ _ h => h) (Or.inl ⟨by rfl, ?_⟩) (by assumption) ?_
    rotate_left
    · (intro w hSw; (try dsimp only at hSw); go_simp; try (with_reducible rfl))
    try simp only [Act.put, List.setIfInBounds_toArray, List.set_cons_zero, List.set_cons_succ]
    refine wpAnyH_take (i := 12) (v := ?_) rfl (by kernel_rfl) (by kernel_rfl) (by kernel_rfl) (fun _ _ _ h => h) (Or.inl ⟨by rfl, ?_⟩) (by assumption) ?_
    rotate_left
    · (intro w hSw; (try dsimp only at hSw); go_simp; try (with_reducible rfl))
    try simp only [Act.put, List.setIfInBounds_toArray, List.set_cons_zero, List.set_cons_succ]
    refine wpAnyH_take (i := 13) (v := ?_) rfl (by kernel_rfl) (by kernel_rfl) (by kernel_rfl) (fun _ _ _ h => h) (Or.inl ⟨by rfl, ?_⟩) (by assumption) ?_
    rotate_left
    · (intro w hSw; (try dsimp only at hSw); go_simp; try (with_reducible rfl))
    try simp only [Act.put, List.setIfInBounds_toArray, List.set_cons_zero, List.set_cons_succ]
    refine wpAnyH_ready (rs := [14]) (by kernel_rfl) (by simp) ?_
    refine AllReadyH.cons rfl (fun K hK => ?_) AllReadyH.nil
    go_simp
    refine hK.out _ _ ⟨(Below.cell (p := ⟨W.heap.size, 1, none⟩) (by repeat' (first | exact hq | refine Below.drew ?_ | refine Below.setCell ?_ ?_ _ | exact Nat.le_refl _)) l0).trans a1, (Below.cell (p := ⟨W.heap.size, 2, none⟩) (by repeat' (first | exact hq | refine Below.drew ?_ | refine Below.setCell ?_ ?_ _ | exact Nat.le_refl _)) l0).trans a2⟩ (fun hHeld => ?_)
    clear hK K
    try simp only [Act.put, List.setIfInBounds_toArray, List.set_cons_zero, List.set_cons_succ]
    refine wpAnyH_take (i := 15) (v := ?_) rfl (by kernel_rfl) (by kernel_rfl) (by kernel_rfl) (fun _ _ _ h => h) (Or.inl ⟨by rfl, ?_⟩) (by assumption) ?_
    rotate_left
    · (intro w hSw; (try dsimp only at hSw); go_simp; try (with_reducible rfl))
    try simp only [Act.put, List.setIfInBounds_toArray, List.set_cons_zero, List.set_cons_succ]
    refine wpAnyH_ready (rs := [16]) (by kernel_rfl) (by simp) ?_
    refine AllReadyH.cons rfl (fun K hK => ?_) AllReadyH.nil
    go_simp
    refine hK.out _ _ ⟨(Below.cell (p := ⟨W.heap.size, 1, none⟩) (by repeat' (first | exact hq | refine Below.drew ?_ | refine Below.setCell ?_ ?_ _ | exact Nat.le_refl _)) l0).trans a1, (Below.cell (p := ⟨W.heap.size, 2, none⟩) (by repeat' (first | exact hq | refine Below.drew ?_ | refine Below.setCell ?_ ?_ _ | exact Nat.le_refl _)) l0).trans a2⟩ (fun hHeld => ?_)
    clear hK K
    try simp only [Act.put, List.setIfInBounds_toArray, List.set_cons_zero, List.set_cons_succ]
    refine wpAnyH_done (by kernel_rfl) ?_ _
    refine NoPanic.normal ?_
    clear hHeld
    all_goals
      have hb3 : Below i w1 ((wa.setCell ⟨i, 1, none⟩ (.string v)).setCell ⟨i, 2, none⟩ (.string a)) := (hq.setCell (Nat.le_refl i) _).setCell (Nat.le_refl i) _
      have hA3 := hA.below hb3 l0
      have hB3 := hBa.set12 v a
      have hbW : Below W.heap.size W ((wa.setCell ⟨i, 1, none⟩ (.string v)).setCell ⟨i, 2, none⟩ (.string a)) := hb0.trans (hb3.mono (by have := HW.out; omega))
      generalize (wa.setCell ⟨i, 1, none⟩ (.string v)).setCell ⟨i, 2, none⟩ (.string a) = wb at *
      have KS := Lib.hid (K0.out wb (HD.out.below hbW) ⟨St.nil _ _, Nat.le_refl _, Nat.zero_le _, HD.out.k0, HD.out.k1, HD.out.vz, HD.out.az, Nat.zero_le _, fun s hs => by cases hs⟩)
      have u0 := hA3.c0
      have u1 := hA3.c1
      have u2 := hA3.c2
      have u3 := hA3.c3
      have u4 := hA3.c4
      have y0 := hB3.c0
      have y1 := hB3.c1
      have y2 := hB3.c2
      have y3 := hB3.c3
      have y4 := hB3.c4
      clear K0 HD HW HW1 hA hA3 hB hB3 hA2 hb0 hb3 hBa fa fb ca cb hr KQ KB f1 f2 b0 b1 b2 a1 a2 hi
      go_wp2_with fail
      go_ret
      exact ⟨rfl, hbW⟩
  · have HD := Lib.hid hd
    have HW1 := Lib.hid hw1
    have HW := Lib.hid hw
    clear hd hw1 hw
    go_enter Tryz.func19, Tryz.ntmps19
    go_wp2_with fail
    rw [← HW1.out]
    go_region
    obtain ⟨w2, hw2⟩ : ∃ w2, w2 = (w1.alloc (.cells #[.int .i64 4, .string ⟨#[]⟩, .string ⟨#[]⟩, .string ⟨#[]⟩, .slice none 0 0] 37)).drew := ⟨_, rfl⟩
    rw [← hw2]
    have hB : Bd w2 w1.heap.size 4 ⟨#[]⟩ ⟨#[]⟩ ⟨#[]⟩ none 0 0 := by rw [hw2]; exact (Bd.new w1 4 ⟨#[]⟩ ⟨#[]⟩ ⟨#[]⟩ none 0 0).drew
    have hq : Below w1.heap.size w1 w2 := by rw [hw2]; exact ((Below.refl _ w1).alloc (Nat.le_refl _) _).drew
    have hA2 := hA.on hq
    have l0 := hA.lt
    have b0 := hA2.c0
    have a1 := hA.c1
    have a2 := hA.c2
    have b1 := hA2.c1
    have b2 := hA2.c2
    have f1 := hB.f 1
    have f2 := hB.f 2
    have KQ := Lib.hid (fun w' (hb : Below w1.heap.size w1 w') => calls_two hb (KP.out w'))
    have KB := Lib.hid (fun w' (hb : Below w1.heap.size w1 w') => calls_two hb (KA.out w'))
    generalize hi : w1.heap.size = i at *
    clear hw2 a0 z0 KP KA
    go_upto_region 14 with fail
    go_region_held3 (fun w' => w'.cell? ⟨W.heap.size, 1, none⟩ = some (.string v) ∧ w'.cell? ⟨W.heap.size, 2, none⟩ = some (.string a))
      (first | exact ⟨(Below.cell (p := ⟨W.heap.size, 1, none⟩) (by repeat' (first | exact hq | refine Below.drew ?_ | refine Below.setCell ?_ ?_ _ | exact Nat.le_refl _)) l0).trans a1, (Below.cell (p := ⟨W.heap.size, 2, none⟩) (by repeat' (first | exact hq | refine Below.drew ?_ | refine Below.setCell ?_ ?_ _ | exact Nat.le_refl _)) l0).trans a2⟩ | fail)
      (first
        | (go_at_call 44; (with_reducible refine (KQ.out _ (by repeat' (first | exact hq | refine Below.drew ?_))).mono ?_); rintro e wa ⟨rfl, hq, hr⟩; have hBa := Bd.kept (k := 4) (v := ⟨#[]⟩) (a := ⟨#[]⟩) (x := ⟨#[]⟩) (g := none) (m := 0) (c := 0) (i := i) hr (by first | exact hB | exact hB.drew); have fa := hBa.f 1; have fb := hBa.f 2; have ca := hBa.c1; have cb := hBa.c2)
        | (go_at_call 45; (with_reducible refine (KB.out _ (by repeat' (first | exact hq | refine Below.drew ?_))).mono ?_); rintro e wc ⟨rfl, hq, hr⟩; have hBa := Bd.kept (k := 4) (v := ⟨#[]⟩) (a := ⟨#[]⟩) (x := ⟨#[]⟩) (g := none) (m := 0) (c := 0) (i := i) hr (by first | exact hBa | exact hBa.drew); have fa := hBa.f 1; have fb := hBa.f 2; have ca := hBa.c1; have cb := hBa.c2))
    have hb3 : Below i w1 ((wc.setCell ⟨i, 1, none⟩ (.string v)).setCell ⟨i, 2, none⟩ (.string a)) := (hq.setCell (Nat.le_refl i) _).setCell (Nat.le_refl i) _
    have hA3 := hA.below hb3 l0
    have hB3 := hBa.set12 v a
    have hbW : Below W.heap.size W ((wc.setCell ⟨i, 1, none⟩ (.string v)).setCell ⟨i, 2, none⟩ (.string a)) := hb0.trans (hb3.mono (by have := HW.out; omega))
    generalize (wc.setCell ⟨i, 1, none⟩ (.string v)).setCell ⟨i, 2, none⟩ (.string a) = wb at *
    have KS := Lib.hid (K0.out wb (HD.out.below hbW) ⟨St.nil _ _, Nat.le_refl _, Nat.zero_le _, HD.out.k0, HD.out.k1, HD.out.vz, HD.out.az, Nat.zero_le _, fun s hs => by cases hs⟩)
    have u0 := hA3.c0
    have u1 := hA3.c1
    have u2 := hA3.c2
    have u3 := hA3.c3
    have u4 := hA3.c4
    have y0 := hB3.c0
    have y1 := hB3.c1
    have y2 := hB3.c2
    have y3 := hB3.c3
    have y4 := hB3.c4
    clear K0 HD HW HW1 hA hA3 hB hB3 hA2 hb0 hb3 hBa fa fb ca cb hr KQ KB f1 f2 b0 b1 b2 a1 a2 hi
    rw [Bool.true_and]
    cases p2
    · go_wp2_with fail
      go_ret
      exact ⟨rfl, hbW⟩
    · cases r
      all_goals
        go_wp2_with fail
        refine KS.out.mono ?_
        rintro e w9 ⟨rfl, hb⟩
        replace hbW := hbW.trans (hb.mono hbW.size)
        clear u0 u1 u2 u3 u4 y0 y1 y2 y3 y4 hb KS
        go_wp2_with fail
        go_ret
        exact ⟨rfl, hbW⟩
set_option maxHeartbeats 3200000 in
theorem mayBe_index (v a x : ByteArray) (g : Option Addr) (m c : Nat) (ns : List ByteArray) (W : World) (hd : (Nd.mk 8 v a x g m c ns).on W) :
    Calls Tryz.prog 19 #[.agg #[.int .i64 8, .string v, .string a, .string x, .slice g m c]] W (ValEnd (.bool (true && smN ⟨8, v, a, x, g, m, c, ns⟩ ⟨8, ⟨#[]⟩, ⟨#[]⟩, ⟨#[]⟩, none, 0, 0, []⟩)) W) := by
  have hb0 := box_below W (.cells #[.int .i64 8, .string v, .string a, .string x, .slice g m c] 37)
  have hA := Bd.new W 8 v a x g m c
  obtain ⟨w1, hw1⟩ : ∃ w1, w1 = W.alloc (.cells #[.int .i64 8, .string v, .string a, .string x, .slice g m c] 37) := ⟨_, rfl⟩
  rw [← hw1] at hb0 hA
  have hw : W.heap.size + 1 = w1.heap.size := by rw [hw1]; simp
  have a0 := hA.c0
  have z0 := (hA.alloc (.cells #[.int .i64 0, .string ⟨#[]⟩, .string ⟨#[]⟩, .string ⟨#[]⟩, .slice none 0 0] 37)).c0
  have K0 := fun w (hd' : (Nd.mk 8 v a x g m c ns).on w) (he' : (⟨8, ⟨#[]⟩, ⟨#[]⟩, ⟨#[]⟩, none, 0, 0, []⟩ : Nd).on w) => same_is _ _ w hd' he'
  generalize smN ⟨8, v, a, x, g, m, c, ns⟩ ⟨8, ⟨#[]⟩, ⟨#[]⟩, ⟨#[]⟩, none, 0, 0, []⟩ = r at *
  replace K0 := Lib.hid K0
  have HD := Lib.hid hd
  have HW1 := Lib.hid hw1
  have HW := Lib.hid hw
  clear hd hw1 hw
  go_enter Tryz.func19, Tryz.ntmps19
  go_wp2_with fail
  rw [← HW1.out]
  go_region
  obtain ⟨w2, hw2⟩ : ∃ w2, w2 = (w1.alloc (.cells #[.int .i64 8, .string ⟨#[]⟩, .string ⟨#[]⟩, .string ⟨#[]⟩, .slice none 0 0] 37)).drew := ⟨_, rfl⟩
  rw [← hw2]
  have hB : Bd w2 w1.heap.size 8 ⟨#[]⟩ ⟨#[]⟩ ⟨#[]⟩ none 0 0 := by rw [hw2]; exact (Bd.new w1 8 ⟨#[]⟩ ⟨#[]⟩ ⟨#[]⟩ none 0 0).drew
  have hq : Below w1.heap.size w1 w2 := by rw [hw2]; exact ((Below.refl _ w1).alloc (Nat.le_refl _) _).drew
  have hA2 := hA.on hq
  have l0 := hA.lt
  have b0 := hA2.c0
  have hbW : Below W.heap.size W w2 := hb0.trans (hq.mono hb0.size)
  have KS := Lib.hid (K0.out w2 (HD.out.below hbW) ⟨St.nil _ _, Nat.le_refl _, Nat.zero_le _, HD.out.k0, HD.out.k1, Nat.zero_le _, Nat.zero_le _, Nat.zero_le _, fun s hs => by cases hs⟩)
  have u0 := hA2.c0
  have u1 := hA2.c1
  have u2 := hA2.c2
  have u3 := hA2.c3
  have u4 := hA2.c4
  have y0 := hB.c0
  have y1 := hB.c1
  have y2 := hB.c2
  have y3 := hB.c3
  have y4 := hB.c4
  clear K0 HD HW HW1 hA hB hA2 hb0 hq l0 b0 a0 z0 hw2
  rw [Bool.true_and]
  cases r
  all_goals
    go_wp2_with fail
    refine KS.out.mono ?_
    rintro e w9 ⟨rfl, hb⟩
    replace hbW := hbW.trans (hb.mono hbW.size)
    clear u0 u1 u2 u3 u4 y0 y1 y2 y3 y4 hb KS
    go_wp2_with fail
    go_ret
    exact ⟨rfl, hbW⟩
set_option maxHeartbeats 3200000 in
theorem mayBe_none (k : Int) (v a x : ByteArray) (g : Option Addr) (m c : Nat) (W : World) (hk : k < 1 ∨ 8 < k) :
    Calls Tryz.prog 19 #[.agg #[.int .i64 k, .string v, .string a, .string x, .slice g m c]] W (ValEnd (.bool false) W) := by
  have hb0 := box_below W (.cells #[.int .i64 k, .string v, .string a, .string x, .slice g m c] 37)
  have hA := Bd.new W k v a x g m c
  obtain ⟨w1, hw1⟩ : ∃ w1, w1 = W.alloc (.cells #[.int .i64 k, .string v, .string a, .string x, .slice g m c] 37) := ⟨_, rfl⟩
  rw [← hw1] at hb0 hA
  have a0 := hA.c0
  have z0 := (hA.alloc (.cells #[.int .i64 0, .string ⟨#[]⟩, .string ⟨#[]⟩, .string ⟨#[]⟩, .slice none 0 0] 37)).c0
  have HW1 := Lib.hid hw1
  have e1 : (k == 1) = false := beq_eq_false_iff_ne.2 (by omega)
  have e2 : (k == 2) = false := beq_eq_false_iff_ne.2 (by omega)
  have e3 : (k == 3) = false := beq_eq_false_iff_ne.2 (by omega)
  have e4 : (k == 4) = false := beq_eq_false_iff_ne.2 (by omega)
  have e5 : (k == 5) = false := beq_eq_false_iff_ne.2 (by omega)
  have e6 : (k == 6) = false := beq_eq_false_iff_ne.2 (by omega)
  have e7 : (k == 7) = false := beq_eq_false_iff_ne.2 (by omega)
  have e8 : (k == 8) = false := beq_eq_false_iff_ne.2 (by omega)
  clear hw1 hk
  go_enter Tryz.func19, Tryz.ntmps19
  go_wp2_with fail
  rw [← HW1.out]
  go_region
  obtain ⟨w2, hw2⟩ : ∃ w2, w2 = (w1.alloc (.cells #[.int .i64 k, .string ⟨#[]⟩, .string ⟨#[]⟩, .string ⟨#[]⟩, .slice none 0 0] 37)).drew := ⟨_, rfl⟩
  rw [← hw2]
  have hq : Below w1.heap.size w1 w2 := by rw [hw2]; exact ((Below.refl _ w1).alloc (Nat.le_refl _) _).drew
  have b0 := (hA.on hq).c0
  have hbW : Below W.heap.size W w2 := hb0.trans (hq.mono hb0.size)
  clear hw2 a0 z0 hA hb0 hq
  go_wp2_with fail
  go_ret
  exact ⟨rfl, hbW⟩
end Go.Proofs.YtljkmdmbndjngaaGreat

import Derived.Test.YtpledghphljfkaaGreatDoorMan
import Derived.Test.YtpledghphljfkaaGreatDoorMao
import Derived.Test.YtpledghphljfkaaGreatDoorMat
import Derived.BigQuiet
import Derived.BigRegion
import Derived.Maps.OwnSet
import Derived.Maps.OwnOps
/-
  order's methods, by their contracts; container/heap's calls over them.
-/
namespace Go.Proofs.YtpledghphljfkaaGreatDoor
set_option linter.unusedVariables false
set_option linter.unusedSimpArgs false
open Go.RowKit

/-- Where an order stands: its elements, and what must stay. -/
structure OC (G B1 : Nat) (b : Option Addr) (m d : Nat) (sg : Int) (K : Nat → Prop) (W0 : World) (pf : Option Addr → Prop) (M : Nat) (xs : List Int) : Prop where
  hK : ∀ k, K k → k < W0.heap.size
  hKG : ¬ K G
  hB : B1 = G + 1
  hpf : ∀ R, pf (some ⟨R, 0, none⟩) → B1 ≤ R → ¬ K R
  hE : ∀ w, Kep K W0 w → St w b m (xs.map S)
  hX : ∀ x ∈ xs, x.natAbs < lim
  hM : M = m
  hm : m ≤ 5000
  hsg : sg = 1 ∨ sg = -1
theorem OC.hG {G B1 : Nat} {b : Option Addr} {m d : Nat} {sg : Int} {K : Nat → Prop} {W0 : World} {pf : Option Addr → Prop} {M : Nat} {xs : List Int} (C : OC G B1 b m d sg K W0 pf M xs) : G < B1 := by have := C.hB; omega
def OS (G B1 : Nat) (b : Option Addr) (m d : Nat) (sg : Int) (K : Nat → Prop) (W0 : World) (pf : Option Addr → Prop) (M : Nat) (a : Nat → Nat) (n : Nat) (w : World) : Prop := ∃ pa pc, Od G B1 b m d sg K W0 pf M a n w pa pc
def LsEnd (P : Prop) (X : World → Prop) (e : Ending) (w' : World) : Prop := ∃ t : Bool, e = .returned (.bool t) ∧ (t = true ↔ P) ∧ X w'
theorem sg_cmp {sg x y : Int} (h : sg = 1 ∨ sg = -1) : (sg * cmpI x y < 0 ↔ sg * x < sg * y) ∧ (sg * cmpI x y = 0 ↔ sg * x = sg * y) ∧ -1 ≤ sg * cmpI x y ∧ sg * cmpI x y ≤ 1 := by
  rcases h with rfl | rfl <;> unfold cmpI <;> split <;> (try split) <;> refine ⟨?_, ?_, ?_, ?_⟩ <;> omega
section
variable {G B1 : Nat} {b : Option Addr} {m d : Nat} {sg : Int} {K : Nat → Prop} {W0 : World} {pf : Option Addr → Prop} {M : Nat} {xs : List Int} {a : Nat → Nat} {n : Nat} {w w' : World}
set_option maxRecDepth 100000 in
theorem olen_q {pa : Option Addr} {pc : Nat} (h : Od G B1 b m d sg K W0 pf M a n w pa pc) : Calls Tryz.prog 49 #[.pointer (some ⟨G, 0, none⟩)] w fun e w' => e = .returned (.int .i64 (n : Int)) ∧ w = w' := by
  have y1 := h.c1
  clear h
  go_enter Tryz.func49, Tryz.ntmps49
  go_wp2_with fail
  go_ret
  exact ⟨rfl, rfl⟩
theorem olen_is (h : OS G B1 b m d sg K W0 pf M a n w) : Calls Tryz.prog 49 #[.pointer (some ⟨G, 0, none⟩)] w fun e w' => e = .returned (.int .i64 (n : Int)) ∧ OS G B1 b m d sg K W0 pf M a n w' := by
  obtain ⟨pa, pc, h⟩ := h
  exact (olen_q h).mono fun e w' k => ⟨k.1, pa, pc, by rw [← k.2]; exact h⟩
set_option maxRecDepth 100000 in
set_option maxHeartbeats 3200000 in
theorem opop_is (C : OC G B1 b m d sg K W0 pf M xs) (h : OS G B1 b m d sg K W0 pf M a (n + 1) w) : Calls Tryz.prog 129 #[.pointer (some ⟨G, 0, none⟩)] w fun e w' => e = .returned (.iface 3 (.int .i64 (a n : Int))) ∧ OS G B1 b m d sg K W0 pf M a n w' := by
  obtain ⟨pa, pc, h⟩ := h
  obtain ⟨R, rfl, hBR, hRl, hc⟩ := h.at (by omega)
  have y1 := h.c1
  have hcn := (hc n (by omega)).1
  have hw : IntKind.i64.wrap (n : Int) = (n : Int) := IntWalk.i64_in _ (by have := h.nle; have := C.hm; have := C.hM; omega)
  have hcap : n ≤ pc := by have := h.caps; omega
  have hfz := frozen_of_row w G 1 _ _ h.box
  have H := Lib.hid (h.popped C.hKG C.hG)
  obtain ⟨x, hx⟩ : ∃ x : Int, x = (a n : Int) := ⟨_, rfl⟩
  rw [← hx] at hcn ⊢
  clear h hc C hx
  go_enter Tryz.func129, Tryz.ntmps129
  go_wp2_with fail
  go_ret
  exact ⟨rfl, _, _, H.out⟩
set_option maxRecDepth 100000 in
set_option maxHeartbeats 6400000 in
theorem oswap_is (C : OC G B1 b m d sg K W0 pf M xs) (h : OS G B1 b m d sg K W0 pf M a n w) {i j : Nat} (hi : i < n) (hj : j < n) : Calls Tryz.prog 131 #[.pointer (some ⟨G, 0, none⟩), .int .i64 (i : Int), .int .i64 (j : Int)] w fun e w' => e = .returned (.tuple #[]) ∧ OS G B1 b m d sg K W0 pf M (swp a i j) n w' := by
  obtain ⟨pa, pc, h⟩ := h
  obtain ⟨R, rfl, hBR, hRl, hc⟩ := h.at (by omega)
  have y1 := h.c1
  have ci := (hc i hi).1
  have cj := (hc j hj).1
  have fi := (hc i hi).2
  have fj := (hc j hj).2
  have H := Lib.hid (h.swap C.hG C.hpf rfl hBR hi hj)
  obtain ⟨x, hx⟩ : ∃ x : Int, x = (a i : Int) := ⟨_, rfl⟩
  obtain ⟨y, hy⟩ : ∃ y : Int, y = (a j : Int) := ⟨_, rfl⟩
  rw [← hx] at ci H
  rw [← hy] at cj H
  have hi2 : (i : Int) < (n : Int) := by omega
  have hj2 : (j : Int) < (n : Int) := by omega
  have cj3 : (w.setCell ⟨R, i, none⟩ (.int .i64 y)).cell? ⟨R, j, none⟩ = some (.int .i64 y) := by
    by_cases e : i = j
    · subst e; exact World.cell?_setCell_same' _ _ _ (by rw [ci]; rfl)
    · rw [World.cell?_setCell_other _ _ _ _ (by simp [e]), cj]
  clear h hc C hx hy
  go_enter Tryz.func131, Tryz.ntmps131
  go_wp2_with fail
  go_region
  all_goals
    go_wp2_with fail
    go_end0
    exact ⟨rfl, _, _, by first | exact H.out | exact H.out.drew⟩
set_option maxRecDepth 100000 in
set_option maxHeartbeats 6400000 in
theorem opush_is (C : OC G B1 b m d sg K W0 pf M xs) (hall : ∀ q, pf q) (h : OS G B1 b m d sg K W0 pf M a n w) (hn : n < M) : Calls Tryz.prog 130 #[.pointer (some ⟨G, 0, none⟩), .iface 3 (.int .i64 (n : Int))] w fun e w' => e = .returned (.tuple #[]) ∧ ∃ c, OS G B1 b m d sg K W0 pf M c (n + 1) w' ∧ c n = n ∧ ∀ k, k < n → c k = a k := by
  obtain ⟨pa, pc, h⟩ := h
  have y1 := h.c1
  have HX := Lib.hid h
  have HC := Lib.hid C
  have hn5 : n ≤ 100000 := by have := C.hm; have := C.hM; omega
  have hB : B1 ≤ w.heap.size := by have := h.gl; have := C.hB; omega
  have y1a : (w.alloc (.cells #[.int .i64 (n : Int)] 3)).cell? ⟨G, 1, none⟩ = some (.slice pa n pc) := (((Below.refl w.heap.size w).alloc (Nat.le_refl _) _).cell (p := ⟨G, 1, none⟩) h.gl).trans y1
  have hta : ∀ w, (Instr.typeAssert (.iface 3 (.int .i64 (n : Int))) 20 3 false).run Tryz.prog w = .ok (.int .i64 (n : Int)) w := fun w => by kernel_rfl
  clear h C
  go_enter Tryz.func130, Tryz.ntmps130
  go_wp2_with fail
  go_region_law (refine stepI w B1 (.tmp 8) (.tmp 11) pa n pc _ (n : Int) rfl rfl rfl rfl rfl rfl rfl rfl HX.out.row (by omega) (by omega) ?_; intro av' cv' w9 hown9 hg9 _; have hO9 := HX.out.box3 HC.out.hG HC.out.hpf hg9; have g9 := frozen_of_row w9 G 1 _ _ hO9; have z9 : w9.cell? ⟨G, 1, none⟩ = some (.slice pa n pc) := by rw [cell_of_row _ _ _ _ _ _ hO9]; rfl)
  all_goals
    have hP := Lib.hid (HX.out.pushed HC.out.hK HC.out.hKG HC.out.hG HC.out.hpf hall hn hown9 hg9)
    clear hown9 hg9 hO9 g9 z9
    go_wp2_with fail
    go_end0
    exact ⟨rfl, _, ⟨_, _, hP.out⟩, if_pos rfl, fun k hk => if_neg (by omega)⟩
set_option maxRecDepth 100000 in
set_option maxHeartbeats 6400000 in
theorem oless_is (C : OC G B1 b m d sg K W0 pf M xs) (h : OS G B1 b m d sg K W0 pf M a n w) {i j : Nat} (hi : i < n) (hj : j < n) : Calls Tryz.prog 128 #[.pointer (some ⟨G, 0, none⟩), .int .i64 (i : Int), .int .i64 (j : Int)] w (LsEnd (Lf (fun k => sg * xs.getD k 0) (a i) (a j)) (OS G B1 b m d sg K W0 pf M a n)) := by
  obtain ⟨pa, pc, h⟩ := h
  obtain ⟨R, rfl, hBR, hRl, hc⟩ := h.at (by omega)
  have y0 := h.c0
  have y1 := h.c1
  have y2 := h.c2
  have hE := C.hE w h.kep
  have hai : a i < m := by have := h.lt i hi; have := C.hM; omega
  have haj : a j < m := by have := h.lt j hj; have := C.hM; omega
  have ci := (hc i hi).1
  have cj := (hc j hj).1
  obtain ⟨bb, off, rfl, hcE⟩ := hE.2 (by omega)
  have hxl : xs.length = m := by have := hE.1; rwa [List.length_map] at this
  have ei := hcE (a i) hai
  have ej := hcE (a j) haj
  rw [getD_S (by omega)] at ei ej
  have HL : Hid (Lf (fun k => sg * xs.getD k 0) (a i) (a j) ↔ sg * cmpI (xs.getD (a i) 0) (xs.getD (a j) 0) < 0 ∨ (sg * cmpI (xs.getD (a i) 0) (xs.getD (a j) 0) = 0 ∧ a i < a j)) := Lib.hid (by
    obtain ⟨s1, s2, _⟩ := sg_cmp (x := xs.getD (a i) 0) (y := xs.getD (a j) 0) C.hsg
    unfold Lf
    rw [s1, s2])
  obtain ⟨-, -, b1, b2⟩ := sg_cmp (x := xs.getD (a i) 0) (y := xs.getD (a j) 0) C.hsg
  have KQ : Hid (∀ z, Below w.heap.size w z → Calls Tryz.prog 132 #[.string (S (xs.getD (a i) 0)), .string (S (xs.getD (a j) 0))] z fun e w' => e = .returned (.int .i64 (cmpI (xs.getD (a i) 0) (xs.getD (a j) 0))) ∧ Below w.heap.size w w') := Lib.hid fun z hz => (Cmp_yes (xs.getD (a i) 0) (xs.getD (a j) 0) z (getD_bd C.hX _) (getD_bd C.hX _)).mono fun e w' k => ⟨k.1, hz.trans (k.2.mono hz.size)⟩
  obtain ⟨u, hu⟩ : ∃ u : Int, u = (a i : Int) := ⟨_, rfl⟩
  obtain ⟨v, hv⟩ : ∃ v : Int, v = (a j : Int) := ⟨_, rfl⟩
  obtain ⟨q, hq⟩ : ∃ q : Int, q = sg * cmpI (xs.getD (a i) 0) (xs.getD (a j) 0) := ⟨_, rfl⟩
  rw [← hq] at HL b1 b2
  obtain ⟨s, hs⟩ : ∃ s, s = S (xs.getD (a i) 0) := ⟨_, rfl⟩
  obtain ⟨t, ht⟩ : ∃ t, t = S (xs.getD (a j) 0) := ⟨_, rfl⟩
  rw [← hs] at ei KQ
  rw [← ht] at ej KQ
  obtain ⟨z, hz⟩ : ∃ z : Int, z = cmpI (xs.getD (a i) 0) (xs.getD (a j) 0) := ⟨_, rfl⟩
  rw [← hz] at KQ hq
  have hw : IntKind.i64.wrap (sg * z) = q := by rw [← hq]; exact IntWalk.i64_in _ (by omega)
  have ha1 : 0 ≤ u := by omega
  have ha2 : u < (m : Int) := by omega
  have ha3 : 0 ≤ v := by omega
  have ha4 : v < (m : Int) := by omega
  have e1 : u.toNat = a i := by omega
  have e2 : v.toNat = a j := by omega
  rw [← hu] at ci
  rw [← hv] at cj
  have ei' : w.cell? ⟨bb, off + u.toNat, none⟩ = some (.string s) := by rw [e1]; exact ei
  have ej' : w.cell? ⟨bb, off + v.toNat, none⟩ = some (.string t) := by rw [e2]; exact ej
  have HUV : Hid (a i < a j ↔ u < v) := Lib.hid (by omega)
  have hi2 : (i : Int) < (n : Int) := by omega
  have hj2 : (j : Int) < (n : Int) := by omega
  have HO := Lib.hid (fun z (hb : Below w.heap.size w z) => (⟨_, _, h.on C.hK hb⟩ : OS G B1 (some ⟨bb, off, none⟩) m d sg K W0 pf M a n z))
  have l0 := h.gl
  have lE := World.block_lt_of_cell? w _ ei
  clear h hc C hE hcE ei ej hai haj hxl hu hv hq hs ht hz e1 e2
  go_enter Tryz.func128, Tryz.ntmps128
  have hq3 : q = -1 ∨ q = 0 ∨ q = 1 := by omega
  have HQ3 := Lib.hid hq3
  clear hq3
  go_wp2_with fail
  go_quiet (fail)
  go_wp2_with fail
  have hq := below_drewN (Below.refl w.heap.size w) nq
  generalize w.drewN nq = wq at hq ⊢
  have hqz := hq.size
  clear ci cj
  go_region_held3 (fun w' => w'.cell? ⟨G, 0, none⟩ = some (.slice (some ⟨bb, off, none⟩) m d) ∧ w'.cell? ⟨G, 2, none⟩ = some (.int .i64 sg) ∧ w'.cell? ⟨bb, off + u.toNat, none⟩ = some (.string s) ∧ w'.cell? ⟨bb, off + v.toNat, none⟩ = some (.string t))
    (first | exact ⟨(Below.cell (p := ⟨G, 0, none⟩) (by repeat' (first | exact hq | refine Below.drew ?_ | refine below_drewN ?_ _ | refine Below.alloc ?_ ?_ _ | refine Below.setCell ?_ ?_ _ | exact hqz | exact Nat.le_refl _ | omega | (simp; done) | (simp; omega))) l0).trans y0, (Below.cell (p := ⟨G, 2, none⟩) (by repeat' (first | exact hq | refine Below.drew ?_ | refine below_drewN ?_ _ | refine Below.alloc ?_ ?_ _ | refine Below.setCell ?_ ?_ _ | exact hqz | exact Nat.le_refl _ | omega | (simp; done) | (simp; omega))) l0).trans y2, (Below.cell (p := ⟨bb, off + u.toNat, none⟩) (by repeat' (first | exact hq | refine Below.drew ?_ | refine below_drewN ?_ _ | refine Below.alloc ?_ ?_ _ | refine Below.setCell ?_ ?_ _ | exact hqz | exact Nat.le_refl _ | omega | (simp; done) | (simp; omega))) lE).trans ei', (Below.cell (p := ⟨bb, off + v.toNat, none⟩) (by repeat' (first | exact hq | refine Below.drew ?_ | refine below_drewN ?_ _ | refine Below.alloc ?_ ?_ _ | refine Below.setCell ?_ ?_ _ | exact hqz | exact Nat.le_refl _ | omega | (simp; done) | (simp; omega))) lE).trans ej'⟩ | fail)
    (first
      | (go_at_call 132; (with_reducible refine (KQ.out _ (by repeat' (first | exact hq | refine Below.drew ?_ | refine below_drewN ?_ _ | refine Below.alloc ?_ ?_ _ | refine Below.setCell ?_ ?_ _ | exact hqz | exact Nat.le_refl _ | omega | (simp; done) | (simp; omega)))).mono ?_); rintro e wa ⟨rfl, hq⟩; have hqz := hq.size)
      | fail)
  all_goals
    have hb9 := Lib.hid (HO.out _ (by repeat' (first | exact hq | refine Below.drew ?_ | refine below_drewN ?_ _ | refine Below.alloc ?_ ?_ _ | refine Below.setCell ?_ ?_ _ | exact hqz | exact Nat.le_refl _ | omega | (simp; done) | (simp; omega))))
    clear hq hqz y0 y1 y2 ei' ej' KQ HO hw b1 b2
    rcases HQ3.out with h | h | h
    · subst h
      go_wp2_with fail
      go_ret
      exact ⟨true, rfl, ⟨fun _ => HL.out.2 (.inl (by omega)), fun _ => rfl⟩, hb9.out⟩
    · subst h
      by_cases huv : u < v
      · go_wp2_with fail
        go_ret
        exact ⟨true, rfl, ⟨fun _ => HL.out.2 (.inr ⟨(by first | rfl | trivial), HUV.out.2 huv⟩), fun _ => rfl⟩, hb9.out⟩
      · go_wp2_with fail
        go_ret
        exact ⟨false, rfl, ⟨fun k => (by cases k), fun k => by
          rcases HL.out.1 k with k | k
          · omega
          · have := HUV.out.1 k.2; omega⟩, hb9.out⟩
    · subst h
      go_wp2_with fail
      go_ret
      exact ⟨false, rfl, ⟨fun k => (by cases k), fun k => by
        rcases HL.out.1 k with k | k <;> omega⟩, hb9.out⟩
end
end Go.Proofs.YtpledghphljfkaaGreatDoor
/-
  What follows for seek's calls, plain: indexed by its order a vector rises, or falls; the order of the order; what is found, among each once; as often as a number says.
-/
namespace Go.Proofs.YtpledghphljfkaaGreatDoor
set_option linter.unusedVariables false
set_option linter.unusedSimpArgs false
open Go.RowKit

theorem up_yes (sg : Int) {q : Ar} (h : q.1.length = 1) : upK sg (some q) = (some ([(q.2.length : Int)], intL (orL (fun i => sg * q.2.getD i 0) q.2.length)), 0) := by
  unfold upK
  dsimp only
  rw [if_neg (fun e => e h)]
theorem vec_sz {n : Nat} (h : n ≤ 4096) : szE [(n : Int)] = 0 := szE_may.2 ⟨by simp, fun j hj => by
  obtain rfl : j = 0 := by simpa using hj
  show (0 : Int) ≤ (n : Int); omega, fun j hj => by
  obtain rfl : j = 0 := by simpa using hj
  show (n : Int) ≤ 1099511627776; omega, by show (n : Int) * 1 ≤ 4096; omega⟩
theorem nears {l : List Int} (h : ∀ x ∈ l, 0 ≤ x ∧ x ≤ 1099511627776) : l.all nearM = true := by
  rw [List.all_eq_true]
  exact fun x hx => nearM_yes.2 (by have := h x hx; omega)
theorem plE_yes {l : List Int} {s : List Int} {many : Int} (h : ∀ x ∈ l, 0 ≤ x ∧ x < many) (hm : many ≤ 1099511627776) : plE (s, l) many = 0 := by
  unfold plE
  rw [nears (fun x hx => by have := h x hx; omega), if_neg (by simp), if_neg]
  rintro ⟨x, hx, hc⟩
  have := h x hx
  omega
/-- A vector, indexed by places. -/
theorem ix_vec {q : Ar} (hq : q.1 = [(q.2.length : Int)]) (hl : q.2.length ≤ 4096) {L : List Nat} (hL : ∀ i ∈ L, i < q.2.length) (hn : L.length ≤ 4096) :
    ixK (some q) (some ([(L.length : Int)], intL L)) = (some ([(L.length : Int)], L.map fun i => q.2.getD i 0), 0) := by
  have e0 : q.1 ≠ [] := by rw [hq]; simp
  have e1 : q.1.getD 0 0 = (q.2.length : Int) := by rw [hq]; rfl
  have e2 : q.1.tail = [] := by rw [hq]; rfl
  have e3 : kI q.1 = 1 := by unfold kI; rw [e2]; rfl
  have e4 : plE ([(L.length : Int)], intL L) (q.2.length : Int) = 0 := plE_yes (fun x hx => by
    obtain ⟨i, hi, rfl⟩ := List.mem_map.1 hx
    have := hL i hi
    omega) (by omega)
  unfold ixK
  dsimp only
  rw [if_neg e0, e1, if_neg (fun e => e e4), e2, e3, List.append_nil, if_neg (fun e => e (vec_sz hn)), nat_int, its_one q.2 0 hL]
theorem or_lt {f : Nat → Int} {n : Nat} : ∀ i ∈ orL f n, i < n := fun i hi => ((or_ord f n).all i).1 hi
theorem or_len (f : Nat → Int) (n : Nat) : (orL f n).length = n := (or_ord f n).len
/-- It rises, alike ones stay in turn; it falls. -/
theorem or_rises (sg : Int) (vs : List Int) {k : Nat} (hk : k + 1 < vs.length) :
    let L := orL (fun i => sg * vs.getD i 0) vs.length
    sg * (L.map fun i => vs.getD i 0).getD k 0 < sg * (L.map fun i => vs.getD i 0).getD (k + 1) 0 ∨ sg * (L.map fun i => vs.getD i 0).getD k 0 = sg * (L.map fun i => vs.getD i 0).getD (k + 1) 0 ∧ (intL L).getD k 0 < (intL L).getD (k + 1) 0 := by
  intro L
  have hl : L.length = vs.length := or_len _ _
  have h := (or_ord (fun i => sg * vs.getD i 0) vs.length).rises (k := k) (by show k + 1 < L.length; omega)
  have g1 : ∀ j (hj : j < L.length), (L.map fun i => vs.getD i 0).getD j 0 = vs.getD L[j] 0 := fun j hj => by
    rw [List.getD_eq_getElem?_getD, List.getElem?_map, List.getElem?_eq_getElem hj]; rfl
  have g2 : ∀ j (hj : j < L.length), (intL L).getD j 0 = (L[j] : Int) := fun j hj => by
    rw [List.getD_eq_getElem?_getD, intL, List.getElem?_map, List.getElem?_eq_getElem hj]; rfl
  rw [g1 k (by omega), g1 (k + 1) (by omega), g2 k (by omega), g2 (k + 1) (by omega)]
  rcases h with h | ⟨h, h'⟩
  · exact .inl h
  · exact .inr ⟨h, Int.ofNat_lt.2 h'⟩
/-- The order of the order, indexing what is ordered: as it was. -/
theorem or_back (vs : List Int) : (orL (fun i => 1 * (intL (orL (fun i => 1 * vs.getD i 0) vs.length)).getD i 0) vs.length).map (fun i => ((orL (fun i => 1 * vs.getD i 0) vs.length).map fun i => vs.getD i 0).getD i 0) = vs := by
  obtain ⟨L, hL⟩ : ∃ L, L = orL (fun i => 1 * vs.getD i 0) vs.length := ⟨_, rfl⟩
  rw [← hL]
  have h1 : Ord (fun i => 1 * vs.getD i 0) vs.length L := by rw [hL]; exact or_ord _ _
  have hl := h1.len
  obtain ⟨B, hB⟩ : ∃ B, B = orL (fun i => 1 * (intL L).getD i 0) vs.length := ⟨_, rfl⟩
  rw [← hB]
  have h2 : Ord (fun i => (L.getD i 0 : Int)) vs.length B := by
    have e : (fun i => 1 * (intL L).getD i 0) = fun i => (L.getD i 0 : Int) := by
      funext i
      rw [Int.one_mul, List.getD_eq_getElem?_getD, List.getD_eq_getElem?_getD, intL, List.getElem?_map]
      cases L[i]? <;> rfl
    rw [hB, e]; exact or_ord _ _
  have hlB := h2.len
  apply List.ext_getElem (by simp [hlB])
  intro i hi hi2
  have hb := h1.back h2 hi2
  have hiB : i < B.length := by omega
  have hBi : B[i] < L.length := by rw [hl]; exact (h2.all _).1 (List.getElem_mem _)
  rw [List.getD_eq_getElem?_getD (l := B), List.getElem?_eq_getElem hiB, Option.getD_some] at hb
  rw [List.getD_eq_getElem?_getD, List.getElem?_eq_getElem hBi, Option.getD_some] at hb
  rw [List.getElem_map, List.getD_eq_getElem?_getD, List.getElem?_map, List.getElem?_eq_getElem hBi, Option.map_some, Option.getD_some, hb, List.getD_eq_getElem?_getD, List.getElem?_eq_getElem hi2, Option.getD_some]
/-- Found among each once, and indexed by that: as it was. -/
theorem un_back (vs : List Int) : (vs.map fun x => fpS (unS vs) x).map (fun i => (unS vs).getD i 0) = vs := by
  rw [List.map_map]
  conv => rhs; rw [← List.map_id vs]
  refine List.map_congr_left fun x hx => ?_
  show (unS vs).getD (fpS (unS vs) x) 0 = x
  rw [List.getD_eq_getElem?_getD, un_find hx]
  rfl
end Go.Proofs.YtpledghphljfkaaGreatDoor
/-
  Where texts are first, as a map keeps it.
-/
namespace Go.Proofs.YtpledghphljfkaaGreatDoor
set_option linter.unusedVariables false
set_option linter.unusedSimpArgs false
open Go.RowKit

theorem fp_app {α : Type} [DecidableEq α] {l : List α} {x : α} (h : x ∈ l) (m : List α) : fpS (l ++ m) x = fpS l x := by
  have hl := fp_mem.2 h
  refine fp_one (by rw [List.length_append]; omega) ?_ fun j hj => ?_
  · rw [List.getElem?_append_left hl]; exact fp_at hl
  · rw [List.getElem?_append_left (by omega)]; exact fp_min hj
theorem fp_new {α : Type} [DecidableEq α] {l : List α} {x : α} (h : x ∉ l) (m : List α) : fpS (l ++ x :: m) x = l.length := by
  refine fp_one (by simp) (by simp) fun j hj e => ?_
  rw [List.getElem?_append_left hj] at e
  exact h (List.mem_of_getElem? e)
theorem fp_not {α : Type} [DecidableEq α] {l : List α} {x : α} (h : x ∉ l) : fpS l x = l.length := by
  have := fp_le l x
  rcases Nat.lt_or_ge (fpS l x) l.length with h1 | h1
  · exact absurd (fp_mem.1 h1) h
  · omega
theorem fkey_ne {s t : ByteArray} (h : s ≠ t) : (Lit.string s.data.toList) ≠ (Lit.string t.data.toList) := fun e => h (by
  injection e with e
  exact ByteArray.ext (Array.toList_inj.1 e))
theorem fkeyed : Go.Maps.Keyed Tryz.prog 9 := Go.Maps.string_keyed Tryz.underlying9
theorem fzero (w : World) : (zeroValue 3).run Tryz.prog w = .ok (.int .i64 0) w := by kernel_rfl
/-- A map as it is read: where the texts of l are first. -/
def FstD (D : DataW Unit) (l : List ByteArray) : Prop :=
  ∀ s : ByteArray, (Maps.has D (.string s.data.toList) = true ↔ s ∈ l) ∧ (s ∈ l → D.atKey (.string s.data.toList) (.lit (.int .i64 0)) = .lit (.int .i64 ((fpS l s : Nat) : Int)))
theorem FstD.nil : FstD (.map []) [] := fun s => ⟨by simp [Maps.has], fun h => by cases h⟩
theorem FstD.old {D : DataW Unit} {l : List ByteArray} {s : ByteArray} (h : FstD D l) (hs : s ∈ l) : FstD D (l ++ [s]) := fun t => by
  obtain ⟨h1, h2⟩ := h t
  have e : t ∈ l ++ [s] ↔ t ∈ l := by
    rw [List.mem_append, List.mem_singleton]
    exact ⟨fun k => k.elim id fun e => by rw [e]; exact hs, .inl⟩
  refine ⟨by rw [h1, e], fun k => ?_⟩
  rw [fp_app (e.1 k)]; exact h2 (e.1 k)
theorem FstD.new {D : DataW Unit} {l : List ByteArray} {s : ByteArray} (h : FstD D l) (hD : Maps.IsMap D) (hs : s ∉ l) : FstD (D.put (.string s.data.toList) (.lit (.int .i64 (l.length : Int)))) (l ++ [s]) := fun t => by
  by_cases e : t = s
  · subst e
    exact ⟨by rw [Maps.has_put_same (k := .string t.data.toList) hD trivial]; simp, fun _ => by rw [Maps.atKey_put_same (k := .string t.data.toList) hD trivial, fp_new hs []]⟩
  · have k := fkey_ne e
    obtain ⟨h1, h2⟩ := h t
    refine ⟨by rw [Maps.has_put_other k, h1]; simp [e], fun m => ?_⟩
    have m' : t ∈ l := by simpa [e] using m
    rw [Maps.atKey_put_other k, fp_app m']; exact h2 m'
theorem FstD.yes {D : DataW Unit} {l : List ByteArray} {s : ByteArray} (h : FstD D l) (hs : s ∈ l) : Maps.has D (.string s.data.toList) = true := (h s).1.2 hs
theorem FstD.no {D : DataW Unit} {l : List ByteArray} {s : ByteArray} (h : FstD D l) (hs : s ∉ l) : Maps.has D (.string s.data.toList) = false := Bool.eq_false_iff.2 fun e => hs ((h s).1.1 e)
theorem FstD.at {D : DataW Unit} {l : List ByteArray} (h : FstD D l) {s : ByteArray} (hs : s ∈ l) {c : Int} (hc : D.atKey (.string s.data.toList) (.lit (.int .i64 0)) = .lit (.int .i64 c)) : c = (fpS l s : Nat) := by
  rw [(h s).2 hs] at hc
  injection hc with hc
  injection hc with _ hc
  exact hc.symm
/-- Block B is such a map. -/
def Fst (w : World) (B n : Nat) (l : List ByteArray) : Prop := ∃ D : DataW Unit, w.ownsMap Tryz.prog 9 (plainElem Tryz.prog 3) B n D ∧ FstD D l
theorem Fst.below {w w' : World} {B n : Nat} {l : List ByteArray} (h : Fst w B n l) (hb : Below w.heap.size w w') : Fst w' B n l := by
  obtain ⟨D, ⟨es, clock, h1, h2⟩, h3⟩ := h
  exact ⟨D, ⟨es, clock, (hb.block B (Array.getElem?_eq_some_iff.1 h1).1).trans h1, h2⟩, h3⟩
theorem Fst.lt {w : World} {B n : Nat} {l : List ByteArray} (h : Fst w B n l) : B < w.heap.size := by
  obtain ⟨D, h1, _⟩ := h
  exact h1.lt
theorem Stb.fst {B n : Nat} {l : List ByteArray} : Stb fun w => Fst w B n l := fun _ _ h hb => h.below hb
def FsEnd (l : List ByteArray) (W : World) (e : Ending) (W' : World) : Prop := ∃ B, e = .returned (.map (some B)) ∧ Fst W' B l.length l ∧ Below W.heap.size W W'
theorem live_fs {P : World → Prop} {w : World} {f : FuncId} {args : Array Value} {l : List ByteArray} (h : Lv P w) (hc : Calls Tryz.prog f args w (FsEnd l w))
    (hs : Stb P := by repeat' (first | exact Stb.bel _ | exact Stb.bx | exact Stb.vl | refine Stb.and ?_ ?_ | exact Stb.triv)) :
    Calls Tryz.prog f args w fun e w' => ∃ B, e = .returned (.map (some B)) ∧ Lv (fun z => Fst z B l.length l ∧ P z) w' :=
  hc.mono fun _ _ ⟨B, h1, h2, h3⟩ => ⟨B, h1, ⟨h2, hs _ _ h.out h3⟩⟩
end Go.Proofs.YtpledghphljfkaaGreatDoor

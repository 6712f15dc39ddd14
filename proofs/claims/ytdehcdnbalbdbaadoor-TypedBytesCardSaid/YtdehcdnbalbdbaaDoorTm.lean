/-
  TypedBytes at every text.
-/
import Derived.Test.YtdehcdnbalbdbaaDoorTl
namespace Go.Proofs.YtdehcdnbalbdbaaDoor
open Go.RowKit

theorem three_new (W : World) (o1 o2 o3 : Obj) : (((W.alloc o1).alloc o2).alloc o3).heap[W.heap.size + 1]? = some o2 ∧ (((W.alloc o1).alloc o2).alloc o3).heap[W.heap.size + 1 + 1]? = some o3 ∧ Below W.heap.size W (((W.alloc o1).alloc o2).alloc o3) := by
  have s1 : (W.alloc o1).heap.size = W.heap.size + 1 := by simp
  have s2 : ((W.alloc o1).alloc o2).heap.size = W.heap.size + 1 + 1 := by simp
  have h2 := heap_alloc_new (W.alloc o1) o2
  have h3 := heap_alloc_new ((W.alloc o1).alloc o2) o3
  rw [s1] at h2
  rw [s2] at h3
  exact ⟨(Below.heap_alloc _ o3 _ (by omega)).trans h2, h3, (((Below.refl _ _).alloc (Nat.le_refl _) _).alloc (by omega) _).alloc (by omega) _⟩
theorem one_may {w : Int} {b m : Nat} {s : ByteArray} (hb : Bw w b) (hs : s.size = m * b) (hm : m ≤ 4096) : MayT w [(m : Int)] s b m := by
  have hp : pr [(m : Int)] = m := by show (m : Int) * 1 = m; omega
  refine ⟨hb, szE_may.2 ⟨by show 1 ≤ 3; omega, fun j hj => ?_, fun j hj => ?_, by rw [hp]; omega⟩, hs, hp.symm, hm⟩
  · have hj : j < 1 := hj
    obtain rfl : j = 0 := by omega
    show 0 ≤ (m : Int); omega
  · have hj : j < 1 := hj
    obtain rfl : j = 0 := by omega
    show (m : Int) ≤ 1099511627776; omega
theorem one_mayV {l : List Int} {w : Int} {b m : Nat} {s : ByteArray} (h : MayT w l s b m) {x : Nat → Int} (hx : ∀ j, j < m → I64 (x j)) : mayV l (txs x m) = true := by
  refine mayV_yes.2 ⟨h.e, by rw [txs_len]; exact h.pr, fun j hj => ?_⟩
  rw [txs_len] at hj
  rw [txs_get hj]
  exact (mayL_itoa (x j)).2 (lim_i64 (hx j hj).1 (hx j hj).2)
theorem txs_Is {x : Nat → Int} {m j : Nat} (hj : j < m) (hx : I64 (x j)) : Is ((txs x m).getD j ByteArray.empty) (some (x j)) := by
  rw [txs_get hj]
  exact ⟨rfl, lim_i64 hx.1 hx.2⟩
theorem wid_le {x : Nat → Int} {m : Nat} {w : Int} (h8 : 8 ≤ w) (h : ∀ j, j < m → I64 (x j) ∧ Fit (x j) w) : wid x m ≤ w := by
  rcases wmax_is (fun j => leastO (some (x j))) m with e | ⟨k, hk, e⟩
  · have e : wid x m = 8 := e
    omega
  · have e : wid x m = leastO (some (x k)) := e
    rw [e, leastO_in (h k hk).1]
    exact leastW_fit (h k hk).2 h8
theorem wid_in {x : Nat → Int} {m : Nat} (h : ∀ j, j < m → I64 (x j)) : ∃ b, Bw (wid x m) b ∧ ∀ j, j < m → I64 (x j) ∧ Fit (x j) (wid x m) := by
  rcases wid_cases x m with e | e
  · exfalso
    have h1 := wid_le (x := x) (m := m) (w := 64) (by decide) (fun j hj => ⟨h j hj, by have := h j hj; unfold I64 at this; unfold Fit; omega⟩)
    omega
  · exact e
set_option maxRecDepth 10000 in
set_option maxHeartbeats 6400000 in
theorem bytes_8 {s : ByteArray} {k : Int} {m : Nat} (W : World) (ht : WT W) (hk1 : k % 4 = 0) (hk2 : k.tmod 4 = 0) (hk0 : 0 ≤ k) (hk3 : k ≤ 255) (hs : s.size ≤ 2400) (hm : s.size = m * 1) :
    Calls Tryd.prog 7 #[.string s, .int .u8 k] W (TrueEnd W) := by
  have hb : Bw 8 1 := .inl ⟨rfl, rfl⟩
  have hmm : m ≤ 4096 := by omega
  have hsm : s.size ≤ maxLen := by unfold maxLen; omega
  have hM := one_may hb hm hmm
  have hI : ∀ j, j < m → I64 (el s 1 j) ∧ Fit (el s 1 j) 8 := fun j hj => ⟨(el_fit hb hm hj).i64 hb, el_fit hb hm hj⟩
  have hmay := one_mayV hM (x := el s 1) (fun j hj => (hI j hj).1)
  obtain ⟨b2, hb2, hf⟩ := wid_in (x := el s 1) (m := m) (fun j hj => (hI j hj).1)
  have hwl := wid_le (x := el s 1) (m := m) (w := 8) (by decide) hI
  have hM2 := packed_may hmay (txs_len _ _) hb2 (el s 1)
  have hsm2 : (Eb b2 (el s 1) m).size ≤ maxLen := Eb_small hb2.le.2.1 hmm
  have hel : ∀ i, i < m → el (Eb b2 (el s 1) m) b2 i = el s 1 i := fun i hi => el_encs hb2 hi (hf i hi).2
  have hback : Eb 1 (el (Eb b2 (el s 1) m) b2) m = s := by rw [Eb_congr hel]; exact Eb_el hm
  have hz : ∀ j, j < m → ((txs (el s 1) m).getD j ByteArray.empty).size ≤ maxLen := fun j hj => (txs_Is hj (hI j hj).1).size
  have KV := fun w (hbl : Below W.heap.size W w) a (hs1 : Sl w a 1 [(m : Int)]) => TVal_yes (c := 1) w hs1 (by omega) (ht.below hbl) hsm hM
  have KY := fun w (hbl : Below W.heap.size W w) a (hs1 : Sl w a 1 [(m : Int)]) => TMay_is (w := 8) (s := s) (c := 1) w hs1 (ht.below hbl).wid hsm
  rw [hM.yes] at KY
  have KVM := fun w a n c b d (hv : Vl w a n b m [(m : Int)] (txs (el s 1) m)) => VMay_is (c := c) (d := d) w hv hz
  rw [hmay] at KVM
  have KP := fun w (hbl : Below W.heap.size W w) a n c b d (hv : Vl w a n b m [(m : Int)] (txs (el s 1) m)) (hn : n ≤ 20) => Pack_yes (c := c) (d := d) (w := wid (el s 1) m) w hv hn hz (ht.below hbl) hmay (el s 1) _ (fun j hj => ⟨txs_get hj, (hI j hj).1⟩) (wid_is fun j hj => txs_Is hj (hI j hj).1) rfl hb2
  have KT := fun w (hbl : Below W.heap.size W w) a' n' c' (hs1 : Sl w a' n' [(m : Int)]) (hn : n' ≤ 20) => TTo_yes (c := c') w hs1 hn (ht.below hbl).wid hsm2 hM2 hb (fun i hi => by rw [hel i hi]; exact (hI i hi).2)
  rw [hback] at KT
  generalize Eb b2 (el s 1) m = s2 at KP KT
  generalize wid (el s 1) m = w2 at KP KT hwl
  have hel2 := txs_len (el s 1) m
  generalize txs (el s 1) m = es at KV KVM KP hel2
  have HEL := Lib.hid hel2
  replace KV := Lib.hid KV
  replace KY := Lib.hid KY
  replace KVM := Lib.hid KVM
  replace KP := Lib.hid KP
  replace KT := Lib.hid KT
  have HW := Lib.hid ht
  have hmd : (s.size : Int) / 1 = m := by omega
  have hmm : (s.size : Int) % 1 = 0 := by omega
  have hs0 : (0 : Int) ≤ s.size := by omega
  have hsz : (s.size : Int) ≤ 2400 := by omega
  have HWD := Lib.hid (And.intro (show IntKind.i64.wrap ((s.size : Int).tdiv 1) = m by rw [Int.tdiv_eq_ediv_of_nonneg hs0, hmd]; exact IntWalk.i64_in _ (by omega)) (show IntKind.i64.wrap ((s.size : Int) / 1) = m by rw [hmd]; exact IntWalk.i64_in _ (by omega)))
  have HE := Lib.hid (show (s.size : Int) = m by omega)
  clear hb hsm hM hI hmay hb2 hf hM2 hsm2 hel hback hz ht hm hs hel2
  go_enter Tryd.func7, Tryd.ntmps7
  go_wp2_with fail
  refine (shown_is _ HW.out).mono ?_
  rintro e w1 ⟨rfl, hb1⟩
  go_wp2_with fail
  obtain ⟨h2, h3, hbl⟩ := three_new w1 (.cells #[.int .i64 8, .int .i64 16, .int .i64 32, .int .i64 64] 3) (.cells #[.int .i64 s.size] 3) (.cells #[.int .i64 8, .slice (some ⟨w1.heap.size + 1, 0, none⟩) 1 1, .string s] 29)
  have hS5 : Sl _ (some ⟨w1.heap.size + 1, 0, none⟩) 1 [(s.size : Int)] := Sl.row (l := [(s.size : Int)]) h2
  have hS5 := (congrArg (Sl _ _ _) (show [(s.size : Int)] = [(m : Int)] by rw [HE.out])).mp hS5
  have hT5 : Tx 29 _ (w1.heap.size + 1 + 1) 8 (some ⟨w1.heap.size + 1, 0, none⟩) 1 1 s := h3
  have hb5 := hb1.trans (hbl.mono hb1.size)
  have hlo : W.heap.size ≤ w1.heap.size := hb1.size
  clear h2 h3 hbl hb1
  refine (KV.out _ hb5 _ hS5).mono ?_
  rintro e w6 ⟨ax, nx, cx, bx, mx, dx, rfl, hX, hnx, hb⟩
  obtain rfl : m = mx := by rw [← hX.t.1]; exact HEL.out.symm
  have hbl := box_below w6 (.cells #[.slice ax nx cx, .slice bx m dx] 25)
  have hT6 := (hT5.on hb).on hbl
  have hS6 := (hS5.below hb).below hbl
  have hV6 := hX.below hbl
  have hX6 := Bx.new w6 ax nx cx bx m dx
  have hb6 := (hb5.trans (hb.mono hb5.size)).alloc (Nat.le_trans hb5.size hb.size) (.cells #[.slice ax nx cx, .slice bx m dx] 25)
  clear hT5 hS5 hb5 hb hbl hX
  obtain ⟨w7, hw7⟩ : ∃ w7, w7 = w6.alloc (.cells #[.slice ax nx cx, .slice bx m dx] 25) := ⟨_, rfl⟩
  rw [← hw7] at hT6 hS6 hV6 hX6 hb6
  have x0 := hT6.c0
  have x1 := hT6.c1
  have x2 := hT6.c2
  have y0 := hX6.c0
  have y1 := hX6.c1
  have l4 : w1.heap.size + 1 + 1 < w7.heap.size := hT6.lt
  have l6 : w6.heap.size < w7.heap.size := hX6.lt
  have KQ1 := Lib.hid (fun w' (hb : Below w7.heap.size w7 w') => calls_base (v := .returned (.bool true)) hb (KY.out w' (hb6.trans (hb.mono hb6.size)) _ (hS6.below hb)))
  have KQ2 := Lib.hid (fun w' (hb : Below w7.heap.size w7 w') => calls_base (v := .returned (.bool true)) hb (KVM.out w' ax nx cx bx dx (hV6.below hb)))
  have hq : Below w7.heap.size w7 w7 := Below.refl _ _
  obtain ⟨hwd1, hwd2⟩ := HWD.out
  have hwd3 : IntKind.i64.wrap (s.size : Int) = m := by rw [HE.out]; exact IntWalk.i64_in _ (by omega)
  have hw1 : IntKind.i64.wrap 1 = 1 := IntWalk.i64_in _ (by omega)
  go_upto_region 8 with fail
  rw [← hw7]
  clear hw7
  go_region_held3 (fun w' => w'.cell? ⟨w1.heap.size + 1 + 1, 0, none⟩ = some (.int .i64 8) ∧ w'.cell? ⟨w1.heap.size + 1 + 1, 1, none⟩ = some (.slice (some ⟨w1.heap.size + 1, 0, none⟩) 1 1) ∧ w'.cell? ⟨w1.heap.size + 1 + 1, 2, none⟩ = some (.string s) ∧ w'.cell? ⟨w6.heap.size, 0, none⟩ = some (.slice ax nx cx) ∧ w'.cell? ⟨w6.heap.size, 1, none⟩ = some (.slice bx m dx))
    (first | exact ⟨(Below.cell (p := ⟨w1.heap.size + 1 + 1, 0, none⟩) (by repeat' (first | exact hq | refine Below.drew ?_ | refine below_drewN ?_ _)) l4).trans x0, (Below.cell (p := ⟨w1.heap.size + 1 + 1, 1, none⟩) (by repeat' (first | exact hq | refine Below.drew ?_ | refine below_drewN ?_ _)) l4).trans x1, (Below.cell (p := ⟨w1.heap.size + 1 + 1, 2, none⟩) (by repeat' (first | exact hq | refine Below.drew ?_ | refine below_drewN ?_ _)) l4).trans x2, (Below.cell (p := ⟨w6.heap.size, 0, none⟩) (by repeat' (first | exact hq | refine Below.drew ?_ | refine below_drewN ?_ _)) l6).trans y0, (Below.cell (p := ⟨w6.heap.size, 1, none⟩) (by repeat' (first | exact hq | refine Below.drew ?_ | refine below_drewN ?_ _)) l6).trans y1⟩ | fail)
    (first
      | (go_at_call 22; (with_reducible refine (KQ1.out _ (by repeat' (first | exact hq | refine Below.drew ?_ | refine below_drewN ?_ _))).mono ?_); rintro e wa ⟨rfl, hq⟩)
      | (go_at_call 27; (with_reducible refine (KQ2.out _ (by repeat' (first | exact hq | refine Below.drew ?_ | refine below_drewN ?_ _))).mono ?_); rintro e wb ⟨rfl, hq⟩))
  clear hwd1 hwd2 hwd3 hw1
  have hXb := hX6.below hq l6
  have hVb := hV6.below hq
  have hbb := hb6.trans (hq.mono hb6.size)
  have z0 := hXb.c0
  have z1 := hXb.c1
  clear hT6 hS6 hV6 hX6 hb6 hq x0 x1 x2 y0 y1 l4 l6 KQ1 KQ2
  go_wp2_with fail
  refine (KP.out _ hbb _ _ _ _ _ hVb hnx).mono ?_
  rintro e wc ⟨a', n', c', rfl, hS, hn', hb⟩
  have hbl := box_below wc (.cells #[.int .i64 w2, .slice a' n' c', .string s2] 29)
  have hT7 := Tx.new 29 wc w2 a' n' c' s2
  have hS7 := hS.below hbl
  have hb7 := (hbb.trans (hb.mono hbb.size)).alloc (Nat.le_trans hbb.size hb.size) (.cells #[.int .i64 w2, .slice a' n' c', .string s2] 29)
  clear hXb hVb hbb hb hS hbl z0 z1
  go_wp2_with fail
  refine (KT.out _ hb7 _ _ _ hS7 hn').mono ?_
  rintro e wd ⟨ay, ny, cy, rfl, hSy, hny, hb⟩
  have hT8 := (hT7.on hb).alloc (.cells #[.int .i64 8, .slice ay ny cy, .string s] 29)
  have hb8 := (hb7.trans (hb.mono hb7.size)).alloc (Nat.le_trans hb7.size hb.size) (.cells #[.int .i64 8, .slice ay ny cy, .string s] 29)
  have x0 := hT8.c0
  clear hT7 hS7 hb7 hb hSy
  go_wp2_with fail
  go_ret
  exact ⟨by simp [hwl], hb8⟩
set_option maxRecDepth 10000 in
set_option maxHeartbeats 6400000 in
theorem bytes_16 {s : ByteArray} {k : Int} {m : Nat} (W : World) (ht : WT W) (hk1 : k % 4 = 1) (hk2 : k.tmod 4 = 1) (hk0 : 0 ≤ k) (hk3 : k ≤ 255) (hs : s.size ≤ 2400) (hm : s.size = m * 2) :
    Calls Tryd.prog 7 #[.string s, .int .u8 k] W (TrueEnd W) := by
  have hb : Bw 16 2 := .inr (.inl ⟨rfl, rfl⟩)
  have hmm : m ≤ 4096 := by omega
  have hsm : s.size ≤ maxLen := by unfold maxLen; omega
  have hM := one_may hb hm hmm
  have hI : ∀ j, j < m → I64 (el s 2 j) ∧ Fit (el s 2 j) 16 := fun j hj => ⟨(el_fit hb hm hj).i64 hb, el_fit hb hm hj⟩
  have hmay := one_mayV hM (x := el s 2) (fun j hj => (hI j hj).1)
  obtain ⟨b2, hb2, hf⟩ := wid_in (x := el s 2) (m := m) (fun j hj => (hI j hj).1)
  have hwl := wid_le (x := el s 2) (m := m) (w := 16) (by decide) hI
  have hM2 := packed_may hmay (txs_len _ _) hb2 (el s 2)
  have hsm2 : (Eb b2 (el s 2) m).size ≤ maxLen := Eb_small hb2.le.2.1 hmm
  have hel : ∀ i, i < m → el (Eb b2 (el s 2) m) b2 i = el s 2 i := fun i hi => el_encs hb2 hi (hf i hi).2
  have hback : Eb 2 (el (Eb b2 (el s 2) m) b2) m = s := by rw [Eb_congr hel]; exact Eb_el hm
  have hz : ∀ j, j < m → ((txs (el s 2) m).getD j ByteArray.empty).size ≤ maxLen := fun j hj => (txs_Is hj (hI j hj).1).size
  have KV := fun w (hbl : Below W.heap.size W w) a (hs1 : Sl w a 1 [(m : Int)]) => TVal_yes (c := 1) w hs1 (by omega) (ht.below hbl) hsm hM
  have KY := fun w (hbl : Below W.heap.size W w) a (hs1 : Sl w a 1 [(m : Int)]) => TMay_is (w := 16) (s := s) (c := 1) w hs1 (ht.below hbl).wid hsm
  rw [hM.yes] at KY
  have KVM := fun w a n c b d (hv : Vl w a n b m [(m : Int)] (txs (el s 2) m)) => VMay_is (c := c) (d := d) w hv hz
  rw [hmay] at KVM
  have KP := fun w (hbl : Below W.heap.size W w) a n c b d (hv : Vl w a n b m [(m : Int)] (txs (el s 2) m)) (hn : n ≤ 20) => Pack_yes (c := c) (d := d) (w := wid (el s 2) m) w hv hn hz (ht.below hbl) hmay (el s 2) _ (fun j hj => ⟨txs_get hj, (hI j hj).1⟩) (wid_is fun j hj => txs_Is hj (hI j hj).1) rfl hb2
  have KT := fun w (hbl : Below W.heap.size W w) a' n' c' (hs1 : Sl w a' n' [(m : Int)]) (hn : n' ≤ 20) => TTo_yes (c := c') w hs1 hn (ht.below hbl).wid hsm2 hM2 hb (fun i hi => by rw [hel i hi]; exact (hI i hi).2)
  rw [hback] at KT
  generalize Eb b2 (el s 2) m = s2 at KP KT
  generalize wid (el s 2) m = w2 at KP KT hwl
  have hel2 := txs_len (el s 2) m
  generalize txs (el s 2) m = es at KV KVM KP hel2
  have HEL := Lib.hid hel2
  replace KV := Lib.hid KV
  replace KY := Lib.hid KY
  replace KVM := Lib.hid KVM
  replace KP := Lib.hid KP
  replace KT := Lib.hid KT
  have HW := Lib.hid ht
  have hmd : (s.size : Int) / 2 = m := by omega
  have hmm : (s.size : Int) % 2 = 0 := by omega
  have hs0 : (0 : Int) ≤ s.size := by omega
  have hsz : (s.size : Int) ≤ 2400 := by omega
  have HWD := Lib.hid (And.intro (show IntKind.i64.wrap ((s.size : Int).tdiv 2) = m by rw [Int.tdiv_eq_ediv_of_nonneg hs0, hmd]; exact IntWalk.i64_in _ (by omega)) (show IntKind.i64.wrap ((s.size : Int) / 2) = m by rw [hmd]; exact IntWalk.i64_in _ (by omega)))
  have HE := Lib.hid (show (m : Int) = m by omega)
  clear hb hsm hM hI hmay hb2 hf hM2 hsm2 hel hback hz ht hm hs hel2
  go_enter Tryd.func7, Tryd.ntmps7
  go_wp2_with fail
  refine (shown_is _ HW.out).mono ?_
  rintro e w1 ⟨rfl, hb1⟩
  go_wp2_with fail
  obtain ⟨h2, h3, hbl⟩ := three_new w1 (.cells #[.int .i64 8, .int .i64 16, .int .i64 32, .int .i64 64] 3) (.cells #[.int .i64 m] 3) (.cells #[.int .i64 16, .slice (some ⟨w1.heap.size + 1, 0, none⟩) 1 1, .string s] 29)
  have hS5 : Sl _ (some ⟨w1.heap.size + 1, 0, none⟩) 1 [(m : Int)] := Sl.row (l := [(m : Int)]) h2
  have hT5 : Tx 29 _ (w1.heap.size + 1 + 1) 16 (some ⟨w1.heap.size + 1, 0, none⟩) 1 1 s := h3
  have hb5 := hb1.trans (hbl.mono hb1.size)
  have hlo : W.heap.size ≤ w1.heap.size := hb1.size
  clear h2 h3 hbl hb1
  refine (KV.out _ hb5 _ hS5).mono ?_
  rintro e w6 ⟨ax, nx, cx, bx, mx, dx, rfl, hX, hnx, hb⟩
  obtain rfl : m = mx := by rw [← hX.t.1]; exact HEL.out.symm
  have hbl := box_below w6 (.cells #[.slice ax nx cx, .slice bx m dx] 25)
  have hT6 := (hT5.on hb).on hbl
  have hS6 := (hS5.below hb).below hbl
  have hV6 := hX.below hbl
  have hX6 := Bx.new w6 ax nx cx bx m dx
  have hb6 := (hb5.trans (hb.mono hb5.size)).alloc (Nat.le_trans hb5.size hb.size) (.cells #[.slice ax nx cx, .slice bx m dx] 25)
  clear hT5 hS5 hb5 hb hbl hX
  obtain ⟨w7, hw7⟩ : ∃ w7, w7 = w6.alloc (.cells #[.slice ax nx cx, .slice bx m dx] 25) := ⟨_, rfl⟩
  rw [← hw7] at hT6 hS6 hV6 hX6 hb6
  have x0 := hT6.c0
  have x1 := hT6.c1
  have x2 := hT6.c2
  have y0 := hX6.c0
  have y1 := hX6.c1
  have l4 : w1.heap.size + 1 + 1 < w7.heap.size := hT6.lt
  have l6 : w6.heap.size < w7.heap.size := hX6.lt
  have KQ1 := Lib.hid (fun w' (hb : Below w7.heap.size w7 w') => calls_base (v := .returned (.bool true)) hb (KY.out w' (hb6.trans (hb.mono hb6.size)) _ (hS6.below hb)))
  have KQ2 := Lib.hid (fun w' (hb : Below w7.heap.size w7 w') => calls_base (v := .returned (.bool true)) hb (KVM.out w' ax nx cx bx dx (hV6.below hb)))
  have hq : Below w7.heap.size w7 w7 := Below.refl _ _
  obtain ⟨hwd1, hwd2⟩ := HWD.out
  have hw1 : IntKind.i64.wrap 2 = 2 := IntWalk.i64_in _ (by omega)
  have hwd3 : IntKind.i64.wrap (m : Int) = m := IntWalk.i64_in _ (by omega)
  go_upto_region 8 with fail
  rw [← hw7]
  clear hw7
  go_region_held3 (fun w' => w'.cell? ⟨w1.heap.size + 1 + 1, 0, none⟩ = some (.int .i64 16) ∧ w'.cell? ⟨w1.heap.size + 1 + 1, 1, none⟩ = some (.slice (some ⟨w1.heap.size + 1, 0, none⟩) 1 1) ∧ w'.cell? ⟨w1.heap.size + 1 + 1, 2, none⟩ = some (.string s) ∧ w'.cell? ⟨w6.heap.size, 0, none⟩ = some (.slice ax nx cx) ∧ w'.cell? ⟨w6.heap.size, 1, none⟩ = some (.slice bx m dx))
    (first | exact ⟨(Below.cell (p := ⟨w1.heap.size + 1 + 1, 0, none⟩) (by repeat' (first | exact hq | refine Below.drew ?_ | refine below_drewN ?_ _)) l4).trans x0, (Below.cell (p := ⟨w1.heap.size + 1 + 1, 1, none⟩) (by repeat' (first | exact hq | refine Below.drew ?_ | refine below_drewN ?_ _)) l4).trans x1, (Below.cell (p := ⟨w1.heap.size + 1 + 1, 2, none⟩) (by repeat' (first | exact hq | refine Below.drew ?_ | refine below_drewN ?_ _)) l4).trans x2, (Below.cell (p := ⟨w6.heap.size, 0, none⟩) (by repeat' (first | exact hq | refine Below.drew ?_ | refine below_drewN ?_ _)) l6).trans y0, (Below.cell (p := ⟨w6.heap.size, 1, none⟩) (by repeat' (first | exact hq | refine Below.drew ?_ | refine below_drewN ?_ _)) l6).trans y1⟩ | fail)
    (first
      | (go_at_call 22; (with_reducible refine (KQ1.out _ (by repeat' (first | exact hq | refine Below.drew ?_ | refine below_drewN ?_ _))).mono ?_); rintro e wa ⟨rfl, hq⟩)
      | (go_at_call 27; (with_reducible refine (KQ2.out _ (by repeat' (first | exact hq | refine Below.drew ?_ | refine below_drewN ?_ _))).mono ?_); rintro e wb ⟨rfl, hq⟩))
  clear hwd1 hwd2 hwd3 hw1
  have hXb := hX6.below hq l6
  have hVb := hV6.below hq
  have hbb := hb6.trans (hq.mono hb6.size)
  have z0 := hXb.c0
  have z1 := hXb.c1
  clear hT6 hS6 hV6 hX6 hb6 hq x0 x1 x2 y0 y1 l4 l6 KQ1 KQ2
  go_wp2_with fail
  refine (KP.out _ hbb _ _ _ _ _ hVb hnx).mono ?_
  rintro e wc ⟨a', n', c', rfl, hS, hn', hb⟩
  have hbl := box_below wc (.cells #[.int .i64 w2, .slice a' n' c', .string s2] 29)
  have hT7 := Tx.new 29 wc w2 a' n' c' s2
  have hS7 := hS.below hbl
  have hb7 := (hbb.trans (hb.mono hbb.size)).alloc (Nat.le_trans hbb.size hb.size) (.cells #[.int .i64 w2, .slice a' n' c', .string s2] 29)
  clear hXb hVb hbb hb hS hbl z0 z1
  go_wp2_with fail
  refine (KT.out _ hb7 _ _ _ hS7 hn').mono ?_
  rintro e wd ⟨ay, ny, cy, rfl, hSy, hny, hb⟩
  have hT8 := (hT7.on hb).alloc (.cells #[.int .i64 16, .slice ay ny cy, .string s] 29)
  have hb8 := (hb7.trans (hb.mono hb7.size)).alloc (Nat.le_trans hb7.size hb.size) (.cells #[.int .i64 16, .slice ay ny cy, .string s] 29)
  have x0 := hT8.c0
  clear hT7 hS7 hb7 hb hSy
  go_wp2_with fail
  go_ret
  exact ⟨by simp [hwl], hb8⟩
set_option maxRecDepth 10000 in
set_option maxHeartbeats 6400000 in
theorem bytes_32 {s : ByteArray} {k : Int} {m : Nat} (W : World) (ht : WT W) (hk1 : k % 4 = 2) (hk2 : k.tmod 4 = 2) (hk0 : 0 ≤ k) (hk3 : k ≤ 255) (hs : s.size ≤ 2400) (hm : s.size = m * 4) :
    Calls Tryd.prog 7 #[.string s, .int .u8 k] W (TrueEnd W) := by
  have hb : Bw 32 4 := .inr (.inr (.inl ⟨rfl, rfl⟩))
  have hmm : m ≤ 4096 := by omega
  have hsm : s.size ≤ maxLen := by unfold maxLen; omega
  have hM := one_may hb hm hmm
  have hI : ∀ j, j < m → I64 (el s 4 j) ∧ Fit (el s 4 j) 32 := fun j hj => ⟨(el_fit hb hm hj).i64 hb, el_fit hb hm hj⟩
  have hmay := one_mayV hM (x := el s 4) (fun j hj => (hI j hj).1)
  obtain ⟨b2, hb2, hf⟩ := wid_in (x := el s 4) (m := m) (fun j hj => (hI j hj).1)
  have hwl := wid_le (x := el s 4) (m := m) (w := 32) (by decide) hI
  have hM2 := packed_may hmay (txs_len _ _) hb2 (el s 4)
  have hsm2 : (Eb b2 (el s 4) m).size ≤ maxLen := Eb_small hb2.le.2.1 hmm
  have hel : ∀ i, i < m → el (Eb b2 (el s 4) m) b2 i = el s 4 i := fun i hi => el_encs hb2 hi (hf i hi).2
  have hback : Eb 4 (el (Eb b2 (el s 4) m) b2) m = s := by rw [Eb_congr hel]; exact Eb_el hm
  have hz : ∀ j, j < m → ((txs (el s 4) m).getD j ByteArray.empty).size ≤ maxLen := fun j hj => (txs_Is hj (hI j hj).1).size
  have KV := fun w (hbl : Below W.heap.size W w) a (hs1 : Sl w a 1 [(m : Int)]) => TVal_yes (c := 1) w hs1 (by omega) (ht.below hbl) hsm hM
  have KY := fun w (hbl : Below W.heap.size W w) a (hs1 : Sl w a 1 [(m : Int)]) => TMay_is (w := 32) (s := s) (c := 1) w hs1 (ht.below hbl).wid hsm
  rw [hM.yes] at KY
  have KVM := fun w a n c b d (hv : Vl w a n b m [(m : Int)] (txs (el s 4) m)) => VMay_is (c := c) (d := d) w hv hz
  rw [hmay] at KVM
  have KP := fun w (hbl : Below W.heap.size W w) a n c b d (hv : Vl w a n b m [(m : Int)] (txs (el s 4) m)) (hn : n ≤ 20) => Pack_yes (c := c) (d := d) (w := wid (el s 4) m) w hv hn hz (ht.below hbl) hmay (el s 4) _ (fun j hj => ⟨txs_get hj, (hI j hj).1⟩) (wid_is fun j hj => txs_Is hj (hI j hj).1) rfl hb2
  have KT := fun w (hbl : Below W.heap.size W w) a' n' c' (hs1 : Sl w a' n' [(m : Int)]) (hn : n' ≤ 20) => TTo_yes (c := c') w hs1 hn (ht.below hbl).wid hsm2 hM2 hb (fun i hi => by rw [hel i hi]; exact (hI i hi).2)
  rw [hback] at KT
  generalize Eb b2 (el s 4) m = s2 at KP KT
  generalize wid (el s 4) m = w2 at KP KT hwl
  have hel2 := txs_len (el s 4) m
  generalize txs (el s 4) m = es at KV KVM KP hel2
  have HEL := Lib.hid hel2
  replace KV := Lib.hid KV
  replace KY := Lib.hid KY
  replace KVM := Lib.hid KVM
  replace KP := Lib.hid KP
  replace KT := Lib.hid KT
  have HW := Lib.hid ht
  have hmd : (s.size : Int) / 4 = m := by omega
  have hmm : (s.size : Int) % 4 = 0 := by omega
  have hs0 : (0 : Int) ≤ s.size := by omega
  have hsz : (s.size : Int) ≤ 2400 := by omega
  have HWD := Lib.hid (And.intro (show IntKind.i64.wrap ((s.size : Int).tdiv 4) = m by rw [Int.tdiv_eq_ediv_of_nonneg hs0, hmd]; exact IntWalk.i64_in _ (by omega)) (show IntKind.i64.wrap ((s.size : Int) / 4) = m by rw [hmd]; exact IntWalk.i64_in _ (by omega)))
  have HE := Lib.hid (show (m : Int) = m by omega)
  clear hb hsm hM hI hmay hb2 hf hM2 hsm2 hel hback hz ht hm hs hel2
  go_enter Tryd.func7, Tryd.ntmps7
  go_wp2_with fail
  refine (shown_is _ HW.out).mono ?_
  rintro e w1 ⟨rfl, hb1⟩
  go_wp2_with fail
  obtain ⟨h2, h3, hbl⟩ := three_new w1 (.cells #[.int .i64 8, .int .i64 16, .int .i64 32, .int .i64 64] 3) (.cells #[.int .i64 m] 3) (.cells #[.int .i64 32, .slice (some ⟨w1.heap.size + 1, 0, none⟩) 1 1, .string s] 29)
  have hS5 : Sl _ (some ⟨w1.heap.size + 1, 0, none⟩) 1 [(m : Int)] := Sl.row (l := [(m : Int)]) h2
  have hT5 : Tx 29 _ (w1.heap.size + 1 + 1) 32 (some ⟨w1.heap.size + 1, 0, none⟩) 1 1 s := h3
  have hb5 := hb1.trans (hbl.mono hb1.size)
  have hlo : W.heap.size ≤ w1.heap.size := hb1.size
  clear h2 h3 hbl hb1
  refine (KV.out _ hb5 _ hS5).mono ?_
  rintro e w6 ⟨ax, nx, cx, bx, mx, dx, rfl, hX, hnx, hb⟩
  obtain rfl : m = mx := by rw [← hX.t.1]; exact HEL.out.symm
  have hbl := box_below w6 (.cells #[.slice ax nx cx, .slice bx m dx] 25)
  have hT6 := (hT5.on hb).on hbl
  have hS6 := (hS5.below hb).below hbl
  have hV6 := hX.below hbl
  have hX6 := Bx.new w6 ax nx cx bx m dx
  have hb6 := (hb5.trans (hb.mono hb5.size)).alloc (Nat.le_trans hb5.size hb.size) (.cells #[.slice ax nx cx, .slice bx m dx] 25)
  clear hT5 hS5 hb5 hb hbl hX
  obtain ⟨w7, hw7⟩ : ∃ w7, w7 = w6.alloc (.cells #[.slice ax nx cx, .slice bx m dx] 25) := ⟨_, rfl⟩
  rw [← hw7] at hT6 hS6 hV6 hX6 hb6
  have x0 := hT6.c0
  have x1 := hT6.c1
  have x2 := hT6.c2
  have y0 := hX6.c0
  have y1 := hX6.c1
  have l4 : w1.heap.size + 1 + 1 < w7.heap.size := hT6.lt
  have l6 : w6.heap.size < w7.heap.size := hX6.lt
  have KQ1 := Lib.hid (fun w' (hb : Below w7.heap.size w7 w') => calls_base (v := .returned (.bool true)) hb (KY.out w' (hb6.trans (hb.mono hb6.size)) _ (hS6.below hb)))
  have KQ2 := Lib.hid (fun w' (hb : Below w7.heap.size w7 w') => calls_base (v := .returned (.bool true)) hb (KVM.out w' ax nx cx bx dx (hV6.below hb)))
  have hq : Below w7.heap.size w7 w7 := Below.refl _ _
  obtain ⟨hwd1, hwd2⟩ := HWD.out
  have hw1 : IntKind.i64.wrap 4 = 4 := IntWalk.i64_in _ (by omega)
  have hwd3 : IntKind.i64.wrap (m : Int) = m := IntWalk.i64_in _ (by omega)
  go_upto_region 8 with fail
  rw [← hw7]
  clear hw7
  go_region_held3 (fun w' => w'.cell? ⟨w1.heap.size + 1 + 1, 0, none⟩ = some (.int .i64 32) ∧ w'.cell? ⟨w1.heap.size + 1 + 1, 1, none⟩ = some (.slice (some ⟨w1.heap.size + 1, 0, none⟩) 1 1) ∧ w'.cell? ⟨w1.heap.size + 1 + 1, 2, none⟩ = some (.string s) ∧ w'.cell? ⟨w6.heap.size, 0, none⟩ = some (.slice ax nx cx) ∧ w'.cell? ⟨w6.heap.size, 1, none⟩ = some (.slice bx m dx))
    (first | exact ⟨(Below.cell (p := ⟨w1.heap.size + 1 + 1, 0, none⟩) (by repeat' (first | exact hq | refine Below.drew ?_ | refine below_drewN ?_ _)) l4).trans x0, (Below.cell (p := ⟨w1.heap.size + 1 + 1, 1, none⟩) (by repeat' (first | exact hq | refine Below.drew ?_ | refine below_drewN ?_ _)) l4).trans x1, (Below.cell (p := ⟨w1.heap.size + 1 + 1, 2, none⟩) (by repeat' (first | exact hq | refine Below.drew ?_ | refine below_drewN ?_ _)) l4).trans x2, (Below.cell (p := ⟨w6.heap.size, 0, none⟩) (by repeat' (first | exact hq | refine Below.drew ?_ | refine below_drewN ?_ _)) l6).trans y0, (Below.cell (p := ⟨w6.heap.size, 1, none⟩) (by repeat' (first | exact hq | refine Below.drew ?_ | refine below_drewN ?_ _)) l6).trans y1⟩ | fail)
    (first
      | (go_at_call 22; (with_reducible refine (KQ1.out _ (by repeat' (first | exact hq | refine Below.drew ?_ | refine below_drewN ?_ _))).mono ?_); rintro e wa ⟨rfl, hq⟩)
      | (go_at_call 27; (with_reducible refine (KQ2.out _ (by repeat' (first | exact hq | refine Below.drew ?_ | refine below_drewN ?_ _))).mono ?_); rintro e wb ⟨rfl, hq⟩))
  clear hwd1 hwd2 hwd3 hw1
  have hXb := hX6.below hq l6
  have hVb := hV6.below hq
  have hbb := hb6.trans (hq.mono hb6.size)
  have z0 := hXb.c0
  have z1 := hXb.c1
  clear hT6 hS6 hV6 hX6 hb6 hq x0 x1 x2 y0 y1 l4 l6 KQ1 KQ2
  go_wp2_with fail
  refine (KP.out _ hbb _ _ _ _ _ hVb hnx).mono ?_
  rintro e wc ⟨a', n', c', rfl, hS, hn', hb⟩
  have hbl := box_below wc (.cells #[.int .i64 w2, .slice a' n' c', .string s2] 29)
  have hT7 := Tx.new 29 wc w2 a' n' c' s2
  have hS7 := hS.below hbl
  have hb7 := (hbb.trans (hb.mono hbb.size)).alloc (Nat.le_trans hbb.size hb.size) (.cells #[.int .i64 w2, .slice a' n' c', .string s2] 29)
  clear hXb hVb hbb hb hS hbl z0 z1
  go_wp2_with fail
  refine (KT.out _ hb7 _ _ _ hS7 hn').mono ?_
  rintro e wd ⟨ay, ny, cy, rfl, hSy, hny, hb⟩
  have hT8 := (hT7.on hb).alloc (.cells #[.int .i64 32, .slice ay ny cy, .string s] 29)
  have hb8 := (hb7.trans (hb.mono hb7.size)).alloc (Nat.le_trans hb7.size hb.size) (.cells #[.int .i64 32, .slice ay ny cy, .string s] 29)
  have x0 := hT8.c0
  clear hT7 hS7 hb7 hb hSy
  go_wp2_with fail
  go_ret
  exact ⟨by simp [hwl], hb8⟩
set_option maxRecDepth 10000 in
set_option maxHeartbeats 6400000 in
theorem bytes_64 {s : ByteArray} {k : Int} {m : Nat} (W : World) (ht : WT W) (hk1 : k % 4 = 3) (hk2 : k.tmod 4 = 3) (hk0 : 0 ≤ k) (hk3 : k ≤ 255) (hs : s.size ≤ 2400) (hm : s.size = m * 8) :
    Calls Tryd.prog 7 #[.string s, .int .u8 k] W (TrueEnd W) := by
  have hb : Bw 64 8 := .inr (.inr (.inr ⟨rfl, rfl⟩))
  have hmm : m ≤ 4096 := by omega
  have hsm : s.size ≤ maxLen := by unfold maxLen; omega
  have hM := one_may hb hm hmm
  have hI : ∀ j, j < m → I64 (el s 8 j) ∧ Fit (el s 8 j) 64 := fun j hj => ⟨(el_fit hb hm hj).i64 hb, el_fit hb hm hj⟩
  have hmay := one_mayV hM (x := el s 8) (fun j hj => (hI j hj).1)
  obtain ⟨b2, hb2, hf⟩ := wid_in (x := el s 8) (m := m) (fun j hj => (hI j hj).1)
  have hwl := wid_le (x := el s 8) (m := m) (w := 64) (by decide) hI
  have hM2 := packed_may hmay (txs_len _ _) hb2 (el s 8)
  have hsm2 : (Eb b2 (el s 8) m).size ≤ maxLen := Eb_small hb2.le.2.1 hmm
  have hel : ∀ i, i < m → el (Eb b2 (el s 8) m) b2 i = el s 8 i := fun i hi => el_encs hb2 hi (hf i hi).2
  have hback : Eb 8 (el (Eb b2 (el s 8) m) b2) m = s := by rw [Eb_congr hel]; exact Eb_el hm
  have hz : ∀ j, j < m → ((txs (el s 8) m).getD j ByteArray.empty).size ≤ maxLen := fun j hj => (txs_Is hj (hI j hj).1).size
  have KV := fun w (hbl : Below W.heap.size W w) a (hs1 : Sl w a 1 [(m : Int)]) => TVal_yes (c := 1) w hs1 (by omega) (ht.below hbl) hsm hM
  have KY := fun w (hbl : Below W.heap.size W w) a (hs1 : Sl w a 1 [(m : Int)]) => TMay_is (w := 64) (s := s) (c := 1) w hs1 (ht.below hbl).wid hsm
  rw [hM.yes] at KY
  have KVM := fun w a n c b d (hv : Vl w a n b m [(m : Int)] (txs (el s 8) m)) => VMay_is (c := c) (d := d) w hv hz
  rw [hmay] at KVM
  have KP := fun w (hbl : Below W.heap.size W w) a n c b d (hv : Vl w a n b m [(m : Int)] (txs (el s 8) m)) (hn : n ≤ 20) => Pack_yes (c := c) (d := d) (w := wid (el s 8) m) w hv hn hz (ht.below hbl) hmay (el s 8) _ (fun j hj => ⟨txs_get hj, (hI j hj).1⟩) (wid_is fun j hj => txs_Is hj (hI j hj).1) rfl hb2
  have KT := fun w (hbl : Below W.heap.size W w) a' n' c' (hs1 : Sl w a' n' [(m : Int)]) (hn : n' ≤ 20) => TTo_yes (c := c') w hs1 hn (ht.below hbl).wid hsm2 hM2 hb (fun i hi => by rw [hel i hi]; exact (hI i hi).2)
  rw [hback] at KT
  generalize Eb b2 (el s 8) m = s2 at KP KT
  generalize wid (el s 8) m = w2 at KP KT hwl
  have hel2 := txs_len (el s 8) m
  generalize txs (el s 8) m = es at KV KVM KP hel2
  have HEL := Lib.hid hel2
  replace KV := Lib.hid KV
  replace KY := Lib.hid KY
  replace KVM := Lib.hid KVM
  replace KP := Lib.hid KP
  replace KT := Lib.hid KT
  have HW := Lib.hid ht
  have hmd : (s.size : Int) / 8 = m := by omega
  have hmm : (s.size : Int) % 8 = 0 := by omega
  have hs0 : (0 : Int) ≤ s.size := by omega
  have hsz : (s.size : Int) ≤ 2400 := by omega
  have HWD := Lib.hid (And.intro (show IntKind.i64.wrap ((s.size : Int).tdiv 8) = m by rw [Int.tdiv_eq_ediv_of_nonneg hs0, hmd]; exact IntWalk.i64_in _ (by omega)) (show IntKind.i64.wrap ((s.size : Int) / 8) = m by rw [hmd]; exact IntWalk.i64_in _ (by omega)))
  have HE := Lib.hid (show (m : Int) = m by omega)
  clear hb hsm hM hI hmay hb2 hf hM2 hsm2 hel hback hz ht hm hs hel2
  go_enter Tryd.func7, Tryd.ntmps7
  go_wp2_with fail
  refine (shown_is _ HW.out).mono ?_
  rintro e w1 ⟨rfl, hb1⟩
  go_wp2_with fail
  obtain ⟨h2, h3, hbl⟩ := three_new w1 (.cells #[.int .i64 8, .int .i64 16, .int .i64 32, .int .i64 64] 3) (.cells #[.int .i64 m] 3) (.cells #[.int .i64 64, .slice (some ⟨w1.heap.size + 1, 0, none⟩) 1 1, .string s] 29)
  have hS5 : Sl _ (some ⟨w1.heap.size + 1, 0, none⟩) 1 [(m : Int)] := Sl.row (l := [(m : Int)]) h2
  have hT5 : Tx 29 _ (w1.heap.size + 1 + 1) 64 (some ⟨w1.heap.size + 1, 0, none⟩) 1 1 s := h3
  have hb5 := hb1.trans (hbl.mono hb1.size)
  have hlo : W.heap.size ≤ w1.heap.size := hb1.size
  clear h2 h3 hbl hb1
  refine (KV.out _ hb5 _ hS5).mono ?_
  rintro e w6 ⟨ax, nx, cx, bx, mx, dx, rfl, hX, hnx, hb⟩
  obtain rfl : m = mx := by rw [← hX.t.1]; exact HEL.out.symm
  have hbl := box_below w6 (.cells #[.slice ax nx cx, .slice bx m dx] 25)
  have hT6 := (hT5.on hb).on hbl
  have hS6 := (hS5.below hb).below hbl
  have hV6 := hX.below hbl
  have hX6 := Bx.new w6 ax nx cx bx m dx
  have hb6 := (hb5.trans (hb.mono hb5.size)).alloc (Nat.le_trans hb5.size hb.size) (.cells #[.slice ax nx cx, .slice bx m dx] 25)
  clear hT5 hS5 hb5 hb hbl hX
  obtain ⟨w7, hw7⟩ : ∃ w7, w7 = w6.alloc (.cells #[.slice ax nx cx, .slice bx m dx] 25) := ⟨_, rfl⟩
  rw [← hw7] at hT6 hS6 hV6 hX6 hb6
  have x0 := hT6.c0
  have x1 := hT6.c1
  have x2 := hT6.c2
  have y0 := hX6.c0
  have y1 := hX6.c1
  have l4 : w1.heap.size + 1 + 1 < w7.heap.size := hT6.lt
  have l6 : w6.heap.size < w7.heap.size := hX6.lt
  have KQ1 := Lib.hid (fun w' (hb : Below w7.heap.size w7 w') => calls_base (v := .returned (.bool true)) hb (KY.out w' (hb6.trans (hb.mono hb6.size)) _ (hS6.below hb)))
  have KQ2 := Lib.hid (fun w' (hb : Below w7.heap.size w7 w') => calls_base (v := .returned (.bool true)) hb (KVM.out w' ax nx cx bx dx (hV6.below hb)))
  have hq : Below w7.heap.size w7 w7 := Below.refl _ _
  obtain ⟨hwd1, hwd2⟩ := HWD.out
  have hw1 : IntKind.i64.wrap 8 = 8 := IntWalk.i64_in _ (by omega)
  have hwd3 : IntKind.i64.wrap (m : Int) = m := IntWalk.i64_in _ (by omega)
  go_upto_region 8 with fail
  rw [← hw7]
  clear hw7
  go_region_held3 (fun w' => w'.cell? ⟨w1.heap.size + 1 + 1, 0, none⟩ = some (.int .i64 64) ∧ w'.cell? ⟨w1.heap.size + 1 + 1, 1, none⟩ = some (.slice (some ⟨w1.heap.size + 1, 0, none⟩) 1 1) ∧ w'.cell? ⟨w1.heap.size + 1 + 1, 2, none⟩ = some (.string s) ∧ w'.cell? ⟨w6.heap.size, 0, none⟩ = some (.slice ax nx cx) ∧ w'.cell? ⟨w6.heap.size, 1, none⟩ = some (.slice bx m dx))
    (first | exact ⟨(Below.cell (p := ⟨w1.heap.size + 1 + 1, 0, none⟩) (by repeat' (first | exact hq | refine Below.drew ?_ | refine below_drewN ?_ _)) l4).trans x0, (Below.cell (p := ⟨w1.heap.size + 1 + 1, 1, none⟩) (by repeat' (first | exact hq | refine Below.drew ?_ | refine below_drewN ?_ _)) l4).trans x1, (Below.cell (p := ⟨w1.heap.size + 1 + 1, 2, none⟩) (by repeat' (first | exact hq | refine Below.drew ?_ | refine below_drewN ?_ _)) l4).trans x2, (Below.cell (p := ⟨w6.heap.size, 0, none⟩) (by repeat' (first | exact hq | refine Below.drew ?_ | refine below_drewN ?_ _)) l6).trans y0, (Below.cell (p := ⟨w6.heap.size, 1, none⟩) (by repeat' (first | exact hq | refine Below.drew ?_ | refine below_drewN ?_ _)) l6).trans y1⟩ | fail)
    (first
      | (go_at_call 22; (with_reducible refine (KQ1.out _ (by repeat' (first | exact hq | refine Below.drew ?_ | refine below_drewN ?_ _))).mono ?_); rintro e wa ⟨rfl, hq⟩)
      | (go_at_call 27; (with_reducible refine (KQ2.out _ (by repeat' (first | exact hq | refine Below.drew ?_ | refine below_drewN ?_ _))).mono ?_); rintro e wb ⟨rfl, hq⟩))
  clear hwd1 hwd2 hwd3 hw1
  have hXb := hX6.below hq l6
  have hVb := hV6.below hq
  have hbb := hb6.trans (hq.mono hb6.size)
  have z0 := hXb.c0
  have z1 := hXb.c1
  clear hT6 hS6 hV6 hX6 hb6 hq x0 x1 x2 y0 y1 l4 l6 KQ1 KQ2
  go_wp2_with fail
  refine (KP.out _ hbb _ _ _ _ _ hVb hnx).mono ?_
  rintro e wc ⟨a', n', c', rfl, hS, hn', hb⟩
  have hbl := box_below wc (.cells #[.int .i64 w2, .slice a' n' c', .string s2] 29)
  have hT7 := Tx.new 29 wc w2 a' n' c' s2
  have hS7 := hS.below hbl
  have hb7 := (hbb.trans (hb.mono hbb.size)).alloc (Nat.le_trans hbb.size hb.size) (.cells #[.int .i64 w2, .slice a' n' c', .string s2] 29)
  clear hXb hVb hbb hb hS hbl z0 z1
  go_wp2_with fail
  refine (KT.out _ hb7 _ _ _ hS7 hn').mono ?_
  rintro e wd ⟨ay, ny, cy, rfl, hSy, hny, hb⟩
  have hT8 := (hT7.on hb).alloc (.cells #[.int .i64 64, .slice ay ny cy, .string s] 29)
  have hb8 := (hb7.trans (hb.mono hb7.size)).alloc (Nat.le_trans hb7.size hb.size) (.cells #[.int .i64 64, .slice ay ny cy, .string s] 29)
  have x0 := hT8.c0
  clear hT7 hS7 hb7 hb hSy
  go_wp2_with fail
  go_ret
  exact ⟨by simp [hwl], hb8⟩
set_option maxRecDepth 10000 in
set_option maxHeartbeats 1600000 in
theorem bytes_not8 {s : ByteArray} {k : Int} (W : World) (ht : WT W) (hk1 : k % 4 = 0) (hk2 : k.tmod 4 = 0) (hk0 : 0 ≤ k) (hk3 : k ≤ 255) (hz : s.size ≤ maxLen) (h : 2400 < s.size ∨ (s.size : Int) % 1 ≠ 0) :
    Calls Tryd.prog 7 #[.string s, .int .u8 k] W (TrueEnd W) := by
  have HW := Lib.hid ht
  clear ht
  unfold maxLen at hz
  have hs0 : (0 : Int) ≤ s.size := by omega
  by_cases h1 : 2400 < s.size
  · have e1 : (2400 : Int) < s.size := by omega
    clear h
    go_enter Tryd.func7, Tryd.ntmps7
    go_wp2_with fail
    refine (shown_is _ HW.out).mono ?_
    rintro e w1 ⟨rfl, hb1⟩
    go_wp2_with fail
    go_ret
    exact ⟨rfl, hb1.alloc hb1.size _⟩
  · have e1 : ¬ (2400 : Int) < s.size := by omega
    have e2 : (s.size : Int) % 1 ≠ 0 := by omega
    have e3 : (s.size : Int).tmod 1 ≠ 0 := by rw [Int.tmod_eq_emod_of_nonneg hs0]; exact e2
    have e4 : ((s.size : Int) % 1 != 0) = true := bne_iff_ne.2 e2
    have e5 : ((s.size : Int).tmod 1 != 0) = true := bne_iff_ne.2 e3
    clear h
    exfalso
    omega
set_option maxRecDepth 10000 in
set_option maxHeartbeats 1600000 in
theorem bytes_not16 {s : ByteArray} {k : Int} (W : World) (ht : WT W) (hk1 : k % 4 = 1) (hk2 : k.tmod 4 = 1) (hk0 : 0 ≤ k) (hk3 : k ≤ 255) (hz : s.size ≤ maxLen) (h : 2400 < s.size ∨ (s.size : Int) % 2 ≠ 0) :
    Calls Tryd.prog 7 #[.string s, .int .u8 k] W (TrueEnd W) := by
  have HW := Lib.hid ht
  clear ht
  unfold maxLen at hz
  have hs0 : (0 : Int) ≤ s.size := by omega
  by_cases h1 : 2400 < s.size
  · have e1 : (2400 : Int) < s.size := by omega
    clear h
    go_enter Tryd.func7, Tryd.ntmps7
    go_wp2_with fail
    refine (shown_is _ HW.out).mono ?_
    rintro e w1 ⟨rfl, hb1⟩
    go_wp2_with fail
    go_ret
    exact ⟨rfl, hb1.alloc hb1.size _⟩
  · have e1 : ¬ (2400 : Int) < s.size := by omega
    have e2 : (s.size : Int) % 2 ≠ 0 := by omega
    have e3 : (s.size : Int).tmod 2 ≠ 0 := by rw [Int.tmod_eq_emod_of_nonneg hs0]; exact e2
    have e4 : ((s.size : Int) % 2 != 0) = true := bne_iff_ne.2 e2
    have e5 : ((s.size : Int).tmod 2 != 0) = true := bne_iff_ne.2 e3
    clear h
    go_enter Tryd.func7, Tryd.ntmps7
    go_wp2_with fail
    refine (shown_is _ HW.out).mono ?_
    rintro e w1 ⟨rfl, hb1⟩
    go_wp2_with fail
    go_ret
    exact ⟨rfl, hb1.alloc hb1.size _⟩
set_option maxRecDepth 10000 in
set_option maxHeartbeats 1600000 in
theorem bytes_not32 {s : ByteArray} {k : Int} (W : World) (ht : WT W) (hk1 : k % 4 = 2) (hk2 : k.tmod 4 = 2) (hk0 : 0 ≤ k) (hk3 : k ≤ 255) (hz : s.size ≤ maxLen) (h : 2400 < s.size ∨ (s.size : Int) % 4 ≠ 0) :
    Calls Tryd.prog 7 #[.string s, .int .u8 k] W (TrueEnd W) := by
  have HW := Lib.hid ht
  clear ht
  unfold maxLen at hz
  have hs0 : (0 : Int) ≤ s.size := by omega
  by_cases h1 : 2400 < s.size
  · have e1 : (2400 : Int) < s.size := by omega
    clear h
    go_enter Tryd.func7, Tryd.ntmps7
    go_wp2_with fail
    refine (shown_is _ HW.out).mono ?_
    rintro e w1 ⟨rfl, hb1⟩
    go_wp2_with fail
    go_ret
    exact ⟨rfl, hb1.alloc hb1.size _⟩
  · have e1 : ¬ (2400 : Int) < s.size := by omega
    have e2 : (s.size : Int) % 4 ≠ 0 := by omega
    have e3 : (s.size : Int).tmod 4 ≠ 0 := by rw [Int.tmod_eq_emod_of_nonneg hs0]; exact e2
    have e4 : ((s.size : Int) % 4 != 0) = true := bne_iff_ne.2 e2
    have e5 : ((s.size : Int).tmod 4 != 0) = true := bne_iff_ne.2 e3
    clear h
    go_enter Tryd.func7, Tryd.ntmps7
    go_wp2_with fail
    refine (shown_is _ HW.out).mono ?_
    rintro e w1 ⟨rfl, hb1⟩
    go_wp2_with fail
    go_ret
    exact ⟨rfl, hb1.alloc hb1.size _⟩
set_option maxRecDepth 10000 in
set_option maxHeartbeats 1600000 in
theorem bytes_not64 {s : ByteArray} {k : Int} (W : World) (ht : WT W) (hk1 : k % 4 = 3) (hk2 : k.tmod 4 = 3) (hk0 : 0 ≤ k) (hk3 : k ≤ 255) (hz : s.size ≤ maxLen) (h : 2400 < s.size ∨ (s.size : Int) % 8 ≠ 0) :
    Calls Tryd.prog 7 #[.string s, .int .u8 k] W (TrueEnd W) := by
  have HW := Lib.hid ht
  clear ht
  unfold maxLen at hz
  have hs0 : (0 : Int) ≤ s.size := by omega
  by_cases h1 : 2400 < s.size
  · have e1 : (2400 : Int) < s.size := by omega
    clear h
    go_enter Tryd.func7, Tryd.ntmps7
    go_wp2_with fail
    refine (shown_is _ HW.out).mono ?_
    rintro e w1 ⟨rfl, hb1⟩
    go_wp2_with fail
    go_ret
    exact ⟨rfl, hb1.alloc hb1.size _⟩
  · have e1 : ¬ (2400 : Int) < s.size := by omega
    have e2 : (s.size : Int) % 8 ≠ 0 := by omega
    have e3 : (s.size : Int).tmod 8 ≠ 0 := by rw [Int.tmod_eq_emod_of_nonneg hs0]; exact e2
    have e4 : ((s.size : Int) % 8 != 0) = true := bne_iff_ne.2 e2
    have e5 : ((s.size : Int).tmod 8 != 0) = true := bne_iff_ne.2 e3
    clear h
    go_enter Tryd.func7, Tryd.ntmps7
    go_wp2_with fail
    refine (shown_is _ HW.out).mono ?_
    rintro e w1 ⟨rfl, hb1⟩
    go_wp2_with fail
    go_ret
    exact ⟨rfl, hb1.alloc hb1.size _⟩
theorem bytes_any {s : ByteArray} {k : Int} (W : World) (ht : WT W) (hk0 : 0 ≤ k) (hk3 : k ≤ 255) (hz : s.size ≤ maxLen) :
    Calls Tryd.prog 7 #[.string s, .int .u8 k] W (TrueEnd W) := by
  have h : k.tmod 4 = k % 4 := Int.tmod_eq_emod_of_nonneg hk0
  have h4 : k % 4 = 0 ∨ k % 4 = 1 ∨ k % 4 = 2 ∨ k % 4 = 3 := by omega
  rcases h4 with e | e | e | e
  · by_cases hh : 2400 < s.size ∨ (s.size : Int) % 1 ≠ 0
    · exact bytes_not8 W ht e (h.trans e) hk0 hk3 hz hh
    · exact bytes_8 (m := s.size / 1) W ht e (h.trans e) hk0 hk3 (by omega) (by omega)
  · by_cases hh : 2400 < s.size ∨ (s.size : Int) % 2 ≠ 0
    · exact bytes_not16 W ht e (h.trans e) hk0 hk3 hz hh
    · exact bytes_16 (m := s.size / 2) W ht e (h.trans e) hk0 hk3 (by omega) (by omega)
  · by_cases hh : 2400 < s.size ∨ (s.size : Int) % 4 ≠ 0
    · exact bytes_not32 W ht e (h.trans e) hk0 hk3 hz hh
    · exact bytes_32 (m := s.size / 4) W ht e (h.trans e) hk0 hk3 (by omega) (by omega)
  · by_cases hh : 2400 < s.size ∨ (s.size : Int) % 8 ≠ 0
    · exact bytes_not64 W ht e (h.trans e) hk0 hk3 hz hh
    · exact bytes_64 (m := s.size / 8) W ht e (h.trans e) hk0 hk3 (by omega) (by omega)
end Go.Proofs.YtdehcdnbalbdbaaDoor

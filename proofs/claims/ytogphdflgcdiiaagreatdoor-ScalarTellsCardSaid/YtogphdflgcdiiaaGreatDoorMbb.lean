import Derived.Test.YtogphdflgcdiiaaGreatDoorMba
namespace Go.Proofs.YtogphdflgcdiiaaGreatDoor
set_option linter.unusedVariables false
set_option linter.unusedSimpArgs false
open Go.RowKit

def OpPost (z : Int) (w : World) (e : Ending) (w' : World) : Prop := e = .returned (.tuple #[.string (toldR z), .int .i64 (toldE z)]) ∧ Below w.heap.size w w'
set_option maxRecDepth 10000 in
theorem Add_yes (x y : Int) (w : World) (hx : x.natAbs < lim) (hy : y.natAbs < lim) (htab : Tab w) : Calls Tryz.prog 30 #[.string (S x), .string (S y)] w (OpPost (x + y) w) := by
  have hT := together_yes 57 (enters_of Tryz.func57 (by kernel_rfl) rfl) x y _ _ w hx hy htab (add_does x y hx hy)
  have HT := Lib.hid hT
  obtain ⟨r, hr⟩ : ∃ r, r = toldR (x + y) := ⟨_, rfl⟩
  obtain ⟨ec, hec⟩ : ∃ r, r = toldE (x + y) := ⟨_, rfl⟩
  rw [← hr, ← hec] at HT
  have HE := Lib.hid (And.intro hr hec)
  clear hT hr hec hx hy
  go_enter Tryz.func30, Tryz.ntmps30
  go_wp2_with fail
  refine HT.out.mono ?_
  rintro e w1 ⟨rfl, hb⟩
  go_wp2_with fail
  go_ret2
  exact ⟨by rw [← HE.out.1, ← HE.out.2]; rfl, hb⟩
set_option maxRecDepth 10000 in
theorem Add_no (s t : ByteArray) (w : World) (hs : s.size ≤ maxLen) (ht : t.size ≤ maxLen) (h : (mayL s.data.toList && mayL t.data.toList) = false) : Calls Tryz.prog 30 #[.string s, .string t] w (ArgNo w) := by
  have hT := fun fv => together_no fv s t w hs ht h
  have HT := Lib.hid hT
  clear hT h
  go_enter Tryz.func30, Tryz.ntmps30
  go_wp2_with fail
  refine (HT.out _).mono ?_
  rintro e w1 ⟨rfl, hb⟩
  go_wp2_with fail
  go_ret2
  exact ⟨rfl, hb⟩
set_option maxRecDepth 10000 in
theorem Sub_yes (x y : Int) (w : World) (hx : x.natAbs < lim) (hy : y.natAbs < lim) (htab : Tab w) : Calls Tryz.prog 31 #[.string (S x), .string (S y)] w (OpPost (x - y) w) := by
  have hT := together_yes 60 (enters_of Tryz.func60 (by kernel_rfl) rfl) x y _ _ w hx hy htab (sub_does x y hx hy)
  have HT := Lib.hid hT
  obtain ⟨r, hr⟩ : ∃ r, r = toldR (x - y) := ⟨_, rfl⟩
  obtain ⟨ec, hec⟩ : ∃ r, r = toldE (x - y) := ⟨_, rfl⟩
  rw [← hr, ← hec] at HT
  have HE := Lib.hid (And.intro hr hec)
  clear hT hr hec hx hy
  go_enter Tryz.func31, Tryz.ntmps31
  go_wp2_with fail
  refine HT.out.mono ?_
  rintro e w1 ⟨rfl, hb⟩
  go_wp2_with fail
  go_ret2
  exact ⟨by rw [← HE.out.1, ← HE.out.2]; rfl, hb⟩
set_option maxRecDepth 10000 in
theorem Sub_no (s t : ByteArray) (w : World) (hs : s.size ≤ maxLen) (ht : t.size ≤ maxLen) (h : (mayL s.data.toList && mayL t.data.toList) = false) : Calls Tryz.prog 31 #[.string s, .string t] w (ArgNo w) := by
  have hT := fun fv => together_no fv s t w hs ht h
  have HT := Lib.hid hT
  clear hT h
  go_enter Tryz.func31, Tryz.ntmps31
  go_wp2_with fail
  refine (HT.out _).mono ?_
  rintro e w1 ⟨rfl, hb⟩
  go_wp2_with fail
  go_ret2
  exact ⟨rfl, hb⟩
set_option maxRecDepth 10000 in
theorem Mul_yes (x y : Int) (w : World) (hx : x.natAbs < lim) (hy : y.natAbs < lim) (htab : Tab w) : Calls Tryz.prog 32 #[.string (S x), .string (S y)] w (OpPost (x * y) w) := by
  have hT := together_yes 62 (enters_of Tryz.func62 (by kernel_rfl) rfl) x y _ _ w hx hy htab (mul_does x y hx hy)
  have HT := Lib.hid hT
  obtain ⟨r, hr⟩ : ∃ r, r = toldR (x * y) := ⟨_, rfl⟩
  obtain ⟨ec, hec⟩ : ∃ r, r = toldE (x * y) := ⟨_, rfl⟩
  rw [← hr, ← hec] at HT
  have HE := Lib.hid (And.intro hr hec)
  clear hT hr hec hx hy
  go_enter Tryz.func32, Tryz.ntmps32
  go_wp2_with fail
  refine HT.out.mono ?_
  rintro e w1 ⟨rfl, hb⟩
  go_wp2_with fail
  go_ret2
  exact ⟨by rw [← HE.out.1, ← HE.out.2]; rfl, hb⟩
set_option maxRecDepth 10000 in
theorem Mul_no (s t : ByteArray) (w : World) (hs : s.size ≤ maxLen) (ht : t.size ≤ maxLen) (h : (mayL s.data.toList && mayL t.data.toList) = false) : Calls Tryz.prog 32 #[.string s, .string t] w (ArgNo w) := by
  have hT := fun fv => together_no fv s t w hs ht h
  have HT := Lib.hid hT
  clear hT h
  go_enter Tryz.func32, Tryz.ntmps32
  go_wp2_with fail
  refine (HT.out _).mono ?_
  rintro e w1 ⟨rfl, hb⟩
  go_wp2_with fail
  go_ret2
  exact ⟨rfl, hb⟩
set_option maxRecDepth 10000 in
set_option maxHeartbeats 800000 in
theorem Cmp_yes (x y : Int) (w : World) (hx : x.natAbs < lim) (hy : y.natAbs < lim) : Calls Tryz.prog 39 #[.string (S x), .string (S y)] w (CmpPost (cmpI x y) w) := by
  have hR := fun w => read_yes x w hx
  have hR' := fun w => read_yes y w hy
  have HR := Lib.hid hR
  have HR' := Lib.hid hR'
  obtain ⟨q, hq⟩ : ∃ q, q = x.sign := ⟨_, rfl⟩
  obtain ⟨q', hq'⟩ : ∃ q, q = y.sign := ⟨_, rfl⟩
  obtain ⟨z, hz⟩ : ∃ z, z = cmpI x y := ⟨_, rfl⟩
  have HQ := Lib.hid (And.intro hq hq')
  have hF := fun P P' l l' c c' w1 hA hB ol om nl nm (hv : val l = x.natAbs) (hv' : val l' = y.natAbs) => against_any x y P P' l l' c c' w1 hA hB ol om nl nm hv hv' (Nat.le_trans (vals_len nl hv hx) (by decide)) (Nat.le_trans (vals_len nm hv' hy) (by decide))
  rw [← hq, ← hq', ← hz] at hF
  have HF := Lib.hid hF
  have HZ := Lib.hid hz
  clear hR hR' hF hq hq' hx hy hz
  go_enter Tryz.func39, Tryz.ntmps39
  go_wp2_with fail
  refine (HR.out _).mono ?_
  rintro e w1 ⟨P, l, c, rfl, ⟨hP, ok, nm, hv⟩, hb⟩
  rw [← HQ.out.1]
  have hN := Nb.new w1 q P l.length c
  have hb1 := hb.alloc hb.size (.cells #[.int .i64 q, .slice P l.length c] 60)
  have hP1 := hP.below ((Below.refl _ _).alloc (Nat.le_refl _) (.cells #[.int .i64 q, .slice P l.length c] 60))
  go_wp2_with fail
  refine (HR'.out _).mono ?_
  rintro e w2 ⟨P', l', c', rfl, ⟨hP', ok', nm', hv'⟩, hb'⟩
  rw [← HQ.out.2]
  have hN2 := hN.below hb' hN.lt
  have hP2 := hP1.below hb'
  have hb2 := hb1.trans (hb'.mono hb1.size)
  have k0 := hN2.c0
  have k1 := hN2.c1
  have hb3 := hb2.alloc hb2.size (.cells #[.int .i64 q', .slice P' l'.length c'] 60)
  have hP3 := hP2.below ((Below.refl _ _).alloc (Nat.le_refl _) (.cells #[.int .i64 q', .slice P' l'.length c'] 60))
  have hP3' := hP'.below ((Below.refl _ _).alloc (Nat.le_refl _) (.cells #[.int .i64 q', .slice P' l'.length c'] 60))
  have hN3 := hN2.alloc (.cells #[.int .i64 q', .slice P' l'.length c'] 60)
  have m0 := hN3.c0
  have m1 := hN3.c1
  clear hN hN2 hb hb' hb1
  go_wp2_with fail
  refine (HF.out P P' l l' c c' _ hP3 hP3' ok ok' nm nm' hv hv').mono ?_
  rintro e w4 ⟨rfl, hb4⟩
  go_wp2_with fail
  go_ret
  exact ⟨ret_int HZ.out, hb3.trans (hb4.mono hb3.size)⟩
set_option maxRecDepth 10000 in
set_option maxHeartbeats 800000 in
theorem Cmp_no (s t : ByteArray) (w : World) (hs : s.size ≤ maxLen) (ht : t.size ≤ maxLen) (h : (mayL s.data.toList && mayL t.data.toList) = false) : Calls Tryz.prog 39 #[.string s, .string t] w (CmpPost 0 w) := by
  have hR := fun w => read_any s w hs
  have hR' := fun w => read_any t w ht
  obtain ⟨b1, hb1⟩ : ∃ b, b = mayL s.data.toList := ⟨_, rfl⟩
  obtain ⟨b2, hb2⟩ : ∃ b, b = mayL t.data.toList := ⟨_, rfl⟩
  rw [← hb1] at hR h
  rw [← hb2] at hR' h
  have HR := Lib.hid hR
  have HR' := Lib.hid hR'
  clear hR hR' hb1 hb2
  cases b1
  · clear h
    go_enter Tryz.func39, Tryz.ntmps39
    go_wp2_with fail
    refine (HR.out _).mono ?_
    rintro e w1 ⟨q, P, n, c, rfl, hb⟩
    have hb1 := hb.alloc hb.size (.cells #[.int .i64 q, .slice P n c] 60)
    go_wp2_with fail
    refine (HR'.out _).mono ?_
    rintro e w2 ⟨q', P', n', c', rfl, hb'⟩
    have hb2 := hb1.trans (hb'.mono hb1.size)
    go_wp2_with fail
    go_ret
    exact ⟨rfl, hb2.alloc hb2.size _⟩
  · have h2 : b2 = false := by simpa using h
    subst h2
    clear h
    go_enter Tryz.func39, Tryz.ntmps39
    go_wp2_with fail
    refine (HR.out _).mono ?_
    rintro e w1 ⟨q, P, n, c, rfl, hb⟩
    have hb1 := hb.alloc hb.size (.cells #[.int .i64 q, .slice P n c] 60)
    go_wp2_with fail
    refine (HR'.out _).mono ?_
    rintro e w2 ⟨q', P', n', c', rfl, hb'⟩
    have hb2 := hb1.trans (hb'.mono hb1.size)
    go_wp2_with fail
    go_ret
    exact ⟨rfl, hb2.alloc hb2.size _⟩
theorem Of_any (n : Int) (h0 : -9223372036854775808 ≤ n) (h1 : n ≤ 9223372036854775807) (w : World) (htab : Tab w) : Calls Tryz.prog 53 #[.int .i64 n] w fun e w' => e = .returned (.string (S n)) ∧ Below w.heap.size w w' := by
  have hF := Tryz.strconv_FormatInt_10 n h0 h1 w htab.is
  have HF := Lib.hid hF
  clear hF h0 h1
  go_enter Tryz.func53, Tryz.ntmps53
  go_wp2_with fail
  refine HF.out.mono ?_
  rintro e w1 ⟨rfl, k, os, rfl⟩
  go_wp2_with fail
  go_ret
  exact ⟨rfl, Lib.below_grow _ w (Nat.le_refl _) k os⟩
end Go.Proofs.YtogphdflgcdiiaaGreatDoor

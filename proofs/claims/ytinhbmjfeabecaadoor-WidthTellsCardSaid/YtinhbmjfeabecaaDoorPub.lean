import Derived.Test.YtinhbmjfeabecaaDoorDoes
namespace Go.Proofs.YtinhbmjfeabecaaDoor
open Go.RowKit

def OpPost (z : Int) (w : World) (e : Ending) (w' : World) : Prop := e = .returned (.tuple #[.string (toldR z), .int .i64 (toldE z)]) ∧ Below w.heap.size w w'
set_option maxRecDepth 10000 in
theorem Add_yes (x y : Int) (w : World) (hx : x.natAbs < lim) (hy : y.natAbs < lim) (htab : Tab w) : Calls Tryd.prog 24 #[.string (S x), .string (S y)] w (OpPost (x + y) w) := by
  have hT := together_yes 42 (enters_of Tryd.func42 (by kernel_rfl) rfl) x y _ _ w hx hy htab (add_does x y hx hy)
  have HT := Lib.hid hT
  obtain ⟨r, hr⟩ : ∃ r, r = toldR (x + y) := ⟨_, rfl⟩
  obtain ⟨ec, hec⟩ : ∃ r, r = toldE (x + y) := ⟨_, rfl⟩
  rw [← hr, ← hec] at HT
  have HE := Lib.hid (And.intro hr hec)
  clear hT hr hec hx hy
  go_enter Tryd.func24, Tryd.ntmps24
  go_wp2_with fail
  refine HT.out.mono ?_
  rintro e w1 ⟨rfl, hb⟩
  go_wp2_with fail
  go_ret2
  exact ⟨by rw [← HE.out.1, ← HE.out.2]; rfl, hb⟩
set_option maxRecDepth 10000 in
theorem Add_no (s t : ByteArray) (w : World) (hs : s.size ≤ maxLen) (ht : t.size ≤ maxLen) (h : (mayL s.data.toList && mayL t.data.toList) = false) : Calls Tryd.prog 24 #[.string s, .string t] w (ArgNo w) := by
  have hT := fun fv => together_no fv s t w hs ht h
  have HT := Lib.hid hT
  clear hT h
  go_enter Tryd.func24, Tryd.ntmps24
  go_wp2_with fail
  refine (HT.out _).mono ?_
  rintro e w1 ⟨rfl, hb⟩
  go_wp2_with fail
  go_ret2
  exact ⟨rfl, hb⟩
set_option maxRecDepth 10000 in
theorem Mul_yes (x y : Int) (w : World) (hx : x.natAbs < lim) (hy : y.natAbs < lim) (htab : Tab w) : Calls Tryd.prog 22 #[.string (S x), .string (S y)] w (OpPost (x * y) w) := by
  have hT := together_yes 38 (enters_of Tryd.func38 (by kernel_rfl) rfl) x y _ _ w hx hy htab (mul_does x y hx hy)
  have HT := Lib.hid hT
  obtain ⟨r, hr⟩ : ∃ r, r = toldR (x * y) := ⟨_, rfl⟩
  obtain ⟨ec, hec⟩ : ∃ r, r = toldE (x * y) := ⟨_, rfl⟩
  rw [← hr, ← hec] at HT
  have HE := Lib.hid (And.intro hr hec)
  clear hT hr hec hx hy
  go_enter Tryd.func22, Tryd.ntmps22
  go_wp2_with fail
  refine HT.out.mono ?_
  rintro e w1 ⟨rfl, hb⟩
  go_wp2_with fail
  go_ret2
  exact ⟨by rw [← HE.out.1, ← HE.out.2]; rfl, hb⟩
set_option maxRecDepth 10000 in
theorem Mul_no (s t : ByteArray) (w : World) (hs : s.size ≤ maxLen) (ht : t.size ≤ maxLen) (h : (mayL s.data.toList && mayL t.data.toList) = false) : Calls Tryd.prog 22 #[.string s, .string t] w (ArgNo w) := by
  have hT := fun fv => together_no fv s t w hs ht h
  have HT := Lib.hid hT
  clear hT h
  go_enter Tryd.func22, Tryd.ntmps22
  go_wp2_with fail
  refine (HT.out _).mono ?_
  rintro e w1 ⟨rfl, hb⟩
  go_wp2_with fail
  go_ret2
  exact ⟨rfl, hb⟩
theorem Of_any (n : Int) (h0 : -9223372036854775808 ≤ n) (h1 : n ≤ 9223372036854775807) (w : World) (htab : Tab w) : Calls Tryd.prog 23 #[.int .i64 n] w fun e w' => e = .returned (.string (S n)) ∧ Below w.heap.size w w' := by
  have hF := Tryd.strconv_FormatInt_10 n h0 h1 w htab.is
  have HF := Lib.hid hF
  clear hF h0 h1
  go_enter Tryd.func23, Tryd.ntmps23
  go_wp2_with fail
  refine HF.out.mono ?_
  rintro e w1 ⟨rfl, k, os, rfl⟩
  go_wp2_with fail
  go_ret
  exact ⟨rfl, Lib.below_grow _ w (Nat.le_refl _) k os⟩
end Go.Proofs.YtinhbmjfeabecaaDoor

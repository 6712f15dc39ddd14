import Derived.Test.YtogphdflgcdiiaaDoorMay
namespace Go.Proofs.YtogphdflgcdiiaaDoor
set_option linter.unusedVariables false
set_option linter.unusedSimpArgs false
open Go.RowKit

set_option maxRecDepth 10000 in
theorem sign_yes (x : Int) (w : World) (h : x.natAbs < lim) : Calls Tryd.prog 44 #[.string (S x)] w fun e w' => e = .returned (.int .i64 x.sign) ∧ Below w.heap.size w w' := by
  have hR := fun w => read_yes x w h
  have HR := Lib.hid hR
  obtain ⟨q, hq⟩ : ∃ q, q = x.sign := ⟨_, rfl⟩
  rw [← hq]
  have HQ := Lib.hid hq
  clear hR h hq
  go_enter Tryd.func44, Tryd.ntmps44
  go_wp2_with fail
  refine (HR.out _).mono ?_
  rintro e w1 ⟨P, l, c, rfl, ⟨hP, ok, nm, hv⟩, hb⟩
  rw [← HQ.out]
  go_wp2_with fail
  go_ret
  exact ⟨rfl, hb.alloc hb.size _⟩
set_option maxRecDepth 10000 in
theorem sign_no (s : ByteArray) (w : World) (hs : s.size ≤ maxLen) (h : mayL s.data.toList = false) : Calls Tryd.prog 44 #[.string s] w fun e w' => e = .returned (.int .i64 0) ∧ Below w.heap.size w w' := by
  have hR := fun w => read_no s w hs h
  have HR := Lib.hid hR
  clear hR h
  go_enter Tryd.func44, Tryd.ntmps44
  go_wp2_with fail
  refine (HR.out _).mono ?_
  rintro e w1 ⟨rfl, hb⟩
  go_wp2_with fail
  go_ret
  exact ⟨rfl, hb.alloc hb.size _⟩
set_option maxRecDepth 10000 in
theorem neg_yes (x : Int) (w : World) (h : x.natAbs < lim) (htab : Tab w) : Calls Tryd.prog 42 #[.string (S x)] w fun e w' => e = .returned (.string (S (-x))) ∧ Below w.heap.size w w' := by
  have hR := fun w => read_yes x w h
  have hN := fun P l c w1 hP ok nm hv => negated_any x P l c w1 hP ok nm hv
  have hT := fun P l c w1 hP ok nm hv ht htab => text_any (-x) P l c w1 hP ok nm hv ht htab
  have HR := Lib.hid hR
  have HL := Lib.hid h
  obtain ⟨q, hq⟩ : ∃ q, q = x.sign := ⟨_, rfl⟩
  obtain ⟨q', hq'⟩ : ∃ q, q = (-x).sign := ⟨_, rfl⟩
  have HQ := Lib.hid (And.intro hq hq')
  rw [← hq] at hN
  rw [← hq'] at hT
  have HN := Lib.hid hN
  have HT := Lib.hid hT
  clear hR hN hT h hq hq'
  go_enter Tryd.func42, Tryd.ntmps42
  go_wp2_with fail
  refine (HR.out _).mono ?_
  rintro e w1 ⟨P, l, c, rfl, ⟨hP, ok, nm, hv⟩, hb⟩
  rw [← HQ.out.1]
  have hb1 := hb.alloc hb.size (.cells #[.int .i64 q, .slice P l.length c] 46)
  have hP1 := hP.below ((Below.refl _ _).alloc (Nat.le_refl _) (.cells #[.int .i64 q, .slice P l.length c] 46))
  go_wp2_with fail
  refine (HN.out P l c _ hP1 ok nm hv).mono ?_
  rintro e w2 ⟨_, rfl, ⟨P2, l2, c2, rfl, hP2, ok2, nm2, hv2⟩, hb2⟩
  rw [← HQ.out.2]
  have hb3 := hb1.trans (hb2.mono (Nat.le_trans hb.size (by simp)))
  go_wp2_with fail
  refine (HT.out P2 l2 c2 _ hP2 ok2 nm2 hv2 (Nat.le_trans (vals_len nm2 (n := x.natAbs) (by rw [hv2]; omega) HL.out) (by decide)) (htab.below hb3)).mono ?_
  rintro e w4 ⟨rfl, hb4⟩
  go_wp2_with fail
  go_ret
  exact ⟨rfl, hb3.trans (hb4.mono hb3.size)⟩
set_option maxRecDepth 10000 in
theorem neg_no (s : ByteArray) (w : World) (hs : s.size ≤ maxLen) (h : mayL s.data.toList = false) : Calls Tryd.prog 42 #[.string s] w fun e w' => e = .returned (.string ⟨#[]⟩) ∧ Below w.heap.size w w' := by
  have hR := fun w => read_no s w hs h
  have HR := Lib.hid hR
  clear hR h
  go_enter Tryd.func42, Tryd.ntmps42
  go_wp2_with fail
  refine (HR.out _).mono ?_
  rintro e w1 ⟨rfl, hb⟩
  go_wp2_with fail
  go_ret
  exact ⟨rfl, hb.alloc hb.size _⟩
/-- What is done with two numbers. -/
def DoesYes (F : FuncId) (x y : Int) (r : ByteArray) (ec : Int) : Prop := ∀ (A B : Option Addr) (l m : List Nat) (c d : Nat) (w : World), Sz w A l → Sz w B m → Ok l → Ok m → Norm l → Norm m → val l = x.natAbs → val m = y.natAbs → Tab w →
  Calls Tryd.prog F #[.agg #[.int .i64 x.sign, .slice A l.length c], .agg #[.int .i64 y.sign, .slice B m.length d]] w fun e w' => e = .returned (.tuple #[.string r, .int .i64 ec]) ∧ Below w.heap.size w w'
set_option maxRecDepth 10000 in
set_option maxHeartbeats 800000 in
theorem together_yes (F : FuncId) (hE : ∀ args w, (callFunc F args).run Tryd.prog w = .ok (.enter F args) w) (x y : Int) (r : ByteArray) (ec : Int) (w : World) (hx : x.natAbs < lim) (hy : y.natAbs < lim) (htab : Tab w) (hF : DoesYes F x y r ec) :
    Calls Tryd.prog 48 #[.string (S x), .string (S y), .func (Fn.func F) #[] #[]] w fun e w' => e = .returned (.tuple #[.string r, .int .i64 ec]) ∧ Below w.heap.size w w' := by
  have hR := fun w => read_yes x w hx
  have hR' := fun w => read_yes y w hy
  have HR := Lib.hid hR
  have HR' := Lib.hid hR'
  obtain ⟨q, hq⟩ : ∃ q, q = x.sign := ⟨_, rfl⟩
  obtain ⟨q', hq'⟩ : ∃ q, q = y.sign := ⟨_, rfl⟩
  have HQ := Lib.hid (And.intro hq hq')
  have HF := Lib.hid hF
  unfold DoesYes at HF
  rw [← hq, ← hq'] at HF
  clear hR hR' hF hq hq' hx hy
  go_enter Tryd.func48, Tryd.ntmps48
  go_wp2_with fail
  refine (HR.out _).mono ?_
  rintro e w1 ⟨P, l, c, rfl, ⟨hP, ok, nm, hv⟩, hb⟩
  rw [← HQ.out.1]
  have hN := Nb.new w1 q P l.length c
  have hb1 := hb.alloc hb.size (.cells #[.int .i64 q, .slice P l.length c] 46)
  have hP1 := hP.below ((Below.refl _ _).alloc (Nat.le_refl _) (.cells #[.int .i64 q, .slice P l.length c] 46))
  go_wp2_with fail
  refine (HR'.out _).mono ?_
  rintro e w2 ⟨P', l', c', rfl, ⟨hP', ok', nm', hv'⟩, hb'⟩
  rw [← HQ.out.2]
  have hN2 := hN.below hb' hN.lt
  have hP2 := hP1.below hb'
  have hb2 := hb1.trans (hb'.mono hb1.size)
  have k0 := hN2.c0
  have k1 := hN2.c1
  have hb3 := hb2.alloc hb2.size (.cells #[.int .i64 q', .slice P' l'.length c'] 46)
  have hP3 := hP2.below ((Below.refl _ _).alloc (Nat.le_refl _) (.cells #[.int .i64 q', .slice P' l'.length c'] 46))
  have hP3' := hP'.below ((Below.refl _ _).alloc (Nat.le_refl _) (.cells #[.int .i64 q', .slice P' l'.length c'] 46))
  have hN3 := hN2.alloc (.cells #[.int .i64 q', .slice P' l'.length c'] 46)
  have m0 := hN3.c0
  have m1 := hN3.c1
  clear hN hN2 hb hb' hb1
  go_wp2_with fail
  refine (HF.out P P' l l' c c' _ hP3 hP3' ok ok' nm nm' hv hv' (htab.below hb3)).mono ?_
  rintro e w4 ⟨rfl, hb4⟩
  go_wp2_with fail
  go_ret2
  exact ⟨rfl, hb3.trans (hb4.mono hb3.size)⟩
end Go.Proofs.YtogphdflgcdiiaaDoor
namespace Go.Proofs.YtogphdflgcdiiaaDoor
set_option linter.unusedVariables false
set_option linter.unusedSimpArgs false
open Go.RowKit

def ArgNo (w : World) (e : Ending) (w' : World) : Prop := e = .returned (.tuple #[.string ⟨#[]⟩, .int .i64 1]) ∧ Below w.heap.size w w'
def ReadAny (ok : Bool) (w : World) (e : Ending) (w' : World) : Prop := ∃ q P n c, e = .returned (.tuple #[.agg #[.int .i64 q, .slice P n c], .bool ok]) ∧ Below w.heap.size w w'
theorem read_any (s : ByteArray) (w : World) (hs : s.size ≤ maxLen) : Calls Tryd.prog 20 #[.string s] w (ReadAny (mayL s.data.toList) w) := by
  cases h : mayL s.data.toList with
  | false =>
    refine (read_no s w hs h).mono ?_
    rintro e w' ⟨rfl, hb⟩
    exact ⟨_, _, _, _, rfl, hb⟩
  | true =>
    obtain ⟨x, hx, hl⟩ := mayL_is h
    have e1 : s = S x := ByteArray.ext (Array.toList_inj.1 hx)
    subst e1
    refine (read_yes x w hl).mono ?_
    rintro e w' ⟨P, l, c, rfl, _, hb⟩
    exact ⟨_, _, _, _, rfl, hb⟩
set_option maxRecDepth 10000 in
set_option maxHeartbeats 800000 in
theorem together_no (fv : Value) (s t : ByteArray) (w : World) (hs : s.size ≤ maxLen) (ht : t.size ≤ maxLen) (h : (mayL s.data.toList && mayL t.data.toList) = false) :
    Calls Tryd.prog 48 #[.string s, .string t, fv] w (ArgNo w) := by
  have hR := fun w => read_any s w hs
  have hR' := fun w => read_any t w ht
  obtain ⟨b1, hb1⟩ : ∃ b, b = mayL s.data.toList := ⟨_, rfl⟩
  obtain ⟨b2, hb2⟩ : ∃ b, b = mayL t.data.toList := ⟨_, rfl⟩
  rw [← hb1] at hR h
  rw [← hb2] at hR' h
  have HR := Lib.hid hR
  have HR' := Lib.hid hR'
  clear hR hR' hb1 hb2
  cases b1
  · clear h
    go_enter Tryd.func48, Tryd.ntmps48
    go_wp2_with fail
    refine (HR.out _).mono ?_
    rintro e w1 ⟨q, P, n, c, rfl, hb⟩
    have hb1 := hb.alloc hb.size (.cells #[.int .i64 q, .slice P n c] 46)
    go_wp2_with fail
    refine (HR'.out _).mono ?_
    rintro e w2 ⟨q', P', n', c', rfl, hb'⟩
    have hb2 := hb1.trans (hb'.mono hb1.size)
    go_wp2_with fail
    go_ret2
    exact ⟨rfl, hb2.alloc hb2.size _⟩
  · have h2 : b2 = false := by simpa using h
    subst h2
    clear h
    go_enter Tryd.func48, Tryd.ntmps48
    go_wp2_with fail
    refine (HR.out _).mono ?_
    rintro e w1 ⟨q, P, n, c, rfl, hb⟩
    have hb1 := hb.alloc hb.size (.cells #[.int .i64 q, .slice P n c] 46)
    go_wp2_with fail
    refine (HR'.out _).mono ?_
    rintro e w2 ⟨q', P', n', c', rfl, hb'⟩
    have hb2 := hb1.trans (hb'.mono hb1.size)
    go_wp2_with fail
    go_ret2
    exact ⟨rfl, hb2.alloc hb2.size _⟩
end Go.Proofs.YtogphdflgcdiiaaDoor

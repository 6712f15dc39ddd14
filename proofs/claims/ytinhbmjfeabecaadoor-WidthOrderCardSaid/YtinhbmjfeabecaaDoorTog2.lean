import Derived.Test.YtinhbmjfeabecaaDoorTog
namespace Go.Proofs.YtinhbmjfeabecaaDoor
open Go.RowKit

def ArgNo (w : World) (e : Ending) (w' : World) : Prop := e = .returned (.tuple #[.string ⟨#[]⟩, .int .i64 1]) ∧ Below w.heap.size w w'
def ReadAny (ok : Bool) (w : World) (e : Ending) (w' : World) : Prop := ∃ q P n c, e = .returned (.tuple #[.agg #[.int .i64 q, .slice P n c], .bool ok]) ∧ Below w.heap.size w w'
theorem read_any (s : ByteArray) (w : World) (hs : s.size ≤ maxLen) : Calls Tryd.prog 55 #[.string s] w (ReadAny (mayL s.data.toList) w) := by
  cases h : mayL s.data.toList with
  | false =>
    refine (read_no s w hs h).mono ?_
    rintro e w' ⟨rfl, hb⟩
    exact ⟨_, _, _, _, rfl, hb⟩
  | true =>
    obtain ⟨x, hx, hl⟩ := mayL_is h
    have e1 : s = S x := ByteArray.ext (Array.toList_inj.1 hx)
    subst e1
    refine (read_yes x w hl).mono ?_
    rintro e w' ⟨P, l, c, rfl, _, hb⟩
    exact ⟨_, _, _, _, rfl, hb⟩
set_option maxRecDepth 10000 in
set_option maxHeartbeats 800000 in
theorem together_no (fv : Value) (s t : ByteArray) (w : World) (hs : s.size ≤ maxLen) (ht : t.size ≤ maxLen) (h : (mayL s.data.toList && mayL t.data.toList) = false) :
    Calls Tryd.prog 37 #[.string s, .string t, fv] w (ArgNo w) := by
  have hR := fun w => read_any s w hs
  have hR' := fun w => read_any t w ht
  obtain ⟨b1, hb1⟩ : ∃ b, b = mayL s.data.toList := ⟨_, rfl⟩
  obtain ⟨b2, hb2⟩ : ∃ b, b = mayL t.data.toList := ⟨_, rfl⟩
  rw [← hb1] at hR h
  rw [← hb2] at hR' h
  have HR := Lib.hid hR
  have HR' := Lib.hid hR'
  clear hR hR' hb1 hb2
  cases b1
  · clear h
    go_enter Tryd.func37, Tryd.ntmps37
    go_wp2_with fail
    refine (HR.out _).mono ?_
    rintro e w1 ⟨q, P, n, c, rfl, hb⟩
    have hb1 := hb.alloc hb.size (.cells #[.int .i64 q, .slice P n c] 55)
    go_wp2_with fail
    refine (HR'.out _).mono ?_
    rintro e w2 ⟨q', P', n', c', rfl, hb'⟩
    have hb2 := hb1.trans (hb'.mono hb1.size)
    go_wp2_with fail
    go_ret2
    exact ⟨rfl, hb2.alloc hb2.size _⟩
  · have h2 : b2 = false := by simpa using h
    subst h2
    clear h
    go_enter Tryd.func37, Tryd.ntmps37
    go_wp2_with fail
    refine (HR.out _).mono ?_
    rintro e w1 ⟨q, P, n, c, rfl, hb⟩
    have hb1 := hb.alloc hb.size (.cells #[.int .i64 q, .slice P n c] 55)
    go_wp2_with fail
    refine (HR'.out _).mono ?_
    rintro e w2 ⟨q', P', n', c', rfl, hb'⟩
    have hb2 := hb1.trans (hb'.mono hb1.size)
    go_wp2_with fail
    go_ret2
    exact ⟨rfl, hb2.alloc hb2.size _⟩
end Go.Proofs.YtinhbmjfeabecaaDoor

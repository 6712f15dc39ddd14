/-
  The document's example.
-/
import Derived.Test.YtpmndcnjmocidaaLi
namespace Go.Proofs.Ytpmndcnjmocidaa
open Go.RowKit

def TrueEnd (W : World) (e : Ending) (W' : World) : Prop := e = .returned (.bool true) ∧ Below W.heap.size W W'
theorem run_shown : Run numB [95, 53, 43, 97, 98] 0 [⟨1, [95, 53], 0⟩, ⟨4, [43], 2⟩, ⟨2, [97, 98], 3⟩] none :=
  .part (k := 1) (c := 95) (t := [53]) (r := [43, 97, 98]) (by decide) (by decide) (by decide) (by decide) (.cons (by decide)) (fun _ => by decide)
    (.part (k := 4) (c := 43) (t := []) (r := [97, 98]) (by decide) (by decide) (by decide) (by decide) (.cons (by decide)) (fun h => by cases h)
      (.part (k := 2) (c := 97) (t := [98]) (r := []) (by decide) (by decide) (by decide) (by decide) (.nil _) (fun h => by cases h) (.nil _)))
/-- What Lex tells, at any line. -/
theorem Lex_any (s : ByteArray) (hs : s.size ≤ 256) : ∃ ts e, Run numB s.data.toList 0 ts e ∧ (∀ W, Calls Try.prog 9 #[.string s] W (LexEnd ts e W)) ∧ (∀ W, Calls Try.prog 10 #[.string s] W (LexEnd ts e W)) := by
  obtain ⟨ts, e, h⟩ := Run.any numB s.data.toList 0
  exact ⟨ts, e, h, fun W => lex_is s hs ts e h W, fun W => rlex_is s hs ts e h W⟩
set_option maxHeartbeats 1600000 in
theorem shown_is (W : World) : Calls Try.prog 8 #[] W (TrueEnd W) := by
  have K := Lib.hid (lex_is ⟨#[95, 53, 43, 97, 98]⟩ (by decide) _ _ run_shown W)
  go_enter Try.func8, Try.ntmps8
  go_wp2_with fail
  refine K.out.mono ?_
  rintro e w1 ⟨a, c, rfl, hcap, hq, hb⟩
  obtain ⟨g, off, rfl, hc⟩ := hq (by decide)
  have a0 := (hc 0 (by decide)).1
  have a1 := (hc 0 (by decide)).2.1
  have a2 := (hc 0 (by decide)).2.2
  have b0 := (hc 1 (by decide)).1
  have b1 := (hc 1 (by decide)).2.1
  have b2 := (hc 1 (by decide)).2.2
  have c0 := (hc 2 (by decide)).1
  have c1 := (hc 2 (by decide)).2.1
  have c2 := (hc 2 (by decide)).2.2
  replace a0 : w1.cell? ⟨g, off, none⟩ = some (.int .i64 1) := a0
  replace a1 : w1.cell? ⟨g, off + 1, none⟩ = some (.string ⟨#[95, 53]⟩) := a1
  replace a2 : w1.cell? ⟨g, off + 2, none⟩ = some (.int .i64 0) := a2
  replace b0 : w1.cell? ⟨g, off + 3, none⟩ = some (.int .i64 4) := b0
  replace b1 : w1.cell? ⟨g, off + 3 + 1, none⟩ = some (.string ⟨#[43]⟩) := b1
  replace b2 : w1.cell? ⟨g, off + 3 + 2, none⟩ = some (.int .i64 2) := b2
  replace c0 : w1.cell? ⟨g, off + 6, none⟩ = some (.int .i64 2) := c0
  replace c1 : w1.cell? ⟨g, off + 6 + 1, none⟩ = some (.string ⟨#[97, 98]⟩) := c1
  replace c2 : w1.cell? ⟨g, off + 6 + 2, none⟩ = some (.int .i64 3) := c2
  clear hc hq hcap
  go_wp2_with fail
  go_ret
  exact ⟨rfl, hb⟩
end Go.Proofs.Ytpmndcnjmocidaa

/-
  A text as one part of a kind, as a verb, as an adverb; texts as numbers: of the program, and of the reference.
-/
import Derived.Test.YtiopemimancliaaYg
import Derived.Test.YtiopemimancliaaLh
namespace Go.Proofs.Ytiopemimancliaa
open Go.RowKit

noncomputable def lxT (s : ByteArray) : List Tk := Classical.choose (Run.any numB s.data.toList 0)
theorem lxT_ex (s : ByteArray) : ∃ e, Run numB s.data.toList 0 (lxT s) e := Classical.choose_spec (Run.any numB s.data.toList 0)
noncomputable def lxE (s : ByteArray) : Option Nat := Classical.choose (lxT_ex s)
theorem lx_run (s : ByteArray) : Run numB s.data.toList 0 (lxT s) (lxE s) := Classical.choose_spec (lxT_ex s)
/-- Is a text one part, of some kind? -/
noncomputable def prt (s : ByteArray) (k : Int) : Bool :=
  if s.size ≤ 256 then
    match lxE s with
    | some _ => false
    | none => match lxT s with
      | [t] => decide ((t.kind : Int) = k) && ((tx t.text).toList == s.toList)
      | _ => false
  else false
/-- The two sides of part, by what Lex tells. -/
theorem part_by {f : FuncId} {s : ByteArray} {k : Int} {W : World}
    (h0 : 256 < s.size → Calls Try.prog f #[.string s, .int .i64 k] W (ValEnd (.bool false) W))
    (h1 : ∀ q, s.size ≤ 256 → lxE s = some q → Calls Try.prog f #[.string s, .int .i64 k] W (ValEnd (.bool false) W))
    (h2 : s.size ≤ 256 → lxE s = none → (lxT s).length ≠ 1 → Calls Try.prog f #[.string s, .int .i64 k] W (ValEnd (.bool false) W))
    (h3 : ∀ t, s.size ≤ 256 → lxE s = none → lxT s = [t] → Calls Try.prog f #[.string s, .int .i64 k] W (ValEnd (.bool (decide ((t.kind : Int) = k) && ((tx t.text).toList == s.toList))) W)) :
    Calls Try.prog f #[.string s, .int .i64 k] W (ValEnd (.bool (prt s k)) W) := by
  unfold prt
  by_cases hs : s.size ≤ 256
  · rw [if_pos hs]
    cases he : lxE s with
    | some q => exact h1 q hs he
    | none =>
      show Calls _ _ _ _ (ValEnd (.bool (match lxT s with | [t] => _ | _ => false)) W)
      split
      · rename_i t ht
        exact h3 t hs he ht
      · rename_i ht
        refine h2 hs he fun hl => ?_
        obtain ⟨t, ht2⟩ := List.length_eq_one_iff.1 hl
        exact ht t ht2
  · rw [if_neg hs]
    exact h0 (by omega)
set_option maxHeartbeats 1600000 in
theorem isPart_is (s : ByteArray) (k : Int) (hs : s.size ≤ 9223372036854775807) (W : World) : Calls Try.prog 31 #[.string s, .int .i64 k] W (ValEnd (.bool (prt s k)) W) := by
  refine part_by (fun h => ?_) (fun q h he => ?_) (fun h he hl => ?_) (fun t h he ht => ?_)
  · have K := Lib.hid (big_is s h hs W)
    go_enter Try.func31, Try.ntmps31
    go_wp2_with fail
    refine K.out.mono ?_
    rintro e w1 ⟨rfl, hb⟩
    go_wp2_with fail
    go_ret
    exact ⟨rfl, hb⟩
  · have K := lex_is s h _ _ (lx_run s) W
    rw [he] at K
    replace K := Lib.hid K
    clear he
    go_enter Try.func31, Try.ntmps31
    go_wp2_with fail
    refine K.out.mono ?_
    rintro e w1 ⟨rfl, hb⟩
    go_wp2_with fail
    go_ret
    exact ⟨rfl, hb⟩
  · have K := lex_is s h _ _ (lx_run s) W
    rw [he] at K
    have hl2 : ((lxT s).length : Int) ≠ 1 := by omega
    have hl3 := (lx_run s).span.2
    simp at hl3
    generalize lxT s = ts at *
    replace K := Lib.hid K
    clear he hl
    go_enter Try.func31, Try.ntmps31
    go_wp2_with fail
    refine K.out.mono ?_
    rintro e w1 ⟨a, c, rfl, _, _, hb⟩
    go_wp2_with fail
    go_ret
    exact ⟨rfl, hb⟩
  · have K := lex_is s h _ _ (lx_run s) W
    rw [he, ht] at K
    replace K := Lib.hid K
    obtain ⟨u, hu⟩ : ∃ u, u = tx t.text := ⟨_, rfl⟩
    rw [← hu]
    have HU := Lib.hid hu
    clear he ht hu
    go_enter Try.func31, Try.ntmps31
    go_wp2_with fail
    refine K.out.mono ?_
    rintro e w1 ⟨a, c, rfl, _, hq, hb⟩
    obtain ⟨b, off, rfl, hc⟩ := hq (by simp)
    obtain ⟨c0, c1, c2⟩ := hc 0 (by simp)
    rw [show rtk [t] 0 = ⟨t.kind, tx t.text, t.at_⟩ from rfl, ← HU.out] at c0 c1
    simp only [Nat.zero_mul, Nat.add_zero] at c0 c1
    have el : [t].length = 1 := rfl
    rw [el]
    clear hq hc c2 el K
    go_wp2_with fail
    all_goals
      go_ret
      exact ⟨by simp_all, hb⟩
set_option maxHeartbeats 1600000 in
theorem rpart_is (s : ByteArray) (k : Int) (hs : s.size ≤ 9223372036854775807) (W : World) : Calls Try.prog 35 #[.string s, .int .i64 k] W (ValEnd (.bool (prt s k)) W) := by
  refine part_by (fun h => ?_) (fun q h he => ?_) (fun h he hl => ?_) (fun t h he ht => ?_)
  · have K := Lib.hid (rbig_is s h hs W)
    go_enter Try.func35, Try.ntmps35
    go_wp2_with fail
    refine K.out.mono ?_
    rintro e w1 ⟨rfl, hb⟩
    go_wp2_with fail
    go_ret
    exact ⟨rfl, hb⟩
  · have K := rlex_is s h _ _ (lx_run s) W
    rw [he] at K
    replace K := Lib.hid K
    clear he
    go_enter Try.func35, Try.ntmps35
    go_wp2_with fail
    refine K.out.mono ?_
    rintro e w1 ⟨rfl, hb⟩
    go_wp2_with fail
    go_ret
    exact ⟨rfl, hb⟩
  · have K := rlex_is s h _ _ (lx_run s) W
    rw [he] at K
    have hl2 : ((lxT s).length : Int) ≠ 1 := by omega
    have hl3 := (lx_run s).span.2
    simp at hl3
    generalize lxT s = ts at *
    replace K := Lib.hid K
    clear he hl
    go_enter Try.func35, Try.ntmps35
    go_wp2_with fail
    refine K.out.mono ?_
    rintro e w1 ⟨a, c, rfl, _, _, hb⟩
    go_wp2_with fail
    go_ret
    exact ⟨rfl, hb⟩
  · have K := rlex_is s h _ _ (lx_run s) W
    rw [he, ht] at K
    replace K := Lib.hid K
    obtain ⟨u, hu⟩ : ∃ u, u = tx t.text := ⟨_, rfl⟩
    rw [← hu]
    have HU := Lib.hid hu
    clear he ht hu
    go_enter Try.func35, Try.ntmps35
    go_wp2_with fail
    refine K.out.mono ?_
    rintro e w1 ⟨a, c, rfl, _, hq, hb⟩
    obtain ⟨b, off, rfl, hc⟩ := hq (by simp)
    obtain ⟨c0, c1, c2⟩ := hc 0 (by simp)
    rw [show rtk [t] 0 = ⟨t.kind, tx t.text, t.at_⟩ from rfl, ← HU.out] at c0 c1
    simp only [Nat.zero_mul, Nat.add_zero] at c0 c1
    have el : [t].length = 1 := rfl
    rw [el]
    clear hq hc c2 el K
    go_wp2_with fail
    all_goals
      go_ret
      exact ⟨by simp_all, hb⟩
end Go.Proofs.Ytiopemimancliaa

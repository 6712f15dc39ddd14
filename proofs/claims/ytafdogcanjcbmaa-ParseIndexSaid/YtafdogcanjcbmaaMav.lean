import Derived.Test.YtafdogcanjcbmaaMau
/-
  ParseFirst, at every two texts.
-/
namespace Go.Proofs.Ytafdogcanjcbmaa
set_option linter.unusedVariables false
set_option linter.unusedSimpArgs false
open Go.RowKit

theorem catblank (s m : ByteArray) : (s ++ ⟨#[32]⟩ ++ m).data.toList = s.data.toList ++ 32 :: m.data.toList := by
  rw [ByteArray.data_append, Array.toList_append, ByteArray.data_append, Array.toList_append]
  simp
/-- Nothing, and two numbers. -/
def FlEnd (p q : Int) (W : World) (e : Ending) (W' : World) : Prop := e = .returned (.tuple #[.slice none 0 0, .int .i64 p, .int .i64 q]) ∧ Below W.heap.size W W'
/-- A slice, and two numbers. -/
def SlEnd (p q : Int) (W : World) (e : Ending) (W' : World) : Prop := ∃ a n c, e = .returned (.tuple #[.slice a n c, .int .i64 p, .int .i64 q]) ∧ Below W.heap.size W W'
theorem FlEnd.sl {p q : Int} {W : World} {e : Ending} {W' : World} (h : FlEnd p q W e W') : SlEnd p q W e W' := ⟨_, _, _, h.1, h.2⟩
theorem LexEnd.sl {ts : List Tk} {W : World} {e : Ending} {W' : World} (h : LexEnd ts none W e W') : SlEnd 0 0 W e W' := by
  obtain ⟨a, c, rfl, _, _, hb⟩ := h
  exact ⟨a, _, c, rfl, hb⟩
set_option maxHeartbeats 6400000 in
theorem first_any (s m : ByteArray) (hs : s.size ≤ 4611686018427387903) (hm : m.size ≤ 4611686018427387903) (W : World) : Calls Try.prog 7 #[.string s, .string m] W (TrueEnd W) := by
  have KS := Lib.hid (fun w => shown_is w)
  have hz0 : (0 : Int) ≤ (s.size : Int) := Int.natCast_nonneg _
  have hz1 : (0 : Int) ≤ (m.size : Int) := Int.natCast_nonneg _
  by_cases hz : 250 < s.size + m.size
  · have e1 : (250 : Int) < (s.size : Int) + (m.size : Int) := by omega
    clear hz
    go_enter Try.func7, Try.ntmps7
    go_wp2_with fail
    refine (KS.out _).mono ?_
    rintro e w1 ⟨rfl, hb1⟩
    go_wp2_with fail
    go_ret
    exact ⟨rfl, hb1⟩
  have e1 : ¬ (250 : Int) < (s.size : Int) + (m.size : Int) := by omega
  have hsl : s.data.toList.length = s.size := Array.length_toList
  -- where nothing is asked
  have upA : ∀ (p q lq : Int), ((q = 0 ∨ q = 10) ∨ lq = 2 ∨ (s.size : Int) ≤ p) → (q = 0 ∨ q = 10 ∨ q = 2) → (lq = 0 ∨ lq = 2) → (∀ W, Calls Try.prog 10 #[.string s] W (SlEnd p q W)) → (∀ W, ∃ lp, Calls Try.prog 17 #[.string s] W (SlEnd lp lq W)) → Calls Try.prog 7 #[.string s, .string m] W (TrueEnd W) := by
    intro p q lq h hq hlq k1 k2
    have K1 := Lib.hid k1
    have K2 := Lib.hid k2
    clear k1 k2 hz hsl
    rcases hq with rfl | rfl | rfl <;> rcases hlq with rfl | rfl
    all_goals
      first
        | (have hd : (s.size : Int) ≤ p := by rcases h with h | h | h <;> first | exact h | omega)
        | skip
      clear h
      go_enter Try.func7, Try.ntmps7
      go_wp2_with fail
      refine (KS.out _).mono ?_
      rintro e w1 ⟨rfl, hb1⟩
      go_wp2_with fail
      refine (K1.out _).mono ?_
      rintro e w2 ⟨a2, n2, c2, rfl, hb2⟩
      replace hb2 := hb1.trans (hb2.mono hb1.size)
      clear hb1
      obtain ⟨lp, KL⟩ := K2.out w2
      go_wp2_with fail
      refine KL.mono ?_
      rintro e w3 ⟨a3, n3, c3, rfl, hb3⟩
      replace hb3 := hb2.trans (hb3.mono hb2.size)
      clear hb2
      go_wp2_with fail
      go_ret
      exact ⟨rfl, hb3⟩
  obtain ⟨ts, e, hrun⟩ := Run.any numB s.data.toList 0
  cases e with
  | some q => exact upA q 2 2 (.inr (.inl rfl)) (by decide) (by decide) (fun W => (Parse_bad s (by omega) ts q hrun W).mono fun _ _ h => FlEnd.sl h) (fun W => ⟨q, (rlex_is s (by omega) ts (some q) hrun W).mono fun _ _ h => FlEnd.sl (p := q) (q := 2) h⟩)
  | none =>
    have k2 : ∀ W, ∃ lp, Calls Try.prog 17 #[.string s] W (SlEnd lp 0 W) := fun W => ⟨0, (rlex_is s (by omega) ts none hrun W).mono fun _ _ h => LexEnd.sl h⟩
    obtain ⟨x, r, hR⟩ := Ln.any numT (pks ts)
    have k1 := fun W => Parse_ok s (by omega) ts hrun hR W
    cases ht : told x r with
    | some X =>
      obtain ⟨rfl, rfl⟩ := told_some ht
      obtain ⟨d, hd⟩ := hR.tree (run_few (by omega) hrun).2.1
      by_cases h40 : d ≤ 40
      · exact upA 0 0 0 (.inl (.inl rfl)) (by decide) (by decide) (fun W => (k1 W).mono fun e W' h => by obtain ⟨a, n, c, he, _, hb⟩ := h.tree hd h40; exact ⟨a, n, c, he, hb⟩) k2
      · refine upA 0 10 0 (.inl (.inr rfl)) (by decide) (by decide) (fun W => (k1 W).mono ?_) k2
        rintro e W' ⟨hb, ⟨h1, _⟩ | ⟨Y, d2, h1, h2, ⟨_, h3⟩ | ⟨h3, _⟩⟩⟩
        · cases h1
        · exact ⟨_, _, _, h3, hb⟩
        · injection h1 with h1
          subst h1
          have := (hd.det h2).2
          omega
    | none =>
      have k1' : ∀ W, Calls Try.prog 10 #[.string s] W (FlEnd (plc r s.size) 2 W) := fun W => (k1 W).mono fun e W' h => h.none ht
      cases hr : r with
      | nil =>
        rw [hr] at k1'
        exact upA s.size 2 0 (.inr (.inr (Int.le_refl _))) (by decide) (by decide) (fun W => (k1' W).mono fun _ _ h => FlEnd.sl h) k2
      | cons q0 r0 =>
        have hrne : r ≠ [] := by rw [hr]; simp
        have hpl : ∃ p : Nat, q0.p = (p : Int) ∧ p < s.size := by
          have hq : q0 ∈ pks ts := hR.suffix.subset (by rw [hr]; exact List.mem_cons_self)
          obtain ⟨t, ht, rfl⟩ := List.mem_map.1 hq
          have := (hrun.at_le t ht).2
          exact ⟨t.at_, rfl, by omega⟩
        obtain ⟨p, hp1, hp2⟩ := hpl
        rw [hr, show plc (q0 :: r0) s.size = q0.p from rfl, hp1] at k1'
        obtain ⟨us, f, hrun2, hR2⟩ := behind hrun hR hrne m.data.toList
        have hsz2 : (s ++ (⟨#[32]⟩ : ByteArray) ++ m).size ≤ 256 := by
          rw [ByteArray.size_append, ByteArray.size_append, show (⟨#[32]⟩ : ByteArray).size = 1 from rfl]; omega
        have hsz3 : (s ++ (⟨#[32]⟩ : ByteArray)).size ≤ 256 := by
          rw [ByteArray.size_append, show (⟨#[32]⟩ : ByteArray).size = 1 from rfl]; omega
        rw [← catblank] at hrun2
        have e2 : ¬ (s.size : Int) ≤ (p : Int) := by omega
        have K1 := Lib.hid k1'
        have K2 := Lib.hid k2
        have fin : ∀ (p2 : Int), (∀ W, Calls Try.prog 10 #[.string (s ++ (⟨#[32]⟩ : ByteArray) ++ m)] W (FlEnd p2 2 W)) → (p2 = p ∨ ∀ W, ∃ lp, Calls Try.prog 17 #[.string (s ++ (⟨#[32]⟩ : ByteArray) ++ m)] W (SlEnd lp 2 W)) → Calls Try.prog 7 #[.string s, .string m] W (TrueEnd W) := by
          intro p2 k3 k4
          have K3 := Lib.hid k3
          have K4 := Lib.hid k4
          clear k1 k1' k2 k3 k4 hz hsl hrun hrun2 hR hR2 ht hr hrne hp1 upA
          by_cases hpp : p2 = p
          · subst hpp
            clear K4
            go_enter Try.func7, Try.ntmps7
            go_wp2_with fail
            refine (KS.out _).mono ?_
            rintro e w1 ⟨rfl, hb1⟩
            go_wp2_with fail
            refine (K1.out _).mono ?_
            rintro e w2 ⟨rfl, hb2⟩
            replace hb2 := hb1.trans (hb2.mono hb1.size)
            clear hb1
            obtain ⟨lp, KL⟩ := K2.out w2
            go_wp2_with fail
            refine KL.mono ?_
            rintro e w3 ⟨a3, n3, c3, rfl, hb3⟩
            replace hb3 := hb2.trans (hb3.mono hb2.size)
            clear hb2
            go_wp2_with fail
            refine (K3.out _).mono ?_
            rintro e w4 ⟨rfl, hb4⟩
            replace hb4 := hb3.trans (hb4.mono hb3.size)
            clear hb3
            go_wp2_with fail
            go_ret
            exact ⟨rfl, hb4⟩
          · have e3 : (p2 == (p : Int)) = false := beq_eq_false_iff_ne.2 hpp
            have K5 := Lib.hid (K4.out.resolve_left hpp)
            clear K4
            go_enter Try.func7, Try.ntmps7
            go_wp2_with fail
            refine (KS.out _).mono ?_
            rintro e w1 ⟨rfl, hb1⟩
            go_wp2_with fail
            refine (K1.out _).mono ?_
            rintro e w2 ⟨rfl, hb2⟩
            replace hb2 := hb1.trans (hb2.mono hb1.size)
            clear hb1
            obtain ⟨lp, KL⟩ := K2.out w2
            go_wp2_with fail
            refine KL.mono ?_
            rintro e w3 ⟨a3, n3, c3, rfl, hb3⟩
            replace hb3 := hb2.trans (hb3.mono hb2.size)
            clear hb2
            go_wp2_with fail
            refine (K3.out _).mono ?_
            rintro e w4 ⟨rfl, hb4⟩
            replace hb4 := hb3.trans (hb4.mono hb3.size)
            clear hb3
            obtain ⟨lp2, KL2⟩ := K5.out w4
            go_wp2_with fail
            refine KL2.mono ?_
            rintro e w5 ⟨a5, n5, c5, rfl, hb5⟩
            replace hb5 := hb4.trans (hb5.mono hb4.size)
            clear hb4
            go_wp2_with fail
            go_ret
            exact ⟨rfl, hb5⟩
        cases f with
        | some q2 => exact fin q2 (fun W => Parse_bad _ hsz2 _ q2 hrun2 W) (.inr fun W => ⟨q2, (rlex_is _ hsz2 _ (some q2) hrun2 W).mono fun _ _ h => FlEnd.sl (p := q2) (q := 2) h⟩)
        | none =>
          refine fin p (fun W => (Parse_ok _ hsz2 _ hrun2 hR2 W).mono fun e W' h => ?_) (.inl rfl)
          have h2 := h.none (by rw [hr]; rfl)
          rw [hr, List.cons_append, show plc (q0 :: (r0 ++ _)) _ = q0.p from rfl, hp1] at h2
          exact h2
end Go.Proofs.Ytafdogcanjcbmaa

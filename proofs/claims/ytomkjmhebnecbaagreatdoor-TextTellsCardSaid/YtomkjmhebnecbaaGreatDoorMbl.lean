import Derived.Test.YtomkjmhebnecbaaGreatDoorMbk
/-
  The reference's Read; TextTells at every input.
-/
namespace Go.Proofs.YtomkjmhebnecbaaGreatDoor
set_option linter.unusedVariables false
set_option linter.unusedSimpArgs false
open Go.RowKit

theorem TA.gs {s : List UInt8} {l : List Int} {es : List (List UInt8)} (h : TA s l es) : gsT numT fiX s = (l, es) := by
  rw [h.2]
  exact h.arr.read
def RqEnd (s : List UInt8) (W : World) (e : Ending) (W' : World) : Prop :=
  (∃ a n c b d l es, e = .returned (.tuple #[.agg #[.slice a n c, .slice b (List.length es) d], .int .i64 0]) ∧ TA s l es ∧ Vl W' a n b (List.length es) l (es.map tx) ∧ Below W.heap.size W W') ∨
  (e = .returned (.tuple #[.agg #[.slice none 0 0, .slice none 0 0], .int .i64 2]) ∧ (∀ l es, ¬ TA s l es) ∧ Below W.heap.size W W')
set_option maxRecDepth 10000 in
set_option maxHeartbeats 1600000 in
theorem rRead_is (s : List UInt8) (hz : s.length ≤ 100000) (w : World) : Calls Tryz.prog 9 #[.string (tx s)] w (RqEnd s w) := by
  have hA := Bx.new w none 0 0 none 0 0
  have hb0 : Below w.heap.size w (w.alloc (.cells #[.slice none 0 0, .slice none 0 0] 25)) := (Below.refl _ _).alloc (Nat.le_refl _) _
  have K1 := Lib.hid (guess_is s (by omega) (w.alloc (.cells #[.slice none 0 0, .slice none 0 0] 25)))
  obtain ⟨g1, g2⟩ := gs_small (s := s) (by omega)
  replace g1 := Nat.le_trans g1 (show s.length + 1 ≤ 1000000 by omega)
  have HG := Lib.hid (fun k fs (h : TA s k fs) => h.gs)
  obtain ⟨l, es, hge⟩ : ∃ l es, gsT numT fiX s = (l, es) := ⟨_, _, rfl⟩
  rw [hge] at K1 HG g1 g2
  dsimp only at g1 g2
  clear hz hge
  go_enter Tryz.func9, Tryz.ntmps9
  go_wp2_with fail
  refine K1.out.mono ?_
  rintro e w1 ⟨a, n, c, b, d, rfl, hV, hb⟩
  dsimp only at hV ⊢
  have hb4 : Below w1.heap.size w1 (w1.alloc (.cells #[.slice a n c, .slice b es.length d] 25)) := (Below.refl _ _).alloc (Nat.le_refl _) _
  have hA2 := (hA.below hb hA.lt).alloc (.cells #[.slice a n c, .slice b es.length d] 25)
  have hB2 := Bx.new w1 a n c b es.length d
  have hb2 := hb0.trans (hb.mono hb0.size)
  have hb3 := hb2.alloc hb2.size (.cells #[.slice a n c, .slice b es.length d] 25)
  have hsz := hb.size
  rw [World.size_alloc] at hsz
  have K2 := rText_is (c := c) (d := d) _ (hV.below hb4) g2 (by omega)
  have HV := Lib.hid (hV.below hb4)
  have z0 := hB2.c0
  have z1 := hB2.c1
  have HA2 := Lib.hid hA2
  have HB2 := Lib.hid hB2
  have HB3 := Lib.hid hb3
  unfold TtEnd at K2
  clear hA hb0 K1 hb hb2 hb4 hV hA2 hB2 hb3
  cases hv : mayV l (es.map tx) with
  | false =>
    have hno : ∀ k fs, ¬ TA s k fs := fun k fs h => by
      have e := HG.out k fs h
      injection e with e1 e2
      subst e1 e2
      rw [h.1] at hv
      cases hv
    rw [hv, show (tx (if false = true then arrT litT Lib.itoa l es else [])) = (⟨#[]⟩ : ByteArray) from rfl, show (if false = true then (0 : Int) else 1) = 1 from rfl] at K2
    replace K2 := Lib.hid K2
    have HN := Lib.hid hno
    clear hv hno
    go_wp2_with fail
    refine K2.out.mono ?_
    rintro e w2 ⟨rfl, hb5⟩
    have hA3 := HA2.out.below hb5 HA2.out.lt
    have hb6 := HB3.out.trans (hb5.mono HB3.out.size)
    have y0 := hA3.c0
    have y1 := hA3.c1
    have f0 := hA3.f 0
    have f1 := hA3.f 1
    clear hb5 K2 z0 z1
    go_wp2_with fail
    have hA4 := hA3.set none 0 0 none 0 0
    have r0 := hA4.c0
    have r1 := hA4.c1
    exact bodyPost_ret (v := .tuple #[.agg #[.slice none 0 0, .slice none 0 0], .int .i64 2]) (by simp [results, Tryz.results9, go_sem, r0, r1]) rfl
      (.inr ⟨rfl, HN.out, below_made hb6 (Nat.le_refl _) _ _⟩)
  | true =>
    rw [hv, show (if true = true then arrT litT Lib.itoa l es else []) = arrT litT Lib.itoa l es from rfl, show (if true = true then (0 : Int) else 1) = 0 from rfl] at K2
    by_cases he : arrT litT Lib.itoa l es = s
    · have HN : Hid (TA s l es) := Lib.hid ⟨hv, he.symm⟩
      rw [he] at K2
      replace K2 := Lib.hid K2
      clear hv he
      generalize tx s = u at *
      go_wp2_with fail
      refine K2.out.mono ?_
      rintro e w2 ⟨rfl, hb5⟩
      have hA3 := HA2.out.below hb5 HA2.out.lt
      have hB3 := HB2.out.below hb5 HB2.out.lt
      have hV3 := HV.out.below hb5
      have hb6 := HB3.out.trans (hb5.mono HB3.out.size)
      have y0 := hA3.c0
      have y1 := hA3.c1
      have f0 := hA3.f 0
      have f1 := hA3.f 1
      have x0 := hB3.c0
      have x1 := hB3.c1
      have HV3 := Lib.hid hV3
      clear hb5 K2 z0 z1 hV3
      go_wp2_with fail
      have hA4 := hA3.set a n c b es.length d
      have r0 := hA4.c0
      have r1 := hA4.c1
      exact bodyPost_ret (v := .tuple #[.agg #[.slice a n c, .slice b es.length d], .int .i64 0]) (by simp [results, Tryz.results9, go_sem, r0, r1]) rfl
        (.inl ⟨_, _, _, _, _, l, es, rfl, HN.out, ⟨hA3.sl HV3.out.s _ _, hA3.st HV3.out.t _ _, HV3.out.mm⟩, below_made hb6 (Nat.le_refl _) _ _⟩)
    · have hno : ∀ k fs, ¬ TA s k fs := fun k fs h => by
        have e := HG.out k fs h
        injection e with e1 e2
        subst e1 e2
        exact he h.2.symm
      have hne : ((tx (arrT litT Lib.itoa l es)).toList == (tx s).toList) = false := beq_eq_false_iff_ne.2 fun e => he (by rwa [str_tl, str_tl, tx_list, tx_list] at e)
      have HN := Lib.hid hno
      replace K2 := Lib.hid K2
      generalize tx (arrT litT Lib.itoa l es) = t at *
      generalize tx s = u at *
      clear hv he hno
      go_wp2_with fail
      refine K2.out.mono ?_
      rintro e w2 ⟨rfl, hb5⟩
      have hA3 := HA2.out.below hb5 HA2.out.lt
      have hb6 := HB3.out.trans (hb5.mono HB3.out.size)
      have y0 := hA3.c0
      have y1 := hA3.c1
      have f0 := hA3.f 0
      have f1 := hA3.f 1
      clear hb5 K2 z0 z1
      go_wp2_with fail
      have hA4 := hA3.set none 0 0 none 0 0
      have r0 := hA4.c0
      have r1 := hA4.c1
      exact bodyPost_ret (v := .tuple #[.agg #[.slice none 0 0, .slice none 0 0], .int .i64 2]) (by simp [results, Tryz.results9, go_sem, r0, r1]) rfl
        (.inr ⟨rfl, HN.out, below_made hb6 (Nat.le_refl _) _ _⟩)
end Go.Proofs.YtomkjmhebnecbaaGreatDoor

import Derived.Test.YtjpjccilnmlmnaaGreatDoorMaf
/-
  val.Same, May, Many, and the reference's Few: their contracts at every array.
-/
namespace Go.Proofs.YtjpjccilnmlmnaaGreatDoor
set_option linter.unusedVariables false
set_option linter.unusedSimpArgs false
open Go.RowKit

def BoolEnd (b : Bool) (W : World) (e : Ending) (W' : World) : Prop := e = .returned (.bool b) ∧ Below W.heap.size W W'
def IntEnd (v : Int) (W : World) (e : Ending) (W' : World) : Prop := e = .returned (.int .i64 v) ∧ Below W.heap.size W W'
theorem Bx.two (W : World) (o : Obj) (a : Option Addr) (n c : Nat) (b : Option Addr) (m d : Nat) : Bx ((W.alloc o).alloc (.cells #[.slice a n c, .slice b m d] 25)) (W.heap.size + 1) a n c b m d := by
  have := Bx.new (W.alloc o) a n c b m d
  rwa [show (W.alloc o).heap.size = W.heap.size + 1 by simp] at this

/-! ### Same -/
set_option maxRecDepth 10000 in
theorem VSame_is {a1 b1 a2 b2 : Option Addr} {n1 c1 m1 d1 n2 c2 m2 d2 : Nat} {l k : List Int} {es fs : List ByteArray} (W : World) (h1 : Vl W a1 n1 b1 m1 l es) (h2 : Vl W a2 n2 b2 m2 k fs) (q1 : n1 ≤ 1000000) (q2 : n2 ≤ 1000000) :
    Calls Tryz.prog 19 #[.agg #[.slice a1 n1 c1, .slice b1 m1 d1], .agg #[.slice a2 n2 c2, .slice b2 m2 d2]] W (BoolEnd ((l == k) && decide (es = fs)) W) := by
  have K1 := Lib.hid (fun w (hb : Below W.heap.size W w) => Same_is a1 a2 n1 c1 n2 c2 l k w (h1.s.below hb) (h2.s.below hb) q1 q2)
  have K2 := Lib.hid (fun w (hb : Below W.heap.size W w) => EqualS_is b1 b2 m1 d1 m2 d2 es fs w (h1.t.below hb) (h2.t.below hb) h1.mm h2.mm)
  clear h1 h2 q1 q2
  generalize (l == k) = p at K1 ⊢
  generalize decide (es = fs) = q at K2 ⊢
  go_enter Tryz.func19, Tryz.ntmps19
  go_wp2_with fail
  have hA := (Bx.new W a1 n1 c1 b1 m1 d1).alloc (.cells #[.slice a2 n2 c2, .slice b2 m2 d2] 25)
  have hB := Bx.two W (.cells #[.slice a1 n1 c1, .slice b1 m1 d1] 25) a2 n2 c2 b2 m2 d2
  have hb0 : Below W.heap.size W ((W.alloc (.cells #[.slice a1 n1 c1, .slice b1 m1 d1] 25)).alloc (.cells #[.slice a2 n2 c2, .slice b2 m2 d2] 25)) := ((Below.refl _ _).alloc (Nat.le_refl _) _).alloc (by simp) _
  refine (K1.out _ hb0).mono ?_
  rintro x w1 ⟨rfl, hb1⟩
  have x1 := (hA.below hb1 hA.lt).c1
  have x2 := (hB.below hb1 hB.lt).c1
  have hb2 := hb0.trans (hb1.mono hb0.size)
  clear hA hB hb0 hb1
  rcases Bool.eq_false_or_eq_true p with rfl | rfl
  · go_wp2_with fail
    refine (K2.out _ hb2).mono ?_
    rintro x w3 ⟨rfl, hb3⟩
    go_wp2_with fail
    go_ret
    exact ⟨rfl, hb2.trans (hb3.mono hb2.size)⟩
  · go_wp2_with fail
    go_ret
    exact ⟨rfl, hb2⟩

/-! ### May -/
set_option maxRecDepth 10000 in
set_option maxHeartbeats 800000 in
theorem VMay_is {a b : Option Addr} {n c m d : Nat} {l : List Int} {es : List ByteArray} (W : World) (h : Vl W a n b m l es) (hz : ∀ j, j < m → (es.getD j ByteArray.empty).size ≤ maxLen) :
    Calls Tryz.prog 30 #[.agg #[.slice a n c, .slice b m d]] W (BoolEnd (mayV l es) W) := by
  have K1 := Lib.hid (fun w (hb : Below W.heap.size W w) => Size_is a n c l w (h.s.below hb))
  have r2 := h.mm
  have HT := Lib.hid h.t
  have HZ := Lib.hid hz
  clear h hz
  have hb0 : Below W.heap.size W (W.alloc (.cells #[.slice a n c, .slice b m d] 25)) := (Below.refl _ _).alloc (Nat.le_refl _) _
  by_cases he : szE l = 0
  · by_cases hm : (m : Int) = szV l
    · have hmv : ∀ (h : ∀ j, j < m → mayL (es.getD j ByteArray.empty).data.toList = true), mayV l es = true := fun h => mayV_yes.2 ⟨he, by rw [HT.out.1, hm, szV_pr he], by rw [HT.out.1]; exact h⟩
      have hmn : ∀ j, j < m → mayL (es.getD j ByteArray.empty).data.toList = false → mayV l es = false := fun j hj h => mayV_at (by rw [HT.out.1]; exact hj) h
      have HM := Lib.hid (And.intro hmv hmn)
      clear hmv hmn
      rw [← hm, he] at K1
      clear hm he
      generalize mayV l es = v at HM ⊢
      go_enter Tryz.func30, Tryz.ntmps30
      go_wp2_with fail
      refine (K1.out _ hb0).mono ?_
      rintro x w1 ⟨rfl, rfl⟩
      go_wp2_with fail
      go_loop [25] (fun i => ∃ k : Nat, i = .int .i64 k ∧ k ≤ m ∧ Hid (∀ j, j < k → mayL (es.getD j ByteArray.empty).data.toList = true)) (fun i => m - (intOf i).toNat)
      case atStart => exact ⟨0, rfl, by omega, Lib.hid fun j hj => by omega⟩
      case round =>
        obtain ⟨k, rfl, hk, HI⟩ := hrel
        by_cases hlt : k < m
        · have e2 : (k : Int) < (m : Int) := by omega
          obtain ⟨bb, off, rfl, hc⟩ := HT.out.2 (by omega)
          have hck := (hb0.cell (p := ⟨bb, off + k, none⟩) (World.block_lt_of_cell? W _ (hc k hlt))).trans (hc k hlt)
          have hs := HZ.out k hlt
          clear hc
          obtain ⟨s, hse⟩ : ∃ s, s = es.getD k ByteArray.empty := ⟨_, rfl⟩
          rw [← hse] at hck hs
          have KM := Lib.hid (fun w => may_any s w hs)
          have HE := Lib.hid hse
          clear hse hs
          cases hv : mayL s.data.toList
          · rw [hv] at KM
            obtain rfl : v = false := HM.out.2 k hlt (by rw [← HE.out]; exact hv)
            clear hv
            go_wp2_with fail
            refine (KM.out _).mono ?_
            rintro x w2 ⟨rfl, rfl⟩
            go_wp2_with fail
            go_ret
            exact ⟨rfl, hb0⟩
          · rw [hv] at KM
            have HV := Lib.hid hv
            clear hv
            go_wp2_with fail
            refine (KM.out _).mono ?_
            rintro x w2 ⟨rfl, rfl⟩
            go_wp2_with fail
            go_round
            case rel =>
              refine ⟨k + 1, by go_num, by omega, Lib.hid fun j hj => ?_⟩
              rcases Nat.lt_or_ge j k with h2 | h2
              · exact HI.out j h2
              · rw [show j = k by omega, ← HE.out]; exact HV.out
            case measure => simp [intOf]; omega
        · have e2 : ¬ (k : Int) < (m : Int) := by omega
          obtain rfl : v = true := HM.out.1 fun j hj => HI.out j (by omega)
          go_wp2_with fail
          go_ret
          exact ⟨rfl, hb0⟩
    · have hv := mayV_len (l := l) (es := es) (by rw [HT.out.1]; exact hm)
      rw [hv]
      rw [he] at K1
      clear hv he
      generalize szV l = P at *
      go_enter Tryz.func30, Tryz.ntmps30
      go_wp2_with fail
      refine (K1.out _ hb0).mono ?_
      rintro x w1 ⟨rfl, rfl⟩
      go_wp2_with fail
      go_ret
      exact ⟨rfl, hb0⟩
  · have hv := mayV_e (es := es) he
    rw [hv]
    rw [szV_zero he] at K1
    clear hv
    generalize szE l = E at *
    have hE : (E != 0) = true := by simpa using he
    go_enter Tryz.func30, Tryz.ntmps30
    go_wp2_with fail
    refine (K1.out _ hb0).mono ?_
    rintro x w1 ⟨rfl, rfl⟩
    go_wp2_with fail
    all_goals
      go_ret
      exact ⟨rfl, hb0⟩

/-! ### Many -/
set_option maxRecDepth 10000 in
theorem VMany_is {a b : Option Addr} {n c m d : Nat} {l : List Int} {es : List ByteArray} (W : World) (h : Vl W a n b m l es) (hn : n ≤ 20) (hc : n ≤ c) (hc2 : c ≤ maxLen) :
    Calls Tryz.prog 36 #[.agg #[.slice a n c, .slice b m d]] W (IntEnd (itV l) W) := by
  have K1 := Lib.hid (fun w (hb : Below W.heap.size W w) => Items_is a n c l w (h.s.below hb) hn hc hc2)
  clear h hc hc2
  generalize itV l = v at K1 ⊢
  go_enter Tryz.func36, Tryz.ntmps36
  go_wp2_with fail
  have hb0 : Below W.heap.size W (W.alloc (.cells #[.slice a n c, .slice b m d] 25)) := (Below.refl _ _).alloc (Nat.le_refl _) _
  refine (K1.out _ hb0).mono ?_
  rintro x w1 ⟨a', n', c', rfl, hs, hn', hb1⟩
  clear hs
  go_wp2_with fail
  go_ret
  exact ⟨rfl, hb0.trans (hb1.mono hb0.size)⟩
end Go.Proofs.YtjpjccilnmlmnaaGreatDoor

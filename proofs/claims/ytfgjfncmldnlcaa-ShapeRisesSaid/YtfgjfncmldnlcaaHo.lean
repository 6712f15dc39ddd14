import Derived.Test.YtfgjfncmldnlcaaHr
import Derived.BigQuiet
import Derived.Deep.QuietTactic
namespace Go.Proofs.Ytfgjfncmldnlcaa
open Go.RowKit

/-- The world but for the count of draws. -/
def Drawn (w w' : World) : Prop := ∃ n, w' = w.drewN n
theorem Drawn.refl (w : World) : Drawn w w := ⟨0, rfl⟩
theorem Drawn.cell {w w' : World} (h : Drawn w w') (a : Addr) : w'.cell? a = w.cell? a := by obtain ⟨n, rfl⟩ := h; rfl
theorem Drawn.below {w w' : World} (h : Drawn w w') : Below w.heap.size w w' := by obtain ⟨n, rfl⟩ := h; exact ⟨rfl, rfl, rfl, Nat.le_refl _, fun _ _ => rfl⟩
theorem Drawn.more {w w' : World} (h : Drawn w w') (n : Nat) : Drawn w (w'.drewN n) := by
  obtain ⟨m, rfl⟩ := h
  exact ⟨m + n, by unfold World.drewN; simp [Nat.add_assoc]⟩
theorem Drawn.sl {w w' : World} (h : Drawn w w') {a : Option Addr} {n : Nat} {l : List Int} (hs : Sl w a n l) : Sl w' a n l := by obtain ⟨m, rfl⟩ := h; exact hs

/-! ### Offset -/
/-- The code's offset, as long as no axis of 0 is there. -/
def OfInv (l t : List Int) (k : Nat) (v : Int) : Prop := inL l t k = true ∧ (AllPos l → v = hor l t k)
theorem OfInv.start (l t : List Int) : OfInv l t 0 0 := ⟨rfl, fun _ => rfl⟩
theorem OfInv.step {l t : List Int} (hm : MayL l) {k : Nat} {v : Int} (h : OfInv l t k v) (hk : k < l.length) (h0 : 0 ≤ t.getD k 0) (h1 : t.getD k 0 < l.getD k 0) : OfInv l t (k + 1) (wrap64 (wrap64 (v * l.getD k 0) + t.getD k 0)) := by
  have hi : inL l t (k + 1) = true := by simp only [inL, h.1, Bool.true_and, Bool.and_eq_true, decide_eq_true_eq]; exact ⟨h0, h1⟩
  refine ⟨hi, fun hp => ?_⟩
  have hr := hor_range (l := l) (t := t) (n := k + 1) (by omega) hi
  have hle := hp.take_le (k + 1)
  have hpr := hm.pr
  rw [h.2 hp]
  have e : hor l t (k + 1) = hor l t k * l.getD k 0 + t.getD k 0 := rfl
  rw [e] at hr ⊢
  have hr0 := hor_range (l := l) (t := t) (n := k) (by omega) h.1
  have h2 : 0 ≤ hor l t k * l.getD k 0 := Int.mul_nonneg hr0.1 (by omega)
  rw [w64 (x := hor l t k * l.getD k 0) (by omega) (by omega), w64 (by omega) (by omega)]
theorem OfInv.ends {l t : List Int} {v : Int} (h : OfInv l t l.length v) (hm : MayL l) (hl : l.length = t.length) : ofB l t = true ∧ ofV l t = v := by
  have hp : AllPos l := ⟨fun j hj => by have := inL_at h.1 hj; omega⟩
  have e : ofB l t = true := by unfold ofB; rw [szE_may.2 hm, hl.symm, h.1]; simp
  exact ⟨e, by unfold ofV; rw [if_pos e, h.2 hp]⟩
theorem ofB_in {l t : List Int} {k : Nat} (hk : k < l.length) (h : t.getD k 0 < 0 ∨ l.getD k 0 ≤ t.getD k 0) : ofB l t = false ∧ ofV l t = 0 := by
  have e : ofB l t = false := by unfold ofB; rw [inL_not hk h]; simp
  exact ⟨e, by unfold ofV; rw [e]; rfl⟩
theorem ofB_bad {l t : List Int} (h : szE l ≠ 0 ∨ l.length ≠ t.length) : ofB l t = false ∧ ofV l t = 0 := by
  have e : ofB l t = false := by
    unfold ofB
    rcases h with h | h
    · rw [decide_eq_false h]; rfl
    · rw [decide_eq_false h]; simp
  exact ⟨e, by unfold ofV; rw [e]; rfl⟩
def OffIs (f : Nat) (a1 a2 : Option Addr) (n c m d : Nat) (v : Int) (b : Bool) (W : World) : Prop :=
  Calls Try.prog f #[.slice a1 n c, .slice a2 m d] W fun x W' => x = .returned (.tuple #[.int .i64 v, .bool b]) ∧ Drawn W W'
set_option maxRecDepth 10000 in
set_option maxHeartbeats 800000 in
theorem Offset_is (a1 a2 : Option Addr) (n c m d : Nat) (l t : List Int) (W : World) (h1 : Sl W a1 n l) (h2 : Sl W a2 m t) (hm20 : m ≤ 20) : OffIs 12 a1 a2 n c m d (ofV l t) (ofB l t) W := by
  have hmay := May_is a1 n c l W h1 _ rfl
  obtain ⟨v, hv⟩ : ∃ v, v = ofV l t := ⟨_, rfl⟩
  obtain ⟨b, hb⟩ : ∃ b, b = ofB l t := ⟨_, rfl⟩
  rw [← hv, ← hb]
  have HV := Lib.hid hv
  have HB := Lib.hid hb
  have H1 := Lib.hid h1
  have H2 := Lib.hid h2
  clear hv hb h1 h2
  unfold OffIs
  by_cases he : szE l = 0
  · rw [he] at hmay
    have HM := Lib.hid (szE_may.1 he)
    have hn3 : n ≤ 3 := by have := HM.out.len; rw [H1.out.1] at this; exact this
    have K := Lib.hid hmay
    clear hmay he
    by_cases hnm : m = n
    · subst hnm
      have hlt : l.length = t.length := by rw [H1.out.1, H2.out.1]
      have HL := Lib.hid hlt
      clear hlt
      go_enter Try.func12, Try.ntmps12
      go_wp2_with fail
      refine K.out.mono ?_
      rintro x w1 ⟨rfl, rfl⟩
      go_wp2_with fail
      go_loop [6, 21] (fun o i => ∃ (k : Nat) (z : Int), i = .int .i64 k ∧ o = .int .i64 z ∧ k ≤ m ∧ OfInv l t k z) (fun _ i => m - (intOf i).toNat)
      case atStart => exact ⟨0, 0, rfl, rfl, by omega, OfInv.start l t⟩
      case round =>
        obtain ⟨k, z, rfl, rfl, hk, hI⟩ := hrel
        have HI := Lib.hid hI
        clear hI
        by_cases hlt : k < m
        · have e2 : (k : Int) < (m : Int) := by omega
          obtain ⟨b1, o1, rfl, hc1⟩ := H1.out.2 (by omega)
          obtain ⟨b2, o2, rfl, hc2⟩ := H2.out.2 (by omega)
          have hk1 := hc1 k hlt
          have hk2 := hc2 k hlt
          clear hc1 hc2
          obtain ⟨x, hx⟩ : ∃ x, x = l.getD k 0 := ⟨_, rfl⟩
          obtain ⟨y, hy⟩ : ∃ y, y = t.getD k 0 := ⟨_, rfl⟩
          rw [← hx] at hk1
          rw [← hy] at hk2
          have HX := Lib.hid hx
          have HY := Lib.hid hy
          clear hx hy
          have hkl : k < l.length := by rw [H1.out.1]; exact hlt
          by_cases c1 : y < 0
          · obtain ⟨f1, f2⟩ := ofB_in (t := t) hkl (.inl (by rw [← HY.out]; exact c1))
            obtain rfl : b = false := HB.out.trans f1
            obtain rfl : v = 0 := HV.out.trans f2
            clear f1 f2
            go_wp2_with fail
            go_ret2
            exact ⟨rfl, Drawn.refl _⟩
          by_cases c2 : x ≤ y
          · obtain ⟨f1, f2⟩ := ofB_in (t := t) hkl (.inr (by rw [← HY.out, ← HX.out]; exact c2))
            obtain rfl : b = false := HB.out.trans f1
            obtain rfl : v = 0 := HV.out.trans f2
            clear f1 f2
            go_wp2_with fail
            go_ret2
            exact ⟨rfl, Drawn.refl _⟩
          · have hst := HI.out.step HM.out hkl (by rw [← HY.out]; omega) (by rw [← HY.out, ← HX.out]; omega)
            rw [← HX.out, ← HY.out] at hst
            have HT := Lib.hid hst
            clear hst
            go_wp2_with fail
            go_round
            case rel => exact ⟨k + 1, _, by go_num, rfl, by omega, HT.out⟩
            case measure => simp [intOf]; omega
        · have e2 : ¬ (k : Int) < (m : Int) := by omega
          obtain rfl : k = m := by omega
          obtain ⟨f1, f2⟩ := (show OfInv l t l.length z by rw [H1.out.1]; exact HI.out).ends HM.out HL.out
          obtain rfl : b = true := HB.out.trans f1
          obtain rfl : v = z := HV.out.trans f2
          clear f1 f2
          go_wp2_with fail
          go_ret2
          exact ⟨rfl, Drawn.refl _⟩
    · obtain ⟨f1, f2⟩ := ofB_bad (l := l) (t := t) (.inr (by rw [H1.out.1, H2.out.1]; omega))
      obtain rfl : b = false := HB.out.trans f1
      obtain rfl : v = 0 := HV.out.trans f2
      clear f1 f2
      have e2 : (m : Int) ≠ (n : Int) := by omega
      go_enter Try.func12, Try.ntmps12
      go_wp2_with fail
      refine K.out.mono ?_
      rintro x w1 ⟨rfl, rfl⟩
      go_wp2_with fail
      go_ret2
      exact ⟨rfl, Drawn.refl _⟩
  · obtain ⟨f1, f2⟩ := ofB_bad (l := l) (t := t) (.inl he)
    obtain rfl : b = false := HB.out.trans f1
    obtain rfl : v = 0 := HV.out.trans f2
    clear f1 f2
    rw [show (szE l == 0) = false from beq_eq_false_iff_ne.2 he] at hmay
    have K := Lib.hid hmay
    clear hmay he
    go_enter Try.func12, Try.ntmps12
    go_wp2_with fail
    refine K.out.mono ?_
    rintro x w1 ⟨rfl, rfl⟩
    go_wp2_with fail
    go_ret2
    exact ⟨rfl, Drawn.refl _⟩

/-! ### The document's step, Offset -/
theorem part_le {l : List Int} (hm : MayL l) {i : Nat} (hi : i < l.length) (hp : ∀ j, j ≤ i → 0 < l.getD j 0) {q : Nat} (hq : i + 1 + q ≤ l.length) : 0 ≤ pr ((l.drop (i + 1)).take q) ∧ pr ((l.drop (i + 1)).take q) ≤ 9007199254740992 := by
  obtain ⟨h1, h2, h3, h4⟩ := hm
  have p0 := hp 0 (Nat.zero_le _)
  rcases l with _ | ⟨x, _ | ⟨y, _ | ⟨z, _ | ⟨u, r⟩⟩⟩⟩
  · simp at hi
  · simp at hi hq; obtain rfl : i = 0 := by omega
    obtain rfl : q = 0 := by omega
    simp [pr]
  · have y0 := h2 1 (by simp); have y1 := h3 1 (by simp)
    simp at hi hq y0 y1
    rcases i with _ | _ | i
    · rcases q with _ | _ | q
      · simp [pr]
      · simp [pr]; omega
      · omega
    · obtain rfl : q = 0 := by omega
      simp [pr]
    · omega
  · have y0 := h2 1 (by simp); have y1 := h3 1 (by simp); have z0 := h2 2 (by simp); have z1 := h3 2 (by simp)
    simp at hi hq y0 y1 z0 z1 p0
    simp only [pr, Int.mul_one] at h4
    rcases i with _ | _ | _ | i
    · rcases q with _ | _ | _ | q
      · simp [pr]
      · simp [pr]; omega
      · simp [pr]
        have a : 0 ≤ y * z := Int.mul_nonneg y0 z0
        have b : 1 * (y * z) ≤ x * (y * z) := Int.mul_le_mul_of_nonneg_right (by omega) a
        omega
      · omega
    · rcases q with _ | _ | q
      · simp [pr]
      · simp [pr]; omega
      · omega
    · obtain rfl : q = 0 := by omega
      simp [pr]
    · omega
  · simp at h1
set_option maxRecDepth 10000 in
theorem step_is (a : Option Addr) (n c : Nat) (l : List Int) (i : Nat) (W : World) (h : Sl W a n l) (hi : i < n) (hn : n ≤ 20) (hb : ∀ q, i + 1 + q ≤ n → 0 ≤ pr ((l.drop (i + 1)).take q) ∧ pr ((l.drop (i + 1)).take q) ≤ 9007199254740992) :
    Calls Try.prog 24 #[.slice a n c, .int .i64 (i : Int)] W fun x W' => x = .returned (.int .i64 (pr (l.drop (i + 1)))) ∧ W' = W := by
  obtain ⟨v, hv⟩ : ∃ v, v = pr (l.drop (i + 1)) := ⟨_, rfl⟩
  rw [← hv]
  have HV := Lib.hid hv
  have HS := Lib.hid h
  have HB := Lib.hid hb
  clear hv h hb
  go_enter Try.func24, Try.ntmps24
  go_wp2_with fail
  go_loop [5, 6] (fun s j => ∃ (k : Nat) (z : Int), j = .int .i64 ((i + 1 + k : Nat) : Int) ∧ s = .int .i64 z ∧ i + 1 + k ≤ n ∧ Hid (z = pr ((l.drop (i + 1)).take k))) (fun _ j => n - (intOf j).toNat)
  case atStart => exact ⟨0, 1, by go_num, rfl, by omega, Lib.hid (by simp [pr])⟩
  case round =>
    obtain ⟨k, z, rfl, rfl, hk, HI⟩ := hrel
    obtain ⟨p, hp⟩ : ∃ p, p = i + 1 + k := ⟨_, rfl⟩
    rw [← hp] at hk ⊢
    have HP := Lib.hid hp
    clear hp
    by_cases hlt : p < n
    · have e2 : (p : Int) < (n : Int) := by omega
      obtain ⟨b, off, rfl, hc⟩ := HS.out.2 (by omega)
      have hck := hc p hlt
      clear hc
      obtain ⟨x, hx⟩ : ∃ x, x = l.getD p 0 := ⟨_, rfl⟩
      rw [← hx] at hck
      have hst : wrap64 (z * x) = pr ((l.drop (i + 1)).take (k + 1)) := by
        have h1 := HP.out
        have h2 := HB.out (k + 1) (by omega)
        rw [pr_take (by rw [List.length_drop, HS.out.1]; omega), getD_drop, ← h1, ← hx, ← HI.out] at h2 ⊢
        exact w64 (by omega) (by omega)
      have HT := Lib.hid hst
      clear hst hx
      go_wp2_with fail
      go_round
      case rel => exact ⟨k + 1, _, by have := HP.out; go_num, rfl, by have := HP.out; omega, HT⟩
      case measure => simp [intOf]; omega
    · have e2 : ¬ (p : Int) < (n : Int) := by omega
      have he : v = z := by
        rw [HV.out, HI.out, List.take_of_length_le (by rw [List.length_drop, HS.out.1]; have := HP.out; omega)]
      subst he
      go_wp2_with fail
      go_ret
      exact ⟨rfl, rfl⟩
end Go.Proofs.Ytfgjfncmldnlcaa

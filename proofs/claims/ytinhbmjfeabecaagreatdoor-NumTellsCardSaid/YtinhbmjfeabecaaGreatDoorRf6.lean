import Derived.Test.YtinhbmjfeabecaaGreatDoorRf5
import Derived.Test.YtinhbmjfeabecaaGreatDoorWg
import Derived.Deep.RegionWith
import Derived.Deep.RegionHeld3
namespace Go.Proofs.YtinhbmjfeabecaaGreatDoor
open Go.RowKit

theorem S_neg1 {x : Int} (h : x < 0) (h2 : -10 < x) : S x = ⟨#[45]⟩ ++ B [digB x.natAbs] := by
  apply ba_ext
  rw [S_toList, itoa_neg h, decDigits_small (by omega), ByteArray.data_append, Array.toList_append, B_list]
  rfl
theorem S_pos1 {x : Int} (h : 0 ≤ x) (h2 : x < 10) : S x = B [digB x.natAbs] := by
  apply ba_ext
  rw [S_toList, itoa_pos h, decDigits_small (by omega), B_list]
  rfl
theorem tdiv_low {x : Int} (h : x ≤ 0) : x.tdiv 10 = -((x.natAbs / 10 : Nat) : Int) ∧ x.tmod 10 = -((x.natAbs % 10 : Nat) : Int) := by
  obtain ⟨n, rfl⟩ : ∃ n : Nat, x = -(n : Int) := ⟨x.natAbs, by omega⟩
  rw [Int.neg_tdiv, Int.neg_tmod, Int.natAbs_neg, Int.natAbs_natCast]
  exact ⟨rfl, rfl⟩
theorem tdiv_high {x : Int} (h : 0 ≤ x) : x.tdiv 10 = ((x.natAbs / 10 : Nat) : Int) ∧ x.tmod 10 = ((x.natAbs % 10 : Nat) : Int) := by
  obtain ⟨n, rfl⟩ : ∃ n : Nat, x = (n : Int) := ⟨x.natAbs, by omega⟩
  exact ⟨rfl, rfl⟩
theorem S_neg10 {x : Int} (h : x ≤ -10) : S x = S (x.tdiv 10) ++ B [digB (x.natAbs % 10)] := by
  have e1 : (x.tdiv 10).natAbs = x.natAbs / 10 := by rw [Int.natAbs_tdiv]; rfl
  have h1 : x.tdiv 10 < 0 := by
    have := (tdiv_low (x := x) (by omega)).1
    omega
  apply ba_ext
  rw [S_toList, itoa_neg (by omega), decDigits_big (by omega), ByteArray.data_append, Array.toList_append, B_list, S_toList, itoa_neg h1, e1]
  rfl
theorem S_pos10 {x : Int} (h : 10 ≤ x) : S x = S (x.tdiv 10) ++ B [digB (x.natAbs % 10)] := by
  have e1 : (x.tdiv 10).natAbs = x.natAbs / 10 := by rw [Int.natAbs_tdiv]; rfl
  have h1 : 0 ≤ x.tdiv 10 := Int.tdiv_nonneg (by omega) (by decide)
  apply ba_ext
  rw [S_toList, itoa_pos (by omega), decDigits_big (by omega), ByteArray.data_append, Array.toList_append, B_list, S_toList, itoa_pos h1, e1]
  rfl
def ROfIs (x : Int) (s : ByteArray) : Prop := ∀ w, Calls Tryz.prog 15 #[.int .i64 x] w (StrEnd s w)
theorem conv_at (W : World) (b : Nat) (d : UInt8) (z : Int) (hz : z = d.toNat) (hc : W.cell? ⟨b, 0, none⟩ = some (.int .u8 z)) :
    (convert 50 9 (.slice (some ⟨b, 0, none⟩) 1 1)).run Tryz.prog W = .ok (.string (B [d])) W := by
  subst hz
  exact run_convert_bytes_back (P := Tryz.prog) W 50 9 5 ⟨b, 0, none⟩ 1 [d] Tryz.underlying50 Tryz.underlying5 Tryz.underlying9 (fun j hj => by
    have : j = 0 := by simpa using hj
    subst this
    rw [Lib.add_plain, hc]
    rfl)
theorem below_new {w w9 : World} {v : Value} {t : TypeId} (hb : Below (w.alloc (.cells #[v] t)).heap.size (w.alloc (.cells #[v] t)) w9) : w9.cell? ⟨w.heap.size, 0, none⟩ = some v := by
  have h : (w.alloc (.cells #[v] t)).heap[w.heap.size]? = some (.cells #[v] t (0, 0)) := by
    show (w.heap.push _)[w.heap.size]? = _
    simp
  have e := hb.block w.heap.size (by show _ < (w.heap.push _).size; simp)
  rw [h] at e
  rw [cell_of_row w9 _ 0 #[v] t (0, 0) e]
  rfl
set_option maxRecDepth 10000 in
theorem rof_small_neg {x : Int} (h : x < 0) (h2 : -10 < x) : ROfIs x (S x) := by
  intro w
  have e := S_neg1 h h2
  have hz : (48 - x : Int) = ((digB x.natAbs).toNat : Int) := by rw [digB_nat (by omega)]; omega
  have hcv := conv_one w (digB x.natAbs) _ hz
  have hd1 : (B [digB x.natAbs]).size = 1 := B_size _
  have E := Lib.hid e
  clear e hz
  generalize digB x.natAbs = d at *
  generalize S x = s at *
  go_enter Tryz.func15, Tryz.ntmps15
  go_wp2_with fail
  go_ret
  exact ⟨by rw [E.out]; rfl, (Below.refl _ _).alloc (Nat.le_refl _) _⟩
set_option maxRecDepth 10000 in
theorem rof_small_pos {x : Int} (h : 0 ≤ x) (h2 : x < 10) : ROfIs x (S x) := by
  intro w
  have e := S_pos1 h h2
  have h0 : ¬ x < 0 := by omega
  have hz : (48 + x : Int) = ((digB x.natAbs).toNat : Int) := by rw [digB_nat (by omega)]; omega
  have hcv := conv_one w (digB x.natAbs) _ hz
  have hd1 : (B [digB x.natAbs]).size = 1 := B_size _
  have E := Lib.hid e
  clear e hz
  generalize digB x.natAbs = d at *
  generalize S x = s at *
  go_enter Tryz.func15, Tryz.ntmps15
  go_wp2_with fail
  go_ret
  exact ⟨by rw [E.out]; rfl, (Below.refl _ _).alloc (Nat.le_refl _) _⟩
set_option maxRecDepth 10000 in
set_option maxHeartbeats 1600000 in
theorem rof_big_neg {x : Int} (h : x ≤ -10) (h0 : -9223372036854775808 ≤ x) (HI : ROfIs (x.tdiv 10) (S (x.tdiv 10))) (hsz : (S (x.tdiv 10)).size ≤ 1000) : ROfIs x (S x) := by
  intro w
  have e := S_neg10 h
  have h1 : x < 0 := by omega
  have h2 : ¬ -10 < x := by omega
  obtain ⟨q1, m1⟩ := tdiv_low (x := x) (by omega)
  obtain ⟨q, hq⟩ : ∃ q, x.tdiv 10 = q := ⟨_, rfl⟩
  obtain ⟨m, hm⟩ : ∃ m, x.tmod 10 = m := ⟨_, rfl⟩
  rw [hq] at e HI hsz q1
  rw [hm] at m1
  have hz : (48 - m : Int) = ((digB (x.natAbs % 10)).toNat : Int) := by rw [digB_nat (by omega)]; omega
  have hm3 : -10 < m := by omega
  have hm4 : m ≤ 0 := by omega
  have hq3 : -9223372036854775808 ≤ q := by omega
  have hq4 : q ≤ 9223372036854775807 := by omega
  have hd1 : (B [digB (x.natAbs % 10)]).size = 1 := B_size _
  have hc0 : (convert 50 9 (.slice (some ⟨w.heap.size, 0, none⟩) 1 1)).run Tryz.prog (w.alloc (.cells #[.int .u8 (48 - m)] 5)) = .ok (.string (B [digB (x.natAbs % 10)])) (w.alloc (.cells #[.int .u8 (48 - m)] 5)) := conv_one w _ _ hz
  have hc1 : (convert 50 9 (.slice (some ⟨w.heap.size, 0, none⟩) 1 1)).run Tryz.prog (w.alloc (.cells #[.int .u8 (48 - m)] 5)).drew = .ok (.string (B [digB (x.natAbs % 10)])) (w.alloc (.cells #[.int .u8 (48 - m)] 5)).drew := conv_one w.drew _ _ hz
  have HZ := Lib.hid hz
  have hwq : IntKind.i64.wrap q = q := IntWalk.i64_in _ (by omega)
  have hwm : IntKind.i64.wrap m = m := IntWalk.i64_in _ (by omega)
  have hw48 : IntKind.i64.wrap (48 - m) = 48 - m := IntWalk.i64_in _ (by omega)
  have hw8 : IntKind.u8.wrap (48 - m) = 48 - m := IntWalk.u8_in _ (by omega)
  have E := Lib.hid e
  have KI := Lib.hid HI
  clear e hz HI q1 m1
  generalize digB (x.natAbs % 10) = d at *
  generalize S q = s' at *
  generalize S x = s at *
  go_enter Tryz.func15, Tryz.ntmps15
  go_wp2_with fail
  go_region_with (go_at_call 15; refine (KI.out _).mono ?_; rintro e w9 ⟨rfl, hb9⟩; have hc2 := conv_one w9 _ _ HZ.out; (try have hc3 := conv_at w9 w.heap.size _ _ HZ.out (by first | exact below_new (w := w) hb9 | exact below_new (w := w.drew) hb9)))
  all_goals
    go_wp2_with fail
    go_ret
    refine ⟨by rw [E.out]; rfl, ?_⟩
    first
      | exact ((Below.refl w.heap.size w).drew.trans (show Below w.heap.size w.drew w9 from hb9)).alloc hb9.size _
      | exact (((Below.refl _ w).alloc (Nat.le_refl _) _).drew).trans (hb9.mono (by show w.heap.size ≤ (w.heap.push _).size; simp))
set_option maxRecDepth 10000 in
set_option maxHeartbeats 1600000 in
theorem rof_big_pos {x : Int} (h : 10 ≤ x) (h0 : x ≤ 9223372036854775807) (HI : ROfIs (x.tdiv 10) (S (x.tdiv 10))) (hsz : (S (x.tdiv 10)).size ≤ 1000) : ROfIs x (S x) := by
  intro w
  have e := S_pos10 h
  have h1 : ¬ x < 0 := by omega
  have h2 : ¬ x < 10 := by omega
  obtain ⟨q1, m1⟩ := tdiv_high (x := x) (by omega)
  obtain ⟨q, hq⟩ : ∃ q, x.tdiv 10 = q := ⟨_, rfl⟩
  obtain ⟨m, hm⟩ : ∃ m, x.tmod 10 = m := ⟨_, rfl⟩
  rw [hq] at e HI hsz q1
  rw [hm] at m1
  have hz : (48 + m : Int) = ((digB (x.natAbs % 10)).toNat : Int) := by rw [digB_nat (by omega)]; omega
  have hm3 : m < 10 := by omega
  have hm4 : 0 ≤ m := by omega
  have hq3 : -9223372036854775808 ≤ q := by omega
  have hq4 : q ≤ 9223372036854775807 := by omega
  have hd1 : (B [digB (x.natAbs % 10)]).size = 1 := B_size _
  have hc0 : (convert 50 9 (.slice (some ⟨w.heap.size, 0, none⟩) 1 1)).run Tryz.prog (w.alloc (.cells #[.int .u8 (48 + m)] 5)) = .ok (.string (B [digB (x.natAbs % 10)])) (w.alloc (.cells #[.int .u8 (48 + m)] 5)) := conv_one w _ _ hz
  have hc1 : (convert 50 9 (.slice (some ⟨w.heap.size, 0, none⟩) 1 1)).run Tryz.prog (w.alloc (.cells #[.int .u8 (48 + m)] 5)).drew = .ok (.string (B [digB (x.natAbs % 10)])) (w.alloc (.cells #[.int .u8 (48 + m)] 5)).drew := conv_one w.drew _ _ hz
  have HZ := Lib.hid hz
  have hwq : IntKind.i64.wrap q = q := IntWalk.i64_in _ (by omega)
  have hwm : IntKind.i64.wrap m = m := IntWalk.i64_in _ (by omega)
  have hw48 : IntKind.i64.wrap (48 + m) = 48 + m := IntWalk.i64_in _ (by omega)
  have hw8 : IntKind.u8.wrap (48 + m) = 48 + m := IntWalk.u8_in _ (by omega)
  have E := Lib.hid e
  have KI := Lib.hid HI
  clear e hz HI q1 m1
  generalize digB (x.natAbs % 10) = d at *
  generalize S q = s' at *
  generalize S x = s at *
  go_enter Tryz.func15, Tryz.ntmps15
  go_wp2_with fail
  go_region_with (go_at_call 15; refine (KI.out _).mono ?_; rintro e w9 ⟨rfl, hb9⟩; have hc2 := conv_one w9 _ _ HZ.out; (try have hc3 := conv_at w9 w.heap.size _ _ HZ.out (by first | exact below_new (w := w) hb9 | exact below_new (w := w.drew) hb9)))
  all_goals
    go_wp2_with fail
    go_ret
    refine ⟨by rw [E.out]; rfl, ?_⟩
    first
      | exact ((Below.refl w.heap.size w).drew.trans (show Below w.heap.size w.drew w9 from hb9)).alloc hb9.size _
      | exact (((Below.refl _ w).alloc (Nat.le_refl _) _).drew).trans (hb9.mono (by show w.heap.size ≤ (w.heap.push _).size; simp))
theorem i64_lim0 {a : Int} (h : I64 a) : a.natAbs < lim := by
  have hL := lim_big
  unfold I64 at h
  omega
theorem S_len {x : Int} (h : I64 x) : (S x).size ≤ 1000 := Nat.le_trans (S_size (i64_lim0 h)) (by decide)
theorem rof_all : ∀ (n : Nat) (x : Int), x.natAbs ≤ n → I64 x → ROfIs x (S x) := by
  intro n
  induction n with
  | zero => intro x hx h; exact rof_small_pos (by omega) (by omega)
  | succ n ih =>
    intro x hx h
    have h0 := h
    unfold I64 at h0
    rcases Int.lt_or_le x 0 with h1 | h1
    · rcases Int.lt_or_le (-10) x with h2 | h2
      · exact rof_small_neg h1 h2
      · have e := (tdiv_low (x := x) (by omega)).1
        have hq : I64 (x.tdiv 10) := by unfold I64; omega
        exact rof_big_neg h2 h.1 (ih _ (by omega) hq) (S_len hq)
    · rcases Int.lt_or_le x 10 with h2 | h2
      · exact rof_small_pos h1 h2
      · have e := (tdiv_high (x := x) (by omega)).1
        have hq : I64 (x.tdiv 10) := by unfold I64; omega
        exact rof_big_pos h2 h.2 (ih _ (by omega) hq) (S_len hq)
theorem rOf_any {x : Int} (h : I64 x) : ROfIs x (S x) := rof_all x.natAbs x (Nat.le_refl _) h
end Go.Proofs.YtinhbmjfeabecaaGreatDoor

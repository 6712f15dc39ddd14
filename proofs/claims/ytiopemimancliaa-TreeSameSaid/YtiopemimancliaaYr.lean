/-
  Few nodes; a tree of one number; the document's example.
-/
import Derived.Test.YtiopemimancliaaYq
import Derived.Test.YtiopemimancliaaYo
namespace Go.Proofs.Ytiopemimancliaa
open Go.RowKit

def FewEnd (f : Nat → Nd) (n : Nat) (W : World) (e : Ending) (W' : World) : Prop := ∃ r : Bool, e = .returned (.bool r) ∧ (r = true → n ≤ 80 ∧ ∀ j, j < n → (f j).m ≤ 120) ∧ Below W.heap.size W W'
set_option maxHeartbeats 3200000 in
theorem Few_is (a : Option Addr) (n c : Nat) (f : Nat → Nd) (W : World) (h : Nq W a n f) (hn : n ≤ 9223372036854775807) :
    Calls Try.prog 8 #[.slice a n c] W (FewEnd f n W) := by
  have H := Lib.hid h
  clear h
  go_enter Try.func8, Try.ntmps8
  go_wp2_with fail
  go_loopw [3] (fun iv wr => ∃ i : Nat, iv = .int .i64 i ∧ i ≤ n ∧ i ≤ 81 ∧ (∀ j, j < i → (f j).m ≤ 120) ∧ Below W.heap.size W wr) (fun iv _ => n - (intOf iv).toNat)
  case atStart => exact ⟨0, rfl, by omega, by omega, fun j hj => by omega, Below.refl _ _⟩
  case round =>
    obtain ⟨i, rfl, hi, hi2, hall, hb⟩ := hrel
    have HA := Lib.hid hall
    clear hall
    by_cases hlt : i < n
    · have e2 : (i : Int) < (n : Int) := by omega
      by_cases h81 : i < 81
      · have e3 : (i : Int) < 81 := by omega
        obtain ⟨ga, oa, rfl, hca⟩ := H.out.ld (by omega)
        have la := (hca i hlt).below hb (hca i hlt).lt
        have oA := (H.out.on i hlt).below hb
        have HNA := Lib.hid (fun (h : (f i).m ≤ 120) j (hj : j < i + 1) => show (f j).m ≤ 120 by
          by_cases hij : j < i
          · exact HA.out j hij
          · obtain rfl : j = i := by omega
            exact h)
        clear hca
        generalize f i = df at *
        obtain ⟨dk, dv, da, dx, dp, dm, dc, dn⟩ := df
        obtain ⟨c0, c1, c2, c3, c4⟩ := la
        simp only at c0 c1 c2 c3 c4 HNA
        have q1 : dm ≤ 9223372036854775807 := maxLen_le (Nat.le_trans oA.mc oA.cm)
        have z1 := maxLen_le oA.vz
        have z2 := maxLen_le oA.az
        have z3 := maxLen_le oA.xz
        simp only at z1 z2 z3
        have HOA := Lib.hid oA
        clear oA
        by_cases hv : 120 < dv.size
        · have e4 : (120 : Int) < (dv.size : Int) := by omega
          go_wp2_with fail
          go_ret
          exact ⟨false, rfl, (fun h => by cases h), hb⟩
        have e4 : ¬ (120 : Int) < (dv.size : Int) := by omega
        by_cases ha : 120 < da.size
        · have e5 : (120 : Int) < (da.size : Int) := by omega
          go_wp2_with fail
          go_ret
          exact ⟨false, rfl, (fun h => by cases h), hb⟩
        have e5 : ¬ (120 : Int) < (da.size : Int) := by omega
        by_cases hx : 120 < dx.size
        · have e6 : (120 : Int) < (dx.size : Int) := by omega
          go_wp2_with fail
          go_ret
          exact ⟨false, rfl, (fun h => by cases h), hb⟩
        have e6 : ¬ (120 : Int) < (dx.size : Int) := by omega
        by_cases hm : 120 < dm
        · have e7 : (120 : Int) < (dm : Int) := by omega
          go_wp2_with fail
          go_ret
          exact ⟨false, rfl, (fun h => by cases h), hb⟩
        have e7 : ¬ (120 : Int) < (dm : Int) := by omega
        clear hv ha hx
        go_wp2_with fail
        go_loopw [4] (fun kv w2 => ∃ q : Nat, kv = .int .i64 q ∧ q ≤ dm ∧ w2 = wr) (fun kv _ => dm - (intOf kv).toNat)
        case atStart => exact ⟨0, rfl, by omega, rfl⟩
        case round =>
          obtain ⟨q, rfl, hq, rfl⟩ := hrel
          clear c0 c1 c2 c3
          by_cases hqm : q < dm
          · have f2 : (q : Int) < (dm : Int) := by omega
            obtain ⟨gb, ob, hgb, hcb⟩ := HOA.out.st.2 (by simp only; omega)
            have hgb : dp = some ⟨gb, ob, none⟩ := hgb
            subst hgb
            have cs := hcb q hqm
            have zs : (dn.getD q ByteArray.empty).size ≤ 9223372036854775807 := maxLen_le (HOA.out.nz _ (getD_mem (by have := HOA.out.nl; simp only at this; simp only; omega)))
            simp only at cs
            generalize dn.getD q ByteArray.empty = s at cs zs
            clear hcb
            by_cases hs : 120 < s.size
            · have f3 : (120 : Int) < (s.size : Int) := by omega
              go_wp2_with fail
              go_ret
              exact ⟨false, rfl, (fun h => by cases h), hb⟩
            · have f3 : ¬ (120 : Int) < (s.size : Int) := by omega
              go_wp2_with fail
              refine ⟨⟨q + 1, by go_num, by omega, by first | rfl | trivial⟩, by simp [intOf]; omega⟩
          · have f2 : ¬ (q : Int) < (dm : Int) := by omega
            go_wp2_with fail
            refine ⟨⟨i + 1, by go_num, by omega, by omega, HNA.out (by omega), hb⟩, by simp [intOf]; omega⟩
      · have e3 : ¬ (i : Int) < 81 := by omega
        have e8 : ¬ (n : Int) ≤ 80 := by omega
        go_wp2_with fail
        go_ret
        exact ⟨false, rfl, (fun h => by cases h), hb⟩
    · have e2 : ¬ (i : Int) < (n : Int) := by omega
      obtain rfl : i = n := by omega
      by_cases h80 : i ≤ 80
      · have e8 : (i : Int) ≤ 80 := by omega
        go_wp2_with fail
        go_ret
        exact ⟨true, rfl, fun _ => ⟨h80, HA.out⟩, hb⟩
      · have e8 : ¬ (i : Int) ≤ 80 := by omega
        go_wp2_with fail
        go_ret
        exact ⟨false, rfl, (fun h => by cases h), hb⟩
/-- A tree of one number. -/
def litN (s : ByteArray) (g : Option Addr) : Nd := ⟨1, ⟨#[]⟩, ⟨#[]⟩, ⟨#[]⟩, g, 1, 1, [s]⟩
def LitEnd (s : ByteArray) (W : World) (e : Ending) (W' : World) : Prop := ∃ a g, e = .returned (.slice a 1 1) ∧ Nq W' a 1 (fun _ => litN s g) ∧ Below W.heap.size W W'
theorem lit_is (s : ByteArray) (hs : s.size ≤ maxLen) (W : World) : Calls Try.prog 23 #[.string s] W (LitEnd s W) := by
  go_enter Try.func23, Try.ntmps23
  go_wp2_with fail
  go_ret
  have h1 := heap_alloc_new W (.cells #[.string s] 9)
  have hb1 := box_below W (.cells #[.string s] 9)
  have hs1 : (W.alloc (.cells #[.string s] 9)).heap.size = W.heap.size + 1 := by simp
  have hB := Bd.new (W.alloc (.cells #[.string s] 9)) 1 ⟨#[]⟩ ⟨#[]⟩ ⟨#[]⟩ (some ⟨W.heap.size, 0, none⟩) 1 1
  have hb2 := hb1.alloc hb1.size (.cells #[.int .i64 1, .string ⟨#[]⟩, .string ⟨#[]⟩, .string ⟨#[]⟩, .slice (some ⟨W.heap.size, 0, none⟩) 1 1] 25)
  have hb3 := box_below (W.alloc (.cells #[.string s] 9)) (.cells #[.int .i64 1, .string ⟨#[]⟩, .string ⟨#[]⟩, .string ⟨#[]⟩, .slice (some ⟨W.heap.size, 0, none⟩) 1 1] 25)
  have hst : St (W.alloc (.cells #[.string s] 9)) (some ⟨W.heap.size, 0, none⟩) 1 [s] := ⟨rfl, fun _ => ⟨W.heap.size, 0, rfl, fun j hj => by
    obtain rfl : j = 0 := by omega
    rw [cell_of_row _ _ _ _ _ _ h1]; rfl⟩⟩
  rw [hs1] at hB
  refine ⟨some ⟨W.heap.size + 1, 0, none⟩, some ⟨W.heap.size, 0, none⟩, rfl, ⟨fun _ => ⟨_, 0, rfl, fun j hj => ?_⟩, fun j hj => ?_⟩, hb2⟩
  · obtain rfl : j = 0 := by omega
    exact ⟨hB.c0, hB.c1, hB.c2, hB.c3, hB.c4⟩
  · exact ⟨hst.below hb3, Nat.le_refl _, by unfold maxLen litN; simp, by unfold litN; simp, by unfold litN; simp, Nat.zero_le _, Nat.zero_le _, Nat.zero_le _, fun t ht => by rw [List.mem_singleton.1 ht]; exact hs⟩
theorem okN_same {d e : Nd} (h : smN d e = true) : okN d = okN e := by
  obtain ⟨h1, h2, h3, h4, h5⟩ := smN_yes.1 h
  unfold okN
  rw [h1, h2, h3, h4, h5]
theorem ks_same {f g : Nat → Nd} {n : Nat} (h : ∀ j, j < n → smN (f j) (g j) = true) : ksF f n = ksF g n := by
  unfold ksF
  refine List.map_congr_left fun j hj => ?_
  obtain ⟨h1, h2, _⟩ := smN_yes.1 (h j (List.mem_range.1 hj))
  rw [h1, h2]
theorem lx_plus : lxT ⟨#[43]⟩ = [⟨4, [43], 0⟩] ∧ lxE ⟨#[43]⟩ = none := by
  have h := lx_run ⟨#[43]⟩
  generalize lxT ⟨#[43]⟩ = ts at *
  generalize lxE ⟨#[43]⟩ = e at *
  have h : Run numB (43 :: []) 0 ts e := h
  have hc : cls 43 = 4 := by decide
  rcases h.inv with ⟨h7, _⟩ | ⟨t, r, us, _, _, hl, _, _, _, hts, hr⟩ | ⟨h0, _⟩ | ⟨h1, _⟩
  · rw [hc] at h7; cases h7
  · obtain ⟨rfl, rfl⟩ := List.append_eq_nil_iff.1 hl.symm
    obtain ⟨rfl, rfl⟩ := hr.inv_nil
    rw [hts, hc]
    exact ⟨rfl, rfl⟩
  · rw [hc] at h0; cases h0
  · rw [hc] at h1; cases h1
theorem prt_plus : prt ⟨#[43]⟩ 4 = true := by
  unfold prt
  rw [if_pos (by decide), lx_plus.2, lx_plus.1]
  show (decide (((4 : Nat) : Int) = 4) && ((tx [43]).toList == (⟨#[43]⟩ : ByteArray).toList)) = true
  rw [show tx [43] = (⟨#[43]⟩ : ByteArray) from rfl]
  simp
end Go.Proofs.Ytiopemimancliaa

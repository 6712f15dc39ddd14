import Derived.Test.YtinhbmjfeabecaaDoorRw3
namespace Go.Proofs.YtinhbmjfeabecaaDoor
open Go.RowKit

def MaxIs (f : Nat) (a : Option Addr) (n c : Nat) (m : Int) (W : World) : Prop := ∀ W', Below W.heap.size W W' → Calls Tryd.prog f #[.slice a n c] W' fun e W'' => e = .returned (.int .i64 m) ∧ W' = W''
set_option maxRecDepth 10000 in
set_option maxHeartbeats 3200000 in
theorem tells_main (s : ByteArray) (x w o m nx : Int) (v : Bool) (a : Option Addr) (n c : Nat) (W : World) (ht : WT W) (hs : s.size ≤ 200) (hn : n ≤ 100)
    (H1 : ∀ W, WT W → Calls Tryd.prog 10 #[.string s] W fun e W' => e = .returned (.int .i64 o) ∧ Below W.heap.size W W')
    (R1 : ∀ W, Calls Tryd.prog 11 #[.string s] W fun e W' => e = .returned (.int .i64 o) ∧ Below W.heap.size W W')
    (H2 : FitsIs x w v) (R2 : ∀ W, Calls Tryd.prog 13 #[.int .i64 x, .int .i64 w] W fun e W' => e = .returned (.bool v) ∧ Below W.heap.size W W')
    (H3 : MaxIs 14 a n c m W) (R3 : MaxIs 15 a n c m W)
    (H4 : NextIs w nx) (R4 : ∀ W, Calls Tryd.prog 17 #[.int .i64 w] W fun e W' => e = .returned (.int .i64 nx) ∧ W = W') :
    Calls Tryd.prog 3 #[.string s, .int .i64 x, .int .i64 w, .slice a n c] W (TrueEnd W) := by
  have KT := Lib.hid ht
  have K1 := Lib.hid H1
  have K2 := Lib.hid H2
  have K3 := Lib.hid H3
  have K4 := Lib.hid H4
  have J1 := Lib.hid R1
  have J2 := Lib.hid R2
  have J3 := Lib.hid R3
  have J4 := Lib.hid R4
  have e1 : ¬ (200 : Int) < (s.size : Int) := by omega
  have e2 : ¬ (100 : Int) < (n : Int) := by omega
  clear ht H1 H2 H3 H4 R1 R2 R3 R4
  go_enter Tryd.func3, Tryd.ntmps3
  go_wp2_with fail
  refine (shown_w _ KT.out).mono ?_
  rintro e w1 ⟨rfl, hb⟩
  go_wp2_with fail
  refine (K1.out _ (KT.out.below hb)).mono ?_
  rintro e w2 ⟨rfl, hq⟩
  replace hb := hb.trans (hq.mono hb.size)
  clear hq
  go_wp2_with fail
  refine (J1.out _).mono ?_
  rintro e w3 ⟨rfl, hq⟩
  replace hb := hb.trans (hq.mono hb.size)
  clear hq
  go_wp2_with fail
  refine (K2.out _ (KT.out.below hb).wid).mono ?_
  rintro e w9 ⟨rfl, rfl⟩
  go_wp2_with fail
  refine (J2.out _).mono ?_
  rintro e w4 ⟨rfl, hq⟩
  replace hb := hb.trans (hq.mono hb.size)
  clear hq
  go_wp2_with fail
  refine (K3.out _ hb).mono ?_
  rintro e w9 ⟨rfl, rfl⟩
  go_wp2_with fail
  refine (J3.out _ hb).mono ?_
  rintro e w9 ⟨rfl, rfl⟩
  go_wp2_with fail
  refine (K4.out _ (KT.out.below hb).wid).mono ?_
  rintro e w9 ⟨rfl, rfl⟩
  go_wp2_with fail
  refine (J4.out _).mono ?_
  rintro e w9 ⟨rfl, rfl⟩
  go_wp2_with fail
  go_ret
  exact ⟨rfl, hb⟩
set_option maxRecDepth 10000 in
theorem tells_none (s : ByteArray) (x w : Int) (a : Option Addr) (n c : Nat) (W : World) (ht : WT W) (h : 200 < s.size ∨ 100 < n) :
    Calls Tryd.prog 3 #[.string s, .int .i64 x, .int .i64 w, .slice a n c] W (TrueEnd W) := by
  have KT := Lib.hid ht
  clear ht
  by_cases h1 : 200 < s.size
  · have e1 : (200 : Int) < (s.size : Int) := by omega
    clear h
    go_enter Tryd.func3, Tryd.ntmps3
    go_wp2_with fail
    refine (shown_w _ KT.out).mono ?_
    rintro e w1 ⟨rfl, hb⟩
    go_wp2_with fail
    go_ret
    exact ⟨rfl, hb⟩
  · have e1 : ¬ (200 : Int) < (s.size : Int) := by omega
    have e2 : (100 : Int) < (n : Int) := by omega
    clear h
    go_enter Tryd.func3, Tryd.ntmps3
    go_wp2_with fail
    refine (shown_w _ KT.out).mono ?_
    rintro e w1 ⟨rfl, hb⟩
    go_wp2_with fail
    go_ret
    exact ⟨rfl, hb⟩
theorem tells_any (s : ByteArray) (x w : Int) (a : Option Addr) (n c : Nat) (W : World) (ht : WT W) (hs : s.size ≤ maxLen) (hx : I64 x) (h : Ints W a n) :
    Calls Tryd.prog 3 #[.string s, .int .i64 x, .int .i64 w, .slice a n c] W (TrueEnd W) := by
  by_cases hb : 200 < s.size ∨ 100 < n
  · exact tells_none s x w a n c W ht hb
  obtain ⟨o, ho⟩ := is_ex s hs
  have hm : ∃ m, MaxIs 14 a n c m W ∧ MaxIs 15 a n c m W := by
    rcases h with rfl | ⟨b, off, l, rfl, hn, hml, hl⟩
    · exact ⟨8, fun W' _ => Max_empty a c W', fun W' _ => rMax_none a c W'⟩
    · exact ⟨_, fun W' hb => Max_ints (hl.below hb) hn hml, fun W' hb => rMax_some b off n c l W' (hl.below hb) hn hml⟩
  obtain ⟨m, m1, m2⟩ := hm
  exact tells_main s x w (leastO o) m (nextW w) (decide (Fit x w)) a n c W ht (by omega) (by omega) (fun W ht => Of_opt ho W ht) (fun W => rOf_opt2 ho W) (fits_any x w hx.1 hx.2) (fun W => rFits_any x w hx W) m1 m2 (next_is w) (fun W => rNext_any w W)
end Go.Proofs.YtinhbmjfeabecaaDoor

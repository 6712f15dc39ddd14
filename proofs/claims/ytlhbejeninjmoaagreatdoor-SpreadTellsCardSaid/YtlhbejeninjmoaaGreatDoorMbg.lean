import Derived.Test.YtlhbejeninjmoaaGreatDoorMbf
/-
  The reference's Dyad, Monad, Whole at any texts.
-/
namespace Go.Proofs.YtlhbejeninjmoaaGreatDoor
set_option linter.unusedVariables false
set_option linter.unusedSimpArgs false
open Go.RowKit

set_option maxRecDepth 10000 in
set_option maxHeartbeats 3200000 in
theorem rbit_is (b : Bool) (w : World) : Calls Tryz.prog 56 #[.bool b] w fun e w' => e = .returned (.string (S (bI b))) ∧ w = w' := by
  cases b
  · rw [show S (bI false) = ⟨#[48]⟩ from S_0]
    go_enter Tryz.func56, Tryz.ntmps56
    go_wp2_with fail
    go_ret
    exact ⟨rfl, rfl⟩
  · rw [show S (bI true) = ⟨#[49]⟩ from S_1]
    go_enter Tryz.func56, Tryz.ntmps56
    go_wp2_with fail
    go_ret
    exact ⟨rfl, rfl⟩
def RDyIs (op a b d : ByteArray) (ec : Int) : Prop := ∀ w, Calls Tryz.prog 30 #[.string op, .string a, .string b] w fun e w' => e = .returned (.tuple #[.string d, .int .i64 ec]) ∧ Below w.heap.size w w'
def RMnIs (op a d : ByteArray) (ec : Int) : Prop := ∀ w, Calls Tryz.prog 36 #[.string op, .string a] w fun e w' => e = .returned (.tuple #[.string d, .int .i64 ec]) ∧ Below w.heap.size w w'
def RBitIs (b : Bool) (d : ByteArray) : Prop := ∀ w, Calls Tryz.prog 56 #[.bool b] w fun e w' => e = .returned (.string d) ∧ w = w'
def ROpIs (F : FuncId) (a b d : ByteArray) (ec : Int) : Prop := ∀ w, Calls Tryz.prog F #[.string a, .string b] w fun e w' => e = .returned (.tuple #[.string d, .int .i64 ec]) ∧ Below w.heap.size w w'
set_option maxRecDepth 10000 in
set_option maxHeartbeats 6400000 in
theorem rdy_0 (a b : ByteArray) (c : Int) (HA : RMayIs a true) (HB : RMayIs b true) (HC : RCmpIs a b c) (d : ByteArray) (ec : Int) (HF : ROpIs 51 a b d ec) : RDyIs ⟨#[43]⟩ a b d ec := by
  intro w
  unfold RCmpIs IntEnd at HC
  unfold ROpIs at HF
  have KA := Lib.hid HA
  have KB := Lib.hid HB
  have KC := Lib.hid HC
  have KF := Lib.hid HF
  clear HA HB HC HF
  go_enter Tryz.func30, Tryz.ntmps30
  go_wp2_with fail
  refine (KA.out _).mono ?_
  rintro e w1 ⟨rfl, rfl⟩
  go_wp2_with fail
  refine (KB.out _).mono ?_
  rintro e w1 ⟨rfl, rfl⟩
  go_wp2_with fail
  refine (KC.out _).mono ?_
  rintro e w1 ⟨rfl, hb⟩
  go_wp2_with fail
  refine (KF.out _).mono ?_
  rintro e w2 ⟨rfl, hq⟩
  replace hb := hb.trans (hq.mono hb.size)
  clear hq
  go_wp2_with fail
  go_ret2
  exact ⟨rfl, hb⟩
set_option maxRecDepth 10000 in
set_option maxHeartbeats 6400000 in
theorem rdy_1 (a b : ByteArray) (c : Int) (HA : RMayIs a true) (HB : RMayIs b true) (HC : RCmpIs a b c) (d : ByteArray) (ec : Int) (HF : ROpIs 52 a b d ec) : RDyIs ⟨#[45]⟩ a b d ec := by
  intro w
  unfold RCmpIs IntEnd at HC
  unfold ROpIs at HF
  have KA := Lib.hid HA
  have KB := Lib.hid HB
  have KC := Lib.hid HC
  have KF := Lib.hid HF
  clear HA HB HC HF
  go_enter Tryz.func30, Tryz.ntmps30
  go_wp2_with fail
  refine (KA.out _).mono ?_
  rintro e w1 ⟨rfl, rfl⟩
  go_wp2_with fail
  refine (KB.out _).mono ?_
  rintro e w1 ⟨rfl, rfl⟩
  go_wp2_with fail
  refine (KC.out _).mono ?_
  rintro e w1 ⟨rfl, hb⟩
  go_wp2_with fail
  refine (KF.out _).mono ?_
  rintro e w2 ⟨rfl, hq⟩
  replace hb := hb.trans (hq.mono hb.size)
  clear hq
  go_wp2_with fail
  go_ret2
  exact ⟨rfl, hb⟩
set_option maxRecDepth 10000 in
set_option maxHeartbeats 6400000 in
theorem rdy_2 (a b : ByteArray) (c : Int) (HA : RMayIs a true) (HB : RMayIs b true) (HC : RCmpIs a b c) (d : ByteArray) (ec : Int) (HF : ROpIs 53 a b d ec) : RDyIs ⟨#[42]⟩ a b d ec := by
  intro w
  unfold RCmpIs IntEnd at HC
  unfold ROpIs at HF
  have KA := Lib.hid HA
  have KB := Lib.hid HB
  have KC := Lib.hid HC
  have KF := Lib.hid HF
  clear HA HB HC HF
  go_enter Tryz.func30, Tryz.ntmps30
  go_wp2_with fail
  refine (KA.out _).mono ?_
  rintro e w1 ⟨rfl, rfl⟩
  go_wp2_with fail
  refine (KB.out _).mono ?_
  rintro e w1 ⟨rfl, rfl⟩
  go_wp2_with fail
  refine (KC.out _).mono ?_
  rintro e w1 ⟨rfl, hb⟩
  go_wp2_with fail
  refine (KF.out _).mono ?_
  rintro e w2 ⟨rfl, hq⟩
  replace hb := hb.trans (hq.mono hb.size)
  clear hq
  go_wp2_with fail
  go_ret2
  exact ⟨rfl, hb⟩
set_option maxRecDepth 10000 in
set_option maxHeartbeats 6400000 in
theorem rdy_3 (a b : ByteArray) (c : Int) (HA : RMayIs a true) (HB : RMayIs b true) (HC : RCmpIs a b c) (d : ByteArray) (ec : Int) (HF : ROpIs 54 a b d ec) : RDyIs ⟨#[37]⟩ a b d ec := by
  intro w
  unfold RCmpIs IntEnd at HC
  unfold ROpIs at HF
  have KA := Lib.hid HA
  have KB := Lib.hid HB
  have KC := Lib.hid HC
  have KF := Lib.hid HF
  clear HA HB HC HF
  go_enter Tryz.func30, Tryz.ntmps30
  go_wp2_with fail
  refine (KA.out _).mono ?_
  rintro e w1 ⟨rfl, rfl⟩
  go_wp2_with fail
  refine (KB.out _).mono ?_
  rintro e w1 ⟨rfl, rfl⟩
  go_wp2_with fail
  refine (KC.out _).mono ?_
  rintro e w1 ⟨rfl, hb⟩
  go_wp2_with fail
  refine (KF.out _).mono ?_
  rintro e w2 ⟨rfl, hq⟩
  replace hb := hb.trans (hq.mono hb.size)
  clear hq
  go_wp2_with fail
  go_ret2
  exact ⟨rfl, hb⟩
set_option maxRecDepth 10000 in
set_option maxHeartbeats 6400000 in
theorem rdy_4 (a b : ByteArray) (c : Int) (HA : RMayIs a true) (HB : RMayIs b true) (HC : RCmpIs a b c) (d : ByteArray) (ec : Int) (HF : ROpIs 55 a b d ec) : RDyIs ⟨#[33]⟩ a b d ec := by
  intro w
  unfold RCmpIs IntEnd at HC
  unfold ROpIs at HF
  have KA := Lib.hid HA
  have KB := Lib.hid HB
  have KC := Lib.hid HC
  have KF := Lib.hid HF
  clear HA HB HC HF
  go_enter Tryz.func30, Tryz.ntmps30
  go_wp2_with fail
  refine (KA.out _).mono ?_
  rintro e w1 ⟨rfl, rfl⟩
  go_wp2_with fail
  refine (KB.out _).mono ?_
  rintro e w1 ⟨rfl, rfl⟩
  go_wp2_with fail
  refine (KC.out _).mono ?_
  rintro e w1 ⟨rfl, hb⟩
  go_wp2_with fail
  refine (KF.out _).mono ?_
  rintro e w2 ⟨rfl, hq⟩
  replace hb := hb.trans (hq.mono hb.size)
  clear hq
  go_wp2_with fail
  go_ret2
  exact ⟨rfl, hb⟩
set_option maxRecDepth 10000 in
set_option maxHeartbeats 6400000 in
theorem rdy_7t (a b : ByteArray) (c : Int) (HA : RMayIs a true) (HB : RMayIs b true) (HC : RCmpIs a b c) (hc9 : c = -1 ∨ c = 0 ∨ c = 1) (hc : c < 0) (d : ByteArray) (HF : RBitIs true d) : RDyIs ⟨#[60]⟩ a b d 0 := by
  intro w
  unfold RCmpIs IntEnd at HC
  unfold RBitIs at HF
  have KA := Lib.hid HA
  have KB := Lib.hid HB
  have KC := Lib.hid HC
  have KF := Lib.hid HF
  clear HA HB HC HF
  rcases hc9 with rfl | rfl | rfl
  all_goals first | exact absurd hc (by decide) | clear hc
  all_goals
    go_enter Tryz.func30, Tryz.ntmps30
    go_wp2_with fail
    refine (KA.out _).mono ?_
    rintro e w1 ⟨rfl, rfl⟩
    go_wp2_with fail
    refine (KB.out _).mono ?_
    rintro e w1 ⟨rfl, rfl⟩
    go_wp2_with fail
    refine (KC.out _).mono ?_
    rintro e w1 ⟨rfl, hb⟩
    go_wp2_with fail
    refine (KF.out _).mono ?_
    rintro e w1 ⟨rfl, rfl⟩
    go_wp2_with fail
    go_ret2
    exact ⟨rfl, hb⟩
set_option maxRecDepth 10000 in
set_option maxHeartbeats 6400000 in
theorem rdy_7f (a b : ByteArray) (c : Int) (HA : RMayIs a true) (HB : RMayIs b true) (HC : RCmpIs a b c) (hc9 : c = -1 ∨ c = 0 ∨ c = 1) (hc : ¬ c < 0) (d : ByteArray) (HF : RBitIs false d) : RDyIs ⟨#[60]⟩ a b d 0 := by
  intro w
  unfold RCmpIs IntEnd at HC
  unfold RBitIs at HF
  have KA := Lib.hid HA
  have KB := Lib.hid HB
  have KC := Lib.hid HC
  have KF := Lib.hid HF
  clear HA HB HC HF
  rcases hc9 with rfl | rfl | rfl
  all_goals first | exact absurd hc (by decide) | clear hc
  all_goals
    go_enter Tryz.func30, Tryz.ntmps30
    go_wp2_with fail
    refine (KA.out _).mono ?_
    rintro e w1 ⟨rfl, rfl⟩
    go_wp2_with fail
    refine (KB.out _).mono ?_
    rintro e w1 ⟨rfl, rfl⟩
    go_wp2_with fail
    refine (KC.out _).mono ?_
    rintro e w1 ⟨rfl, hb⟩
    go_wp2_with fail
    refine (KF.out _).mono ?_
    rintro e w1 ⟨rfl, rfl⟩
    go_wp2_with fail
    go_ret2
    exact ⟨rfl, hb⟩
set_option maxRecDepth 10000 in
set_option maxHeartbeats 6400000 in
theorem rdy_8t (a b : ByteArray) (c : Int) (HA : RMayIs a true) (HB : RMayIs b true) (HC : RCmpIs a b c) (hc9 : c = -1 ∨ c = 0 ∨ c = 1) (hc : 0 < c) (d : ByteArray) (HF : RBitIs true d) : RDyIs ⟨#[62]⟩ a b d 0 := by
  intro w
  unfold RCmpIs IntEnd at HC
  unfold RBitIs at HF
  have KA := Lib.hid HA
  have KB := Lib.hid HB
  have KC := Lib.hid HC
  have KF := Lib.hid HF
  clear HA HB HC HF
  rcases hc9 with rfl | rfl | rfl
  all_goals first | exact absurd hc (by decide) | clear hc
  all_goals
    go_enter Tryz.func30, Tryz.ntmps30
    go_wp2_with fail
    refine (KA.out _).mono ?_
    rintro e w1 ⟨rfl, rfl⟩
    go_wp2_with fail
    refine (KB.out _).mono ?_
    rintro e w1 ⟨rfl, rfl⟩
    go_wp2_with fail
    refine (KC.out _).mono ?_
    rintro e w1 ⟨rfl, hb⟩
    go_wp2_with fail
    refine (KF.out _).mono ?_
    rintro e w1 ⟨rfl, rfl⟩
    go_wp2_with fail
    go_ret2
    exact ⟨rfl, hb⟩
set_option maxRecDepth 10000 in
set_option maxHeartbeats 6400000 in
theorem rdy_8f (a b : ByteArray) (c : Int) (HA : RMayIs a true) (HB : RMayIs b true) (HC : RCmpIs a b c) (hc9 : c = -1 ∨ c = 0 ∨ c = 1) (hc : ¬ 0 < c) (d : ByteArray) (HF : RBitIs false d) : RDyIs ⟨#[62]⟩ a b d 0 := by
  intro w
  unfold RCmpIs IntEnd at HC
  unfold RBitIs at HF
  have KA := Lib.hid HA
  have KB := Lib.hid HB
  have KC := Lib.hid HC
  have KF := Lib.hid HF
  clear HA HB HC HF
  rcases hc9 with rfl | rfl | rfl
  all_goals first | exact absurd hc (by decide) | clear hc
  all_goals
    go_enter Tryz.func30, Tryz.ntmps30
    go_wp2_with fail
    refine (KA.out _).mono ?_
    rintro e w1 ⟨rfl, rfl⟩
    go_wp2_with fail
    refine (KB.out _).mono ?_
    rintro e w1 ⟨rfl, rfl⟩
    go_wp2_with fail
    refine (KC.out _).mono ?_
    rintro e w1 ⟨rfl, hb⟩
    go_wp2_with fail
    refine (KF.out _).mono ?_
    rintro e w1 ⟨rfl, rfl⟩
    go_wp2_with fail
    go_ret2
    exact ⟨rfl, hb⟩
set_option maxRecDepth 10000 in
set_option maxHeartbeats 6400000 in
theorem rdy_9t (a b : ByteArray) (c : Int) (HA : RMayIs a true) (HB : RMayIs b true) (HC : RCmpIs a b c) (hc9 : c = -1 ∨ c = 0 ∨ c = 1) (hc : c = 0) (d : ByteArray) (HF : RBitIs true d) : RDyIs ⟨#[61]⟩ a b d 0 := by
  intro w
  unfold RCmpIs IntEnd at HC
  unfold RBitIs at HF
  have KA := Lib.hid HA
  have KB := Lib.hid HB
  have KC := Lib.hid HC
  have KF := Lib.hid HF
  clear HA HB HC HF
  rcases hc9 with rfl | rfl | rfl
  all_goals first | exact absurd hc (by decide) | clear hc
  all_goals
    go_enter Tryz.func30, Tryz.ntmps30
    go_wp2_with fail
    refine (KA.out _).mono ?_
    rintro e w1 ⟨rfl, rfl⟩
    go_wp2_with fail
    refine (KB.out _).mono ?_
    rintro e w1 ⟨rfl, rfl⟩
    go_wp2_with fail
    refine (KC.out _).mono ?_
    rintro e w1 ⟨rfl, hb⟩
    go_wp2_with fail
    refine (KF.out _).mono ?_
    rintro e w1 ⟨rfl, rfl⟩
    go_wp2_with fail
    go_ret2
    exact ⟨rfl, hb⟩
set_option maxRecDepth 10000 in
set_option maxHeartbeats 6400000 in
theorem rdy_9f (a b : ByteArray) (c : Int) (HA : RMayIs a true) (HB : RMayIs b true) (HC : RCmpIs a b c) (hc9 : c = -1 ∨ c = 0 ∨ c = 1) (hc : ¬ c = 0) (d : ByteArray) (HF : RBitIs false d) : RDyIs ⟨#[61]⟩ a b d 0 := by
  intro w
  unfold RCmpIs IntEnd at HC
  unfold RBitIs at HF
  have KA := Lib.hid HA
  have KB := Lib.hid HB
  have KC := Lib.hid HC
  have KF := Lib.hid HF
  clear HA HB HC HF
  rcases hc9 with rfl | rfl | rfl
  all_goals first | exact absurd hc (by decide) | clear hc
  all_goals
    go_enter Tryz.func30, Tryz.ntmps30
    go_wp2_with fail
    refine (KA.out _).mono ?_
    rintro e w1 ⟨rfl, rfl⟩
    go_wp2_with fail
    refine (KB.out _).mono ?_
    rintro e w1 ⟨rfl, rfl⟩
    go_wp2_with fail
    refine (KC.out _).mono ?_
    rintro e w1 ⟨rfl, hb⟩
    go_wp2_with fail
    refine (KF.out _).mono ?_
    rintro e w1 ⟨rfl, rfl⟩
    go_wp2_with fail
    go_ret2
    exact ⟨rfl, hb⟩
set_option maxRecDepth 10000 in
set_option maxHeartbeats 6400000 in
theorem rdy_10t (a b : ByteArray) (c : Int) (HA : RMayIs a true) (HB : RMayIs b true) (HC : RCmpIs a b c) (hc9 : c = -1 ∨ c = 0 ∨ c = 1) (hc : ¬ c = 0) (d : ByteArray) (HF : RBitIs true d) : RDyIs ⟨#[126]⟩ a b d 0 := by
  intro w
  unfold RCmpIs IntEnd at HC
  unfold RBitIs at HF
  have KA := Lib.hid HA
  have KB := Lib.hid HB
  have KC := Lib.hid HC
  have KF := Lib.hid HF
  clear HA HB HC HF
  rcases hc9 with rfl | rfl | rfl
  all_goals first | exact absurd hc (by decide) | clear hc
  all_goals
    go_enter Tryz.func30, Tryz.ntmps30
    go_wp2_with fail
    refine (KA.out _).mono ?_
    rintro e w1 ⟨rfl, rfl⟩
    go_wp2_with fail
    refine (KB.out _).mono ?_
    rintro e w1 ⟨rfl, rfl⟩
    go_wp2_with fail
    refine (KC.out _).mono ?_
    rintro e w1 ⟨rfl, hb⟩
    go_wp2_with fail
    refine (KF.out _).mono ?_
    rintro e w1 ⟨rfl, rfl⟩
    go_wp2_with fail
    go_ret2
    exact ⟨rfl, hb⟩
set_option maxRecDepth 10000 in
set_option maxHeartbeats 6400000 in
theorem rdy_10f (a b : ByteArray) (c : Int) (HA : RMayIs a true) (HB : RMayIs b true) (HC : RCmpIs a b c) (hc9 : c = -1 ∨ c = 0 ∨ c = 1) (hc : c = 0) (d : ByteArray) (HF : RBitIs false d) : RDyIs ⟨#[126]⟩ a b d 0 := by
  intro w
  unfold RCmpIs IntEnd at HC
  unfold RBitIs at HF
  have KA := Lib.hid HA
  have KB := Lib.hid HB
  have KC := Lib.hid HC
  have KF := Lib.hid HF
  clear HA HB HC HF
  rcases hc9 with rfl | rfl | rfl
  all_goals first | exact absurd hc (by decide) | clear hc
  all_goals
    go_enter Tryz.func30, Tryz.ntmps30
    go_wp2_with fail
    refine (KA.out _).mono ?_
    rintro e w1 ⟨rfl, rfl⟩
    go_wp2_with fail
    refine (KB.out _).mono ?_
    rintro e w1 ⟨rfl, rfl⟩
    go_wp2_with fail
    refine (KC.out _).mono ?_
    rintro e w1 ⟨rfl, hb⟩
    go_wp2_with fail
    refine (KF.out _).mono ?_
    rintro e w1 ⟨rfl, rfl⟩
    go_wp2_with fail
    go_ret2
    exact ⟨rfl, hb⟩
set_option maxRecDepth 10000 in
set_option maxHeartbeats 6400000 in
theorem rdy_5t (a b : ByteArray) (c : Int) (HA : RMayIs a true) (HB : RMayIs b true) (HC : RCmpIs a b c) (hc : c < 0) : RDyIs ⟨#[38]⟩ a b a 0 := by
  intro w
  unfold RCmpIs IntEnd at HC
  have KA := Lib.hid HA
  have KB := Lib.hid HB
  have KC := Lib.hid HC
  clear HA HB HC
  go_enter Tryz.func30, Tryz.ntmps30
  go_wp2_with fail
  refine (KA.out _).mono ?_
  rintro e w1 ⟨rfl, rfl⟩
  go_wp2_with fail
  refine (KB.out _).mono ?_
  rintro e w1 ⟨rfl, rfl⟩
  go_wp2_with fail
  refine (KC.out _).mono ?_
  rintro e w1 ⟨rfl, hb⟩
  go_wp2_with fail
  go_ret2
  exact ⟨rfl, hb⟩
set_option maxRecDepth 10000 in
set_option maxHeartbeats 6400000 in
theorem rdy_5f (a b : ByteArray) (c : Int) (HA : RMayIs a true) (HB : RMayIs b true) (HC : RCmpIs a b c) (hc : ¬ c < 0) : RDyIs ⟨#[38]⟩ a b b 0 := by
  intro w
  unfold RCmpIs IntEnd at HC
  have KA := Lib.hid HA
  have KB := Lib.hid HB
  have KC := Lib.hid HC
  clear HA HB HC
  go_enter Tryz.func30, Tryz.ntmps30
  go_wp2_with fail
  refine (KA.out _).mono ?_
  rintro e w1 ⟨rfl, rfl⟩
  go_wp2_with fail
  refine (KB.out _).mono ?_
  rintro e w1 ⟨rfl, rfl⟩
  go_wp2_with fail
  refine (KC.out _).mono ?_
  rintro e w1 ⟨rfl, hb⟩
  go_wp2_with fail
  go_ret2
  exact ⟨rfl, hb⟩
set_option maxRecDepth 10000 in
set_option maxHeartbeats 6400000 in
theorem rdy_6t (a b : ByteArray) (c : Int) (HA : RMayIs a true) (HB : RMayIs b true) (HC : RCmpIs a b c) (hc : 0 < c) : RDyIs ⟨#[124]⟩ a b a 0 := by
  intro w
  unfold RCmpIs IntEnd at HC
  have KA := Lib.hid HA
  have KB := Lib.hid HB
  have KC := Lib.hid HC
  clear HA HB HC
  go_enter Tryz.func30, Tryz.ntmps30
  go_wp2_with fail
  refine (KA.out _).mono ?_
  rintro e w1 ⟨rfl, rfl⟩
  go_wp2_with fail
  refine (KB.out _).mono ?_
  rintro e w1 ⟨rfl, rfl⟩
  go_wp2_with fail
  refine (KC.out _).mono ?_
  rintro e w1 ⟨rfl, hb⟩
  go_wp2_with fail
  go_ret2
  exact ⟨rfl, hb⟩
set_option maxRecDepth 10000 in
set_option maxHeartbeats 6400000 in
theorem rdy_6f (a b : ByteArray) (c : Int) (HA : RMayIs a true) (HB : RMayIs b true) (HC : RCmpIs a b c) (hc : ¬ 0 < c) : RDyIs ⟨#[124]⟩ a b b 0 := by
  intro w
  unfold RCmpIs IntEnd at HC
  have KA := Lib.hid HA
  have KB := Lib.hid HB
  have KC := Lib.hid HC
  clear HA HB HC
  go_enter Tryz.func30, Tryz.ntmps30
  go_wp2_with fail
  refine (KA.out _).mono ?_
  rintro e w1 ⟨rfl, rfl⟩
  go_wp2_with fail
  refine (KB.out _).mono ?_
  rintro e w1 ⟨rfl, rfl⟩
  go_wp2_with fail
  refine (KC.out _).mono ?_
  rintro e w1 ⟨rfl, hb⟩
  go_wp2_with fail
  go_ret2
  exact ⟨rfl, hb⟩
set_option maxRecDepth 10000 in
set_option maxHeartbeats 6400000 in
theorem rdy_none (op a b : ByteArray) (c : Int) (HA : RMayIs a true) (HB : RMayIs b true) (HC : RCmpIs a b c) (g0 : (op.toList == [43]) = false) (g1 : (op.toList == [45]) = false) (g2 : (op.toList == [42]) = false) (g3 : (op.toList == [37]) = false) (g4 : (op.toList == [33]) = false) (g5 : (op.toList == [38]) = false) (g6 : (op.toList == [124]) = false) (g7 : (op.toList == [60]) = false) (g8 : (op.toList == [62]) = false) (g9 : (op.toList == [61]) = false) (g10 : (op.toList == [126]) = false) : RDyIs op a b ⟨#[]⟩ 1 := by
  intro w
  unfold RCmpIs IntEnd at HC
  have KA := Lib.hid HA
  have KB := Lib.hid HB
  have KC := Lib.hid HC
  clear HA HB HC
  go_enter Tryz.func30, Tryz.ntmps30
  go_wp2_with fail
  refine (KA.out _).mono ?_
  rintro e w1 ⟨rfl, rfl⟩
  go_wp2_with fail
  refine (KB.out _).mono ?_
  rintro e w1 ⟨rfl, rfl⟩
  go_wp2_with fail
  refine (KC.out _).mono ?_
  rintro e w1 ⟨rfl, hb⟩
  go_wp2_with fail
  go_ret2
  exact ⟨rfl, hb⟩
set_option maxRecDepth 10000 in
set_option maxHeartbeats 6400000 in
theorem rdy_arg (op a b : ByteArray) (u v : Bool) (hn : (u && v) = false) (HA : RMayIs a u) (HB : RMayIs b v) : RDyIs op a b ⟨#[]⟩ 1 := by
  intro w
  have KA := Lib.hid HA
  have KB := Lib.hid HB
  clear HA HB
  cases u with
  | false =>
    go_enter Tryz.func30, Tryz.ntmps30
    go_wp2_with fail
    refine (KA.out _).mono ?_
    rintro e w1 ⟨rfl, rfl⟩
    go_wp2_with fail
    go_ret2
    exact ⟨rfl, Below.refl _ _⟩
  | true =>
    cases v with
    | false =>
      go_enter Tryz.func30, Tryz.ntmps30
      go_wp2_with fail
      refine (KA.out _).mono ?_
      rintro e w1 ⟨rfl, rfl⟩
      go_wp2_with fail
      refine (KB.out _).mono ?_
      rintro e w1 ⟨rfl, rfl⟩
      go_wp2_with fail
      go_ret2
      exact ⟨rfl, Below.refl _ _⟩
    | true => exact absurd hn (by decide)
theorem bytes_of {s : ByteArray} {l : List UInt8} (h : s.data.toList = l) : s = ⟨l.toArray⟩ := toList_inj (by rw [str_tl, str_tl, h])
theorem rDyad_is {op s t : ByteArray} {o p : Option Int} (hs : Is s o) (ht : Is t p) : RDyIs op s t (T (dyO (kdL op.data.toList) o p).1) (dyO (kdL op.data.toList) o p).2 := by
  cases hn : (o.isSome && p.isSome)
  · rw [dyO_arg hn]
    exact rdy_arg op s t _ _ hn (rMay_is hs) (rMay_is ht)
  cases o with
  | none => cases hn
  | some x =>
  cases p with
  | none => cases hn
  | some y =>
  have HA : RMayIs s true := rMay_is hs
  have HB : RMayIs t true := rMay_is ht
  have HC : RCmpIs s t (cmpI x y) := rCmp_opt hs ht
  have c1 : cmpI x y < 0 ↔ x < y := by unfold cmpI; (repeat' split) <;> omega
  have c2 : 0 < cmpI x y ↔ y < x := by unfold cmpI; (repeat' split) <;> omega
  have c3 : cmpI x y = 0 ↔ x = y := by unfold cmpI; (repeat' split) <;> omega
  have c9 : cmpI x y = -1 ∨ cmpI x y = 0 ∨ cmpI x y = 1 := by unfold cmpI; (repeat' split) <;> omega
  obtain ⟨k, hk⟩ : ∃ k, kdL op.data.toList = k := ⟨_, rfl⟩
  rw [hk]
  rcases kdL_inv hk with ⟨rfl, h⟩ | ⟨rfl, h⟩ | ⟨rfl, h⟩ | ⟨rfl, h⟩ | ⟨rfl, h⟩ | ⟨rfl, h⟩ | ⟨rfl, h⟩ | ⟨rfl, h⟩ | ⟨rfl, h⟩ | ⟨rfl, h⟩ | ⟨rfl, h⟩ | ⟨rfl, h0, h1, h2, h3, h4, h5, h6, h7, h8, h9, h10⟩
  · rw [bytes_of h]; exact rdy_0 s t _ HA HB HC _ _ fun w => rAdd_dy w hs ht
  · rw [bytes_of h]; exact rdy_1 s t _ HA HB HC _ _ fun w => rSub_dy w hs ht
  · rw [bytes_of h]; exact rdy_2 s t _ HA HB HC _ _ fun w => rMul_dy w hs ht
  · rw [bytes_of h]; exact rdy_3 s t _ HA HB HC _ _ fun w => rDiv_dy w hs ht
  · rw [bytes_of h]; exact rdy_4 s t _ HA HB HC _ _ fun w => rMod_dy w hs ht
  · rw [bytes_of h]
    show RDyIs _ _ _ (S (if x ≤ y then x else y)) 0
    by_cases hc : x < y
    · rw [if_pos (by omega), ← hs.1]; exact rdy_5t s t _ HA HB HC (c1.2 hc)
    · have e : (if x ≤ y then x else y) = y := by split <;> omega
      rw [e, ← ht.1]; exact rdy_5f s t _ HA HB HC (fun h => hc (c1.1 h))
  · rw [bytes_of h]
    show RDyIs _ _ _ (S (if x ≤ y then y else x)) 0
    by_cases hc : y < x
    · rw [if_neg (by omega), ← hs.1]; exact rdy_6t s t _ HA HB HC (c2.2 hc)
    · rw [if_pos (by omega), ← ht.1]; exact rdy_6f s t _ HA HB HC (fun h => hc (c2.1 h))
  · rw [bytes_of h]
    show RDyIs _ _ _ (S (bI (decide (x < y)))) 0
    by_cases hc : x < y
    · rw [decide_eq_true hc]; exact rdy_7t s t _ HA HB HC c9 (c1.2 hc) _ fun w => rbit_is true w
    · rw [decide_eq_false hc]; exact rdy_7f s t _ HA HB HC c9 (fun h => hc (c1.1 h)) _ fun w => rbit_is false w
  · rw [bytes_of h]
    show RDyIs _ _ _ (S (bI (decide (y < x)))) 0
    by_cases hc : y < x
    · rw [decide_eq_true hc]; exact rdy_8t s t _ HA HB HC c9 (c2.2 hc) _ fun w => rbit_is true w
    · rw [decide_eq_false hc]; exact rdy_8f s t _ HA HB HC c9 (fun h => hc (c2.1 h)) _ fun w => rbit_is false w
  · rw [bytes_of h]
    show RDyIs _ _ _ (S (bI (decide (x = y)))) 0
    by_cases hc : x = y
    · rw [decide_eq_true hc]; exact rdy_9t s t _ HA HB HC c9 (c3.2 hc) _ fun w => rbit_is true w
    · rw [decide_eq_false hc]; exact rdy_9f s t _ HA HB HC c9 (fun h => hc (c3.1 h)) _ fun w => rbit_is false w
  · rw [bytes_of h]
    show RDyIs _ _ _ (S (bI (!decide (x = y)))) 0
    by_cases hc : x = y
    · rw [decide_eq_true hc]; exact rdy_10f s t _ HA HB HC c9 (c3.2 hc) _ fun w => rbit_is false w
    · rw [decide_eq_false hc]; exact rdy_10t s t _ HA HB HC c9 (fun h => hc (c3.1 h)) _ fun w => rbit_is true w
  · exact rdy_none op s t _ HA HB HC (by rw [str_tl]; exact beq_eq_false_iff_ne.2 h0) (by rw [str_tl]; exact beq_eq_false_iff_ne.2 h1) (by rw [str_tl]; exact beq_eq_false_iff_ne.2 h2) (by rw [str_tl]; exact beq_eq_false_iff_ne.2 h3) (by rw [str_tl]; exact beq_eq_false_iff_ne.2 h4) (by rw [str_tl]; exact beq_eq_false_iff_ne.2 h5) (by rw [str_tl]; exact beq_eq_false_iff_ne.2 h6) (by rw [str_tl]; exact beq_eq_false_iff_ne.2 h7) (by rw [str_tl]; exact beq_eq_false_iff_ne.2 h8) (by rw [str_tl]; exact beq_eq_false_iff_ne.2 h9) (by rw [str_tl]; exact beq_eq_false_iff_ne.2 h10)
set_option maxRecDepth 10000 in
set_option maxHeartbeats 6400000 in
theorem rmn_0 (a : ByteArray) (HA : RMayIs a true) (d : ByteArray) (HF : ∀ w, Calls Tryz.prog 59 #[.string a] w fun e w' => e = .returned (.string d) ∧ w = w') : RMnIs ⟨#[45]⟩ a d 0 := by
  intro w
  have KA := Lib.hid HA
  have KF := Lib.hid HF
  clear HA HF
  go_enter Tryz.func36, Tryz.ntmps36
  go_wp2_with fail
  refine (KA.out _).mono ?_
  rintro e w1 ⟨rfl, rfl⟩
  go_wp2_with fail
  refine (KF.out _).mono ?_
  rintro e w1 ⟨rfl, rfl⟩
  go_wp2_with fail
  go_ret2
  exact ⟨rfl, Below.refl _ _⟩
set_option maxRecDepth 10000 in
set_option maxHeartbeats 6400000 in
theorem rmn_1 (a : ByteArray) (HA : RMayIs a true) (z : Bool) (hz : (a.toList == [48]) = z) (d : ByteArray) (HF : RBitIs z d) : RMnIs ⟨#[126]⟩ a d 0 := by
  intro w
  unfold RBitIs at HF
  have KA := Lib.hid HA
  have KF := Lib.hid HF
  clear HA HF
  go_enter Tryz.func36, Tryz.ntmps36
  go_wp2_with fail
  refine (KA.out _).mono ?_
  rintro e w1 ⟨rfl, rfl⟩
  go_wp2_with fail
  refine (KF.out _).mono ?_
  rintro e w1 ⟨rfl, rfl⟩
  go_wp2_with fail
  go_ret2
  exact ⟨rfl, Below.refl _ _⟩
set_option maxRecDepth 10000 in
set_option maxHeartbeats 6400000 in
theorem rmn_2 (a : ByteArray) (HA : RMayIs a true) (z : Int) (gz : -1 ≤ z ∧ z ≤ 1) (d : ByteArray) (HS : RSignIs a z) (HO : ROfIs z d) : RMnIs ⟨#[42]⟩ a d 0 := by
  intro w
  unfold RSignIs at HS
  unfold ROfIs StrEnd at HO
  have KA := Lib.hid HA
  have KS := Lib.hid HS
  have KO := Lib.hid HO
  clear HA HS HO
  go_enter Tryz.func36, Tryz.ntmps36
  go_wp2_with fail
  refine (KA.out _).mono ?_
  rintro e w1 ⟨rfl, rfl⟩
  go_wp2_with fail
  refine (KS.out _).mono ?_
  rintro e w1 ⟨rfl, rfl⟩
  go_wp2_with fail
  refine (KO.out _).mono ?_
  rintro e w1 ⟨rfl, hb⟩
  go_wp2_with fail
  go_ret2
  exact ⟨rfl, hb⟩
set_option maxRecDepth 10000 in
set_option maxHeartbeats 6400000 in
theorem rmn_none (op a : ByteArray) (HA : RMayIs a true) (g0 : (op.toList == [45]) = false) (g1 : (op.toList == [126]) = false) (g2 : (op.toList == [42]) = false) : RMnIs op a ⟨#[]⟩ 1 := by
  intro w
  have KA := Lib.hid HA
  clear HA
  go_enter Tryz.func36, Tryz.ntmps36
  go_wp2_with fail
  refine (KA.out _).mono ?_
  rintro e w1 ⟨rfl, rfl⟩
  go_wp2_with fail
  go_ret2
  exact ⟨rfl, Below.refl _ _⟩
set_option maxRecDepth 10000 in
set_option maxHeartbeats 6400000 in
theorem rmn_arg (op a : ByteArray) (HA : RMayIs a false) : RMnIs op a ⟨#[]⟩ 1 := by
  intro w
  have KA := Lib.hid HA
  clear HA
  go_enter Tryz.func36, Tryz.ntmps36
  go_wp2_with fail
  refine (KA.out _).mono ?_
  rintro e w1 ⟨rfl, rfl⟩
  go_wp2_with fail
  go_ret2
  exact ⟨rfl, Below.refl _ _⟩
theorem sign_bd (x : Int) : -1 ≤ x.sign ∧ x.sign ≤ 1 := by
  rcases Int.lt_trichotomy x 0 with h | h | h
  · rw [Int.sign_eq_neg_one_of_neg h]; decide
  · subst h; decide
  · rw [Int.sign_eq_one_of_pos h]; decide
theorem rMonad_is {op s : ByteArray} {o : Option Int} (hs : Is s o) : RMnIs op s (T (mnO (kmL op.data.toList) o).1) (mnO (kmL op.data.toList) o).2 := by
  cases o with
  | none => exact rmn_arg op s (rMay_is hs)
  | some x =>
  have HA : RMayIs s true := rMay_is hs
  obtain ⟨k, hk⟩ : ∃ k, kmL op.data.toList = k := ⟨_, rfl⟩
  rw [hk]
  rcases kmL_inv hk with ⟨rfl, h⟩ | ⟨rfl, h⟩ | ⟨rfl, h⟩ | ⟨rfl, h0, h1, h2⟩
  · rw [bytes_of h]; exact rmn_0 s HA _ fun w => rNeg_opt w hs
  · rw [bytes_of h]; exact rmn_1 s HA _ (is_zero hs) _ fun w => rbit_is _ w
  · rw [bytes_of h]
    have hb := sign_bd x
    exact rmn_2 s HA x.sign hb _ (rSign_opt hs) (rOf_any (by unfold I64; omega))
  · exact rmn_none op s HA (by rw [str_tl]; exact beq_eq_false_iff_ne.2 h0) (by rw [str_tl]; exact beq_eq_false_iff_ne.2 h1) (by rw [str_tl]; exact beq_eq_false_iff_ne.2 h2)
end Go.Proofs.YtlhbejeninjmoaaGreatDoor
/-
  What the layers above scalar ask of the reference's num.
-/
namespace Go.Proofs.YtlhbejeninjmoaaGreatDoor
set_option linter.unusedVariables false
set_option linter.unusedSimpArgs false
end Go.Proofs.YtlhbejeninjmoaaGreatDoor

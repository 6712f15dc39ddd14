import Derived.Test.YtinhbmjfeabecaaDoorRw1
namespace Go.Proofs.YtinhbmjfeabecaaDoor
open Go.RowKit

def RNumIs (f : Nat) (s t r : ByteArray) : Prop := ∀ W, Calls Tryd.prog f #[.string s, .string t] W fun e W' => e = .returned (.tuple #[.string r, .int .i64 0]) ∧ Below W.heap.size W W'
def DoV (ok : Bool) (n : Int) : Int := if ok then n else 0
set_option maxRecDepth 10000 in
set_option maxHeartbeats 3200000 in
theorem rdo_1 (a b w n : Int) (sa sb s0 s : ByteArray) (ok fa fb fr : Bool) (HA : ROfIs a sa) (HB : ROfIs b sb) (HM : RNumIs 32 sa sb s0) (HO : RNumIs 33 sa sb s)
    (HI : RIntIs s n ok) (FA : RInIs sa w fa) (FB : RInIs sb w fb) (FR : RInIs s w fr) (W : World) :
    Calls Tryd.prog 19 #[.int .i64 1, .int .i64 a, .int .i64 b, .int .i64 w] W fun e W' => e = .returned (.tuple #[.int .i64 (DoV (ok && fa && fb && fr) n), .bool (ok && fa && fb && fr)]) ∧ Below W.heap.size W W' := by
  unfold ROfIs StrEnd at HA HB
  have KA := Lib.hid HA
  have KB := Lib.hid HB
  have KM := Lib.hid HM
  have KO := Lib.hid HO
  have KI := Lib.hid HI
  have KFA := Lib.hid FA
  have KFB := Lib.hid FB
  have KFR := Lib.hid FR
  clear HA HB HM HO HI FA FB FR
  cases ok
  · go_enter Tryd.func19, Tryd.ntmps19
    go_wp2_with fail
    refine (KA.out _).mono ?_
    rintro e w1 ⟨rfl, hb⟩
    go_wp2_with fail
    refine (KB.out _).mono ?_
    rintro e w2 ⟨rfl, hq⟩
    replace hb := hb.trans (hq.mono hb.size)
    clear hq
    go_wp2_with fail
    refine (KM.out _).mono ?_
    rintro e w3 ⟨rfl, hq⟩
    replace hb := hb.trans (hq.mono hb.size)
    clear hq
    go_wp2_with fail
    refine (KO.out _).mono ?_
    rintro e w4 ⟨rfl, hq⟩
    replace hb := hb.trans (hq.mono hb.size)
    clear hq
    go_wp2_with fail
    refine (KI.out _).mono ?_
    rintro e w5 ⟨rfl, hq⟩
    replace hb := hb.trans (hq.mono hb.size)
    clear hq
    go_wp2_with fail
    go_ret2
    exact ⟨rfl, hb⟩
  · cases fa
    · go_enter Tryd.func19, Tryd.ntmps19
      go_wp2_with fail
      refine (KA.out _).mono ?_
      rintro e w1 ⟨rfl, hb⟩
      go_wp2_with fail
      refine (KB.out _).mono ?_
      rintro e w2 ⟨rfl, hq⟩
      replace hb := hb.trans (hq.mono hb.size)
      clear hq
      go_wp2_with fail
      refine (KM.out _).mono ?_
      rintro e w3 ⟨rfl, hq⟩
      replace hb := hb.trans (hq.mono hb.size)
      clear hq
      go_wp2_with fail
      refine (KO.out _).mono ?_
      rintro e w4 ⟨rfl, hq⟩
      replace hb := hb.trans (hq.mono hb.size)
      clear hq
      go_wp2_with fail
      refine (KI.out _).mono ?_
      rintro e w5 ⟨rfl, hq⟩
      replace hb := hb.trans (hq.mono hb.size)
      clear hq
      go_wp2_with fail
      refine (KFA.out _).mono ?_
      rintro e w10 ⟨rfl, hq⟩
      replace hb := hb.trans (hq.mono hb.size)
      clear hq
      go_wp2_with fail
      go_ret2
      exact ⟨rfl, hb⟩
    · cases fb
      · go_enter Tryd.func19, Tryd.ntmps19
        go_wp2_with fail
        refine (KA.out _).mono ?_
        rintro e w1 ⟨rfl, hb⟩
        go_wp2_with fail
        refine (KB.out _).mono ?_
        rintro e w2 ⟨rfl, hq⟩
        replace hb := hb.trans (hq.mono hb.size)
        clear hq
        go_wp2_with fail
        refine (KM.out _).mono ?_
        rintro e w3 ⟨rfl, hq⟩
        replace hb := hb.trans (hq.mono hb.size)
        clear hq
        go_wp2_with fail
        refine (KO.out _).mono ?_
        rintro e w4 ⟨rfl, hq⟩
        replace hb := hb.trans (hq.mono hb.size)
        clear hq
        go_wp2_with fail
        refine (KI.out _).mono ?_
        rintro e w5 ⟨rfl, hq⟩
        replace hb := hb.trans (hq.mono hb.size)
        clear hq
        go_wp2_with fail
        refine (KFA.out _).mono ?_
        rintro e w10 ⟨rfl, hq⟩
        replace hb := hb.trans (hq.mono hb.size)
        clear hq
        go_wp2_with fail
        refine (KFB.out _).mono ?_
        rintro e w11 ⟨rfl, hq⟩
        replace hb := hb.trans (hq.mono hb.size)
        clear hq
        go_wp2_with fail
        go_ret2
        exact ⟨rfl, hb⟩
      · cases fr
        · go_enter Tryd.func19, Tryd.ntmps19
          go_wp2_with fail
          refine (KA.out _).mono ?_
          rintro e w1 ⟨rfl, hb⟩
          go_wp2_with fail
          refine (KB.out _).mono ?_
          rintro e w2 ⟨rfl, hq⟩
          replace hb := hb.trans (hq.mono hb.size)
          clear hq
          go_wp2_with fail
          refine (KM.out _).mono ?_
          rintro e w3 ⟨rfl, hq⟩
          replace hb := hb.trans (hq.mono hb.size)
          clear hq
          go_wp2_with fail
          refine (KO.out _).mono ?_
          rintro e w4 ⟨rfl, hq⟩
          replace hb := hb.trans (hq.mono hb.size)
          clear hq
          go_wp2_with fail
          refine (KI.out _).mono ?_
          rintro e w5 ⟨rfl, hq⟩
          replace hb := hb.trans (hq.mono hb.size)
          clear hq
          go_wp2_with fail
          refine (KFA.out _).mono ?_
          rintro e w10 ⟨rfl, hq⟩
          replace hb := hb.trans (hq.mono hb.size)
          clear hq
          go_wp2_with fail
          refine (KFB.out _).mono ?_
          rintro e w11 ⟨rfl, hq⟩
          replace hb := hb.trans (hq.mono hb.size)
          clear hq
          go_wp2_with fail
          refine (KFR.out _).mono ?_
          rintro e w12 ⟨rfl, hq⟩
          replace hb := hb.trans (hq.mono hb.size)
          clear hq
          go_wp2_with fail
          go_ret2
          exact ⟨rfl, hb⟩
        · go_enter Tryd.func19, Tryd.ntmps19
          go_wp2_with fail
          refine (KA.out _).mono ?_
          rintro e w1 ⟨rfl, hb⟩
          go_wp2_with fail
          refine (KB.out _).mono ?_
          rintro e w2 ⟨rfl, hq⟩
          replace hb := hb.trans (hq.mono hb.size)
          clear hq
          go_wp2_with fail
          refine (KM.out _).mono ?_
          rintro e w3 ⟨rfl, hq⟩
          replace hb := hb.trans (hq.mono hb.size)
          clear hq
          go_wp2_with fail
          refine (KO.out _).mono ?_
          rintro e w4 ⟨rfl, hq⟩
          replace hb := hb.trans (hq.mono hb.size)
          clear hq
          go_wp2_with fail
          refine (KI.out _).mono ?_
          rintro e w5 ⟨rfl, hq⟩
          replace hb := hb.trans (hq.mono hb.size)
          clear hq
          go_wp2_with fail
          refine (KFA.out _).mono ?_
          rintro e w10 ⟨rfl, hq⟩
          replace hb := hb.trans (hq.mono hb.size)
          clear hq
          go_wp2_with fail
          refine (KFB.out _).mono ?_
          rintro e w11 ⟨rfl, hq⟩
          replace hb := hb.trans (hq.mono hb.size)
          clear hq
          go_wp2_with fail
          refine (KFR.out _).mono ?_
          rintro e w12 ⟨rfl, hq⟩
          replace hb := hb.trans (hq.mono hb.size)
          clear hq
          go_wp2_with fail
          go_ret2
          exact ⟨rfl, hb⟩
set_option maxRecDepth 10000 in
set_option maxHeartbeats 3200000 in
theorem rdo_2 (a b w n : Int) (sa sb s0 s : ByteArray) (ok fa fb fr : Bool) (HA : ROfIs a sa) (HB : ROfIs b sb) (HM : RNumIs 32 sa sb s0) (HO : RNumIs 34 sa sb s)
    (HI : RIntIs s n ok) (FA : RInIs sa w fa) (FB : RInIs sb w fb) (FR : RInIs s w fr) (W : World) :
    Calls Tryd.prog 19 #[.int .i64 2, .int .i64 a, .int .i64 b, .int .i64 w] W fun e W' => e = .returned (.tuple #[.int .i64 (DoV (ok && fa && fb && fr) n), .bool (ok && fa && fb && fr)]) ∧ Below W.heap.size W W' := by
  unfold ROfIs StrEnd at HA HB
  have KA := Lib.hid HA
  have KB := Lib.hid HB
  have KM := Lib.hid HM
  have KO := Lib.hid HO
  have KI := Lib.hid HI
  have KFA := Lib.hid FA
  have KFB := Lib.hid FB
  have KFR := Lib.hid FR
  clear HA HB HM HO HI FA FB FR
  cases ok
  · go_enter Tryd.func19, Tryd.ntmps19
    go_wp2_with fail
    refine (KA.out _).mono ?_
    rintro e w1 ⟨rfl, hb⟩
    go_wp2_with fail
    refine (KB.out _).mono ?_
    rintro e w2 ⟨rfl, hq⟩
    replace hb := hb.trans (hq.mono hb.size)
    clear hq
    go_wp2_with fail
    refine (KM.out _).mono ?_
    rintro e w3 ⟨rfl, hq⟩
    replace hb := hb.trans (hq.mono hb.size)
    clear hq
    go_wp2_with fail
    refine (KO.out _).mono ?_
    rintro e w4 ⟨rfl, hq⟩
    replace hb := hb.trans (hq.mono hb.size)
    clear hq
    go_wp2_with fail
    refine (KI.out _).mono ?_
    rintro e w5 ⟨rfl, hq⟩
    replace hb := hb.trans (hq.mono hb.size)
    clear hq
    go_wp2_with fail
    go_ret2
    exact ⟨rfl, hb⟩
  · cases fa
    · go_enter Tryd.func19, Tryd.ntmps19
      go_wp2_with fail
      refine (KA.out _).mono ?_
      rintro e w1 ⟨rfl, hb⟩
      go_wp2_with fail
      refine (KB.out _).mono ?_
      rintro e w2 ⟨rfl, hq⟩
      replace hb := hb.trans (hq.mono hb.size)
      clear hq
      go_wp2_with fail
      refine (KM.out _).mono ?_
      rintro e w3 ⟨rfl, hq⟩
      replace hb := hb.trans (hq.mono hb.size)
      clear hq
      go_wp2_with fail
      refine (KO.out _).mono ?_
      rintro e w4 ⟨rfl, hq⟩
      replace hb := hb.trans (hq.mono hb.size)
      clear hq
      go_wp2_with fail
      refine (KI.out _).mono ?_
      rintro e w5 ⟨rfl, hq⟩
      replace hb := hb.trans (hq.mono hb.size)
      clear hq
      go_wp2_with fail
      refine (KFA.out _).mono ?_
      rintro e w10 ⟨rfl, hq⟩
      replace hb := hb.trans (hq.mono hb.size)
      clear hq
      go_wp2_with fail
      go_ret2
      exact ⟨rfl, hb⟩
    · cases fb
      · go_enter Tryd.func19, Tryd.ntmps19
        go_wp2_with fail
        refine (KA.out _).mono ?_
        rintro e w1 ⟨rfl, hb⟩
        go_wp2_with fail
        refine (KB.out _).mono ?_
        rintro e w2 ⟨rfl, hq⟩
        replace hb := hb.trans (hq.mono hb.size)
        clear hq
        go_wp2_with fail
        refine (KM.out _).mono ?_
        rintro e w3 ⟨rfl, hq⟩
        replace hb := hb.trans (hq.mono hb.size)
        clear hq
        go_wp2_with fail
        refine (KO.out _).mono ?_
        rintro e w4 ⟨rfl, hq⟩
        replace hb := hb.trans (hq.mono hb.size)
        clear hq
        go_wp2_with fail
        refine (KI.out _).mono ?_
        rintro e w5 ⟨rfl, hq⟩
        replace hb := hb.trans (hq.mono hb.size)
        clear hq
        go_wp2_with fail
        refine (KFA.out _).mono ?_
        rintro e w10 ⟨rfl, hq⟩
        replace hb := hb.trans (hq.mono hb.size)
        clear hq
        go_wp2_with fail
        refine (KFB.out _).mono ?_
        rintro e w11 ⟨rfl, hq⟩
        replace hb := hb.trans (hq.mono hb.size)
        clear hq
        go_wp2_with fail
        go_ret2
        exact ⟨rfl, hb⟩
      · cases fr
        · go_enter Tryd.func19, Tryd.ntmps19
          go_wp2_with fail
          refine (KA.out _).mono ?_
          rintro e w1 ⟨rfl, hb⟩
          go_wp2_with fail
          refine (KB.out _).mono ?_
          rintro e w2 ⟨rfl, hq⟩
          replace hb := hb.trans (hq.mono hb.size)
          clear hq
          go_wp2_with fail
          refine (KM.out _).mono ?_
          rintro e w3 ⟨rfl, hq⟩
          replace hb := hb.trans (hq.mono hb.size)
          clear hq
          go_wp2_with fail
          refine (KO.out _).mono ?_
          rintro e w4 ⟨rfl, hq⟩
          replace hb := hb.trans (hq.mono hb.size)
          clear hq
          go_wp2_with fail
          refine (KI.out _).mono ?_
          rintro e w5 ⟨rfl, hq⟩
          replace hb := hb.trans (hq.mono hb.size)
          clear hq
          go_wp2_with fail
          refine (KFA.out _).mono ?_
          rintro e w10 ⟨rfl, hq⟩
          replace hb := hb.trans (hq.mono hb.size)
          clear hq
          go_wp2_with fail
          refine (KFB.out _).mono ?_
          rintro e w11 ⟨rfl, hq⟩
          replace hb := hb.trans (hq.mono hb.size)
          clear hq
          go_wp2_with fail
          refine (KFR.out _).mono ?_
          rintro e w12 ⟨rfl, hq⟩
          replace hb := hb.trans (hq.mono hb.size)
          clear hq
          go_wp2_with fail
          go_ret2
          exact ⟨rfl, hb⟩
        · go_enter Tryd.func19, Tryd.ntmps19
          go_wp2_with fail
          refine (KA.out _).mono ?_
          rintro e w1 ⟨rfl, hb⟩
          go_wp2_with fail
          refine (KB.out _).mono ?_
          rintro e w2 ⟨rfl, hq⟩
          replace hb := hb.trans (hq.mono hb.size)
          clear hq
          go_wp2_with fail
          refine (KM.out _).mono ?_
          rintro e w3 ⟨rfl, hq⟩
          replace hb := hb.trans (hq.mono hb.size)
          clear hq
          go_wp2_with fail
          refine (KO.out _).mono ?_
          rintro e w4 ⟨rfl, hq⟩
          replace hb := hb.trans (hq.mono hb.size)
          clear hq
          go_wp2_with fail
          refine (KI.out _).mono ?_
          rintro e w5 ⟨rfl, hq⟩
          replace hb := hb.trans (hq.mono hb.size)
          clear hq
          go_wp2_with fail
          refine (KFA.out _).mono ?_
          rintro e w10 ⟨rfl, hq⟩
          replace hb := hb.trans (hq.mono hb.size)
          clear hq
          go_wp2_with fail
          refine (KFB.out _).mono ?_
          rintro e w11 ⟨rfl, hq⟩
          replace hb := hb.trans (hq.mono hb.size)
          clear hq
          go_wp2_with fail
          refine (KFR.out _).mono ?_
          rintro e w12 ⟨rfl, hq⟩
          replace hb := hb.trans (hq.mono hb.size)
          clear hq
          go_wp2_with fail
          go_ret2
          exact ⟨rfl, hb⟩
set_option maxRecDepth 10000 in
set_option maxHeartbeats 3200000 in
theorem rdo_3 (a b w n : Int) (sa sb s : ByteArray) (ok fa fb fr : Bool) (HA : ROfIs a sa) (HB : ROfIs b sb) (HM : RNumIs 32 sa sb s)
    (HI : RIntIs s n ok) (FA : RInIs sa w fa) (FB : RInIs sb w fb) (FR : RInIs s w fr) (W : World) :
    Calls Tryd.prog 19 #[.int .i64 3, .int .i64 a, .int .i64 b, .int .i64 w] W fun e W' => e = .returned (.tuple #[.int .i64 (DoV (ok && fa && fb && fr) n), .bool (ok && fa && fb && fr)]) ∧ Below W.heap.size W W' := by
  unfold ROfIs StrEnd at HA HB
  have KA := Lib.hid HA
  have KB := Lib.hid HB
  have KM := Lib.hid HM
  have KI := Lib.hid HI
  have KFA := Lib.hid FA
  have KFB := Lib.hid FB
  have KFR := Lib.hid FR
  clear HA HB HM HI FA FB FR
  cases ok
  · go_enter Tryd.func19, Tryd.ntmps19
    go_wp2_with fail
    refine (KA.out _).mono ?_
    rintro e w1 ⟨rfl, hb⟩
    go_wp2_with fail
    refine (KB.out _).mono ?_
    rintro e w2 ⟨rfl, hq⟩
    replace hb := hb.trans (hq.mono hb.size)
    clear hq
    go_wp2_with fail
    refine (KM.out _).mono ?_
    rintro e w3 ⟨rfl, hq⟩
    replace hb := hb.trans (hq.mono hb.size)
    clear hq
    go_wp2_with fail
    refine (KI.out _).mono ?_
    rintro e w4 ⟨rfl, hq⟩
    replace hb := hb.trans (hq.mono hb.size)
    clear hq
    go_wp2_with fail
    go_ret2
    exact ⟨rfl, hb⟩
  · cases fa
    · go_enter Tryd.func19, Tryd.ntmps19
      go_wp2_with fail
      refine (KA.out _).mono ?_
      rintro e w1 ⟨rfl, hb⟩
      go_wp2_with fail
      refine (KB.out _).mono ?_
      rintro e w2 ⟨rfl, hq⟩
      replace hb := hb.trans (hq.mono hb.size)
      clear hq
      go_wp2_with fail
      refine (KM.out _).mono ?_
      rintro e w3 ⟨rfl, hq⟩
      replace hb := hb.trans (hq.mono hb.size)
      clear hq
      go_wp2_with fail
      refine (KI.out _).mono ?_
      rintro e w4 ⟨rfl, hq⟩
      replace hb := hb.trans (hq.mono hb.size)
      clear hq
      go_wp2_with fail
      refine (KFA.out _).mono ?_
      rintro e w10 ⟨rfl, hq⟩
      replace hb := hb.trans (hq.mono hb.size)
      clear hq
      go_wp2_with fail
      go_ret2
      exact ⟨rfl, hb⟩
    · cases fb
      · go_enter Tryd.func19, Tryd.ntmps19
        go_wp2_with fail
        refine (KA.out _).mono ?_
        rintro e w1 ⟨rfl, hb⟩
        go_wp2_with fail
        refine (KB.out _).mono ?_
        rintro e w2 ⟨rfl, hq⟩
        replace hb := hb.trans (hq.mono hb.size)
        clear hq
        go_wp2_with fail
        refine (KM.out _).mono ?_
        rintro e w3 ⟨rfl, hq⟩
        replace hb := hb.trans (hq.mono hb.size)
        clear hq
        go_wp2_with fail
        refine (KI.out _).mono ?_
        rintro e w4 ⟨rfl, hq⟩
        replace hb := hb.trans (hq.mono hb.size)
        clear hq
        go_wp2_with fail
        refine (KFA.out _).mono ?_
        rintro e w10 ⟨rfl, hq⟩
        replace hb := hb.trans (hq.mono hb.size)
        clear hq
        go_wp2_with fail
        refine (KFB.out _).mono ?_
        rintro e w11 ⟨rfl, hq⟩
        replace hb := hb.trans (hq.mono hb.size)
        clear hq
        go_wp2_with fail
        go_ret2
        exact ⟨rfl, hb⟩
      · cases fr
        · go_enter Tryd.func19, Tryd.ntmps19
          go_wp2_with fail
          refine (KA.out _).mono ?_
          rintro e w1 ⟨rfl, hb⟩
          go_wp2_with fail
          refine (KB.out _).mono ?_
          rintro e w2 ⟨rfl, hq⟩
          replace hb := hb.trans (hq.mono hb.size)
          clear hq
          go_wp2_with fail
          refine (KM.out _).mono ?_
          rintro e w3 ⟨rfl, hq⟩
          replace hb := hb.trans (hq.mono hb.size)
          clear hq
          go_wp2_with fail
          refine (KI.out _).mono ?_
          rintro e w4 ⟨rfl, hq⟩
          replace hb := hb.trans (hq.mono hb.size)
          clear hq
          go_wp2_with fail
          refine (KFA.out _).mono ?_
          rintro e w10 ⟨rfl, hq⟩
          replace hb := hb.trans (hq.mono hb.size)
          clear hq
          go_wp2_with fail
          refine (KFB.out _).mono ?_
          rintro e w11 ⟨rfl, hq⟩
          replace hb := hb.trans (hq.mono hb.size)
          clear hq
          go_wp2_with fail
          refine (KFR.out _).mono ?_
          rintro e w12 ⟨rfl, hq⟩
          replace hb := hb.trans (hq.mono hb.size)
          clear hq
          go_wp2_with fail
          go_ret2
          exact ⟨rfl, hb⟩
        · go_enter Tryd.func19, Tryd.ntmps19
          go_wp2_with fail
          refine (KA.out _).mono ?_
          rintro e w1 ⟨rfl, hb⟩
          go_wp2_with fail
          refine (KB.out _).mono ?_
          rintro e w2 ⟨rfl, hq⟩
          replace hb := hb.trans (hq.mono hb.size)
          clear hq
          go_wp2_with fail
          refine (KM.out _).mono ?_
          rintro e w3 ⟨rfl, hq⟩
          replace hb := hb.trans (hq.mono hb.size)
          clear hq
          go_wp2_with fail
          refine (KI.out _).mono ?_
          rintro e w4 ⟨rfl, hq⟩
          replace hb := hb.trans (hq.mono hb.size)
          clear hq
          go_wp2_with fail
          refine (KFA.out _).mono ?_
          rintro e w10 ⟨rfl, hq⟩
          replace hb := hb.trans (hq.mono hb.size)
          clear hq
          go_wp2_with fail
          refine (KFB.out _).mono ?_
          rintro e w11 ⟨rfl, hq⟩
          replace hb := hb.trans (hq.mono hb.size)
          clear hq
          go_wp2_with fail
          refine (KFR.out _).mono ?_
          rintro e w12 ⟨rfl, hq⟩
          replace hb := hb.trans (hq.mono hb.size)
          clear hq
          go_wp2_with fail
          go_ret2
          exact ⟨rfl, hb⟩
theorem intO_some (r : Int) : intO (some r) = if I64 r then (r, true) else (0, false) := rfl
theorem do_ok (a b r w : Int) : ((intO (some r)).2 && decide (Fit a w) && decide (Fit b w) && decide (Fit r w)) = decide (OkW a b r w) := by
  rw [Bool.eq_iff_iff, Bool.and_eq_true, Bool.and_eq_true, Bool.and_eq_true, decide_eq_true_eq, decide_eq_true_eq, decide_eq_true_eq, decide_eq_true_eq, intO_some]
  unfold OkW
  by_cases h : I64 r
  · rw [if_pos h]; constructor
    · intro h2; exact ⟨h, h2.1.1.2, h2.1.2, h2.2⟩
    · intro h2; exact ⟨⟨⟨rfl, h2.2.1⟩, h2.2.2.1⟩, h2.2.2.2⟩
  · rw [if_neg h]; constructor
    · intro h2; exact absurd h2.1.1.1 (by decide)
    · intro h2; exact absurd h2.1 h
theorem do_val (a b r w : Int) : DoV (decide (OkW a b r w)) (intO (some r)).1 = valW a b r w := by
  unfold DoV valW
  by_cases h : OkW a b r w
  · rw [if_pos (decide_eq_true h), if_pos h, intO_some, if_pos h.1]
  · rw [if_neg (by rw [decide_eq_true_iff]; exact h), if_neg h]
def RDoIs (k a b w x : Int) (v : Bool) : Prop := ∀ W, Calls Tryd.prog 19 #[.int .i64 k, .int .i64 a, .int .i64 b, .int .i64 w] W fun e W' => e = .returned (.tuple #[.int .i64 x, .bool v]) ∧ Below W.heap.size W W'
theorem sub_lim_w {a b : Int} (ha : I64 a) (hb : I64 b) : (a - b).natAbs < lim := by
  have hL := lim_big
  unfold I64 at ha hb
  omega
theorem rnum_mul {a b : Int} (ha : I64 a) (hb : I64 b) : RNumIs 32 (S a) (S b) (S (a * b)) := fun W => by
  refine (rMul_yes a b (figs_lim (i64_lim0 ha)) (figs_lim (i64_lim0 hb)) (rMay_S (i64_lim0 ha)) (rMay_S (i64_lim0 hb)) W).mono fun e W' h => ?_
  unfold OpPost at h
  rwa [toldR_yes (mul_lim_w ha hb), toldE_yes (mul_lim_w ha hb)] at h
theorem rnum_add {a b : Int} (ha : I64 a) (hb : I64 b) : RNumIs 33 (S a) (S b) (S (a + b)) := fun W => by
  refine (rAdd_yes a b (figs_lim (i64_lim0 ha)) (figs_lim (i64_lim0 hb)) (rMay_S (i64_lim0 ha)) (rMay_S (i64_lim0 hb)) W).mono fun e W' h => ?_
  unfold OpPost at h
  rwa [toldR_yes (add_lim_w ha hb), toldE_yes (add_lim_w ha hb)] at h
theorem rnum_sub {a b : Int} (ha : I64 a) (hb : I64 b) : RNumIs 34 (S a) (S b) (S (a - b)) := fun W => by
  refine (rSub_yes a b (figs_lim (i64_lim0 ha)) (figs_lim (i64_lim0 hb)) (rMay_S (i64_lim0 ha)) (rMay_S (i64_lim0 hb)) W).mono fun e W' h => ?_
  unfold OpPost at h
  rwa [toldR_yes (sub_lim_w ha hb), toldE_yes (sub_lim_w ha hb)] at h
theorem rDo_1 {a b : Int} (w : Int) (ha : I64 a) (hb : I64 b) : RDoIs 1 a b w (valW a b (a + b) w) (decide (OkW a b (a + b) w)) := by
  intro W
  have h := rdo_1 a b w _ (S a) (S b) _ _ _ _ _ _ (rOf_any ha) (rOf_any hb) (rnum_mul ha hb) (rnum_add ha hb) (rInt_opt (show Is (S (a + b)) (some (a + b)) from ⟨rfl, add_lim_w ha hb⟩)) (rin_any a w (i64_lim0 ha)) (rin_any b w (i64_lim0 hb)) (rin_any (a + b) w (add_lim_w ha hb)) W
  rwa [do_ok, do_val] at h
theorem rDo_2 {a b : Int} (w : Int) (ha : I64 a) (hb : I64 b) : RDoIs 2 a b w (valW a b (a - b) w) (decide (OkW a b (a - b) w)) := by
  intro W
  have h := rdo_2 a b w _ (S a) (S b) _ _ _ _ _ _ (rOf_any ha) (rOf_any hb) (rnum_mul ha hb) (rnum_sub ha hb) (rInt_opt (show Is (S (a - b)) (some (a - b)) from ⟨rfl, sub_lim_w ha hb⟩)) (rin_any a w (i64_lim0 ha)) (rin_any b w (i64_lim0 hb)) (rin_any (a - b) w (sub_lim_w ha hb)) W
  rwa [do_ok, do_val] at h
theorem rDo_3 {a b : Int} (w : Int) (ha : I64 a) (hb : I64 b) : RDoIs 3 a b w (valW a b (a * b) w) (decide (OkW a b (a * b) w)) := by
  intro W
  have h := rdo_3 a b w _ (S a) (S b) _ _ _ _ _ (rOf_any ha) (rOf_any hb) (rnum_mul ha hb) (rInt_opt (show Is (S (a * b)) (some (a * b)) from ⟨rfl, mul_lim_w ha hb⟩)) (rin_any a w (i64_lim0 ha)) (rin_any b w (i64_lim0 hb)) (rin_any (a * b) w (mul_lim_w ha hb)) W
  rwa [do_ok, do_val] at h
set_option maxRecDepth 10000 in
set_option maxHeartbeats 3200000 in
theorem does_main (a b w x y z : Int) (e1 e2 e3 : Bool) (W : World) (ht : WT W) (H1 : Does 18 a b w x e1) (H2 : Does 20 a b w y e2) (H3 : Does 21 a b w z e3)
    (D1 : RDoIs 1 a b w x e1) (D2 : RDoIs 2 a b w y e2) (D3 : RDoIs 3 a b w z e3) : Calls Tryd.prog 4 #[.int .i64 a, .int .i64 b, .int .i64 w] W (TrueEnd W) := by
  have KT := Lib.hid ht
  have K1 := Lib.hid H1
  have K2 := Lib.hid H2
  have K3 := Lib.hid H3
  have R1 := Lib.hid D1
  have R2 := Lib.hid D2
  have R3 := Lib.hid D3
  clear ht H1 H2 H3 D1 D2 D3
  go_enter Tryd.func4, Tryd.ntmps4
  go_wp2_with fail
  refine (shown_w _ KT.out).mono ?_
  rintro e w1 ⟨rfl, hb⟩
  go_wp2_with fail
  refine (K1.out _ (KT.out.below hb).wid).mono ?_
  rintro e w9 ⟨rfl, rfl⟩
  go_wp2_with fail
  refine (R1.out _).mono ?_
  rintro e w2 ⟨rfl, hq⟩
  replace hb := hb.trans (hq.mono hb.size)
  clear hq
  go_wp2_with fail
  refine (K2.out _ (KT.out.below hb).wid).mono ?_
  rintro e w9 ⟨rfl, rfl⟩
  go_wp2_with fail
  refine (R2.out _).mono ?_
  rintro e w3 ⟨rfl, hq⟩
  replace hb := hb.trans (hq.mono hb.size)
  clear hq
  go_wp2_with fail
  refine (K3.out _ (KT.out.below hb).wid).mono ?_
  rintro e w9 ⟨rfl, rfl⟩
  go_wp2_with fail
  refine (R3.out _).mono ?_
  rintro e w4 ⟨rfl, hq⟩
  replace hb := hb.trans (hq.mono hb.size)
  clear hq
  go_wp2_with fail
  go_ret
  exact ⟨rfl, hb⟩
theorem does_any (a b w : Int) (ha : I64 a) (hb : I64 b) (W : World) (ht : WT W) : Calls Tryd.prog 4 #[.int .i64 a, .int .i64 b, .int .i64 w] W (TrueEnd W) :=
  does_main a b w _ _ _ _ _ _ W ht (does_of (Add_w a b w ha hb)) (does_of (Sub_w a b w ha hb)) (does_of (Mul_w a b w ha hb)) (rDo_1 w ha hb) (rDo_2 w ha hb) (rDo_3 w ha hb)
end Go.Proofs.YtinhbmjfeabecaaDoor

import Derived.Test.YtinhbmjfeabecaaGreatDoorRf7
import Derived.Test.YtinhbmjfeabecaaGreatDoorShown
namespace Go.Proofs.YtinhbmjfeabecaaGreatDoor
open Go.RowKit

def RNegIs (a d : ByteArray) : Prop := ∀ w, Calls Tryz.prog 13 #[.string a] w fun e w' => e = .returned (.string d) ∧ w = w'
structure NT (W : World) : Prop where
  tab : Tab W
  err : ErrT W
theorem NT.below {w w' : World} (h : NT w) (hb : Below w.heap.size w w') : NT w' := ⟨h.tab.below hb, h.err.below hb⟩
set_option maxRecDepth 10000 in
set_option maxHeartbeats 6400000 in
theorem ntells_main (a b na sx : ByteArray) (x n zs zc : Int) (v iv : Bool) (w : World) (ht : NT w) (HF : ∀ w, Calls Tryz.prog 5 #[.string a, .string b] w fun e w' => e = .returned (.bool true) ∧ w = w')
    (HI : ∀ w, ErrT w → IntW a n iv w) (RI : RIntIs a n iv) (HM : MayIs a v) (RM : RMayIs a v) (HS : SignIs a zs) (RS : RSignIs a zs) (HN : NegIs a na) (RN : RNegIs a na)
    (HO : OfIs x sx) (RO : ROfIs x sx) (HC : CmpIs a b zc) (RC : RCmpIs a b zc) :
    Calls Tryz.prog 3 #[.string a, .string b, .int .i64 x] w (TrueEnd w) := by
  unfold RCmpIs IntEnd at RC
  unfold ROfIs StrEnd at RO
  unfold IntW at HI
  have KT := Lib.hid ht
  have KF := Lib.hid HF
  have KI := Lib.hid HI
  have JI := Lib.hid RI
  have KM := Lib.hid HM
  have JM := Lib.hid RM
  have KS := Lib.hid HS
  have JS := Lib.hid RS
  have KN := Lib.hid HN
  have JN := Lib.hid RN
  have KO := Lib.hid HO
  have JO := Lib.hid RO
  have KC := Lib.hid HC
  have JC := Lib.hid RC
  clear ht HF HI RI HM RM HS RS HN RN HO RO HC RC
  go_enter Tryz.func3, Tryz.ntmps3
  go_wp2_with fail
  refine (shown_any _ KT.out.tab).mono ?_
  rintro e w1 ⟨rfl, hb⟩
  go_wp2_with fail
  refine (KF.out _).mono ?_
  rintro e w2 ⟨rfl, rfl⟩
  go_wp2_with fail
  refine (KI.out _ (KT.out.below hb).err).mono ?_
  rintro e w2 ⟨rfl, hq⟩
  replace hb := hb.trans (hq.mono hb.size)
  clear hq
  go_wp2_with fail
  refine (JI.out _).mono ?_
  rintro e w3 ⟨rfl, hq⟩
  replace hb := hb.trans (hq.mono hb.size)
  clear hq
  go_wp2_with fail
  refine (KM.out _).mono ?_
  rintro e w4 ⟨rfl, rfl⟩
  go_wp2_with fail
  refine (JM.out _).mono ?_
  rintro e w4 ⟨rfl, rfl⟩
  go_wp2_with fail
  refine (KS.out _).mono ?_
  rintro e w4 ⟨rfl, hq⟩
  replace hb := hb.trans (hq.mono hb.size)
  clear hq
  go_wp2_with fail
  refine (JS.out _).mono ?_
  rintro e w5 ⟨rfl, rfl⟩
  go_wp2_with fail
  refine (KN.out _ (KT.out.below hb).tab).mono ?_
  rintro e w5 ⟨rfl, hq⟩
  replace hb := hb.trans (hq.mono hb.size)
  clear hq
  go_wp2_with fail
  refine (JN.out _).mono ?_
  rintro e w6 ⟨rfl, rfl⟩
  go_wp2_with fail
  refine (KO.out _ (KT.out.below hb).tab).mono ?_
  rintro e w6 ⟨rfl, hq⟩
  replace hb := hb.trans (hq.mono hb.size)
  clear hq
  go_wp2_with fail
  refine (JO.out _).mono ?_
  rintro e w7 ⟨rfl, hq⟩
  replace hb := hb.trans (hq.mono hb.size)
  clear hq
  go_wp2_with fail
  refine (KC.out _).mono ?_
  rintro e w8 ⟨rfl, hq⟩
  replace hb := hb.trans (hq.mono hb.size)
  clear hq
  go_wp2_with fail
  refine (JC.out _).mono ?_
  rintro e w9 ⟨rfl, hq⟩
  replace hb := hb.trans (hq.mono hb.size)
  clear hq
  go_wp2_with fail
  go_ret
  exact ⟨rfl, hb⟩
set_option maxRecDepth 10000 in
theorem ntells_few (a b : ByteArray) (x : Int) (w : World) (ht : NT w) (HF : ∀ w, Calls Tryz.prog 5 #[.string a, .string b] w fun e w' => e = .returned (.bool false) ∧ w = w') :
    Calls Tryz.prog 3 #[.string a, .string b, .int .i64 x] w (TrueEnd w) := by
  have KT := Lib.hid ht
  have KF := Lib.hid HF
  clear ht HF
  go_enter Tryz.func3, Tryz.ntmps3
  go_wp2_with fail
  refine (shown_any _ KT.out.tab).mono ?_
  rintro e w1 ⟨rfl, hb⟩
  go_wp2_with fail
  refine (KF.out _).mono ?_
  rintro e w2 ⟨rfl, rfl⟩
  go_wp2_with fail
  go_ret
  exact ⟨rfl, hb⟩
theorem ntells_any (a b : ByteArray) (x : Int) (w : World) (ht : NT w) (ha : a.size ≤ maxLen) (hb : b.size ≤ maxLen) (hx : I64 x) :
    Calls Tryz.prog 3 #[.string a, .string b, .int .i64 x] w (TrueEnd w) := by
  cases hf : (decide (a.size ≤ 200) && decide (b.size ≤ 200))
  · exact ntells_few a b x w ht (fun w => few_any a b false hf w)
  obtain ⟨o, ho⟩ := is_ex a ha
  obtain ⟨p, hp⟩ := is_ex b hb
  exact ntells_main a b (T (negO o)) (S x) x (intO o).1 (sgnO o) (cmpO o p) o.isSome (intO o).2 w ht (fun w => few_any a b true hf w)
    (fun w he => Int_opt ho w he) (rInt_opt ho) (fun w => May_opt w ho) (rMay_is ho) (fun w => Sign_opt w ho) (rSign_opt ho) (fun w ht => Neg_opt w ho ht) (fun w => rNeg_opt w ho)
    (fun w ht => Of_any x hx.1 hx.2 w ht) (rOf_any hx) (fun w => Cmp_opt w ho hp) (rCmp_opt ho hp)
end Go.Proofs.YtinhbmjfeabecaaGreatDoor

import Derived.Test.YtilkjfmgjldmoaaDoorPint
namespace Go.Proofs.YtilkjfmgjldmoaaDoor
open Go.RowKit

set_option maxRecDepth 10000 in
set_option maxHeartbeats 12800000 in
theorem back_main (x sx g : Int) (s a d : ByteArray) (v : Bool) (w : World) (htab : Tab w) (HF : FewIs a a true) (HO : OfIs x s) (HI : IntIs s x true) (HM : MayIs s true) (HS : SignIs s sx)
    (hsx : (0 < x ∧ sx = 1) ∨ (x < 0 ∧ sx = -1) ∨ (x = 0 ∧ sx = 0)) (HA : MayIs a v) (HN : NegIs a d) (HG : SignIs a g) (hg : g = -1 ∨ g = 0 ∨ g = 1) (HNN : v = true → NegIs d a ∧ SignIs d (-g) ∧ MayIs d true) (hno : v = false → d = ⟨#[]⟩ ∧ g = 0) :
    Calls Tryd.prog 5 #[.int .i64 x, .string a] w (TrueEnd w) := by
  have KF := Lib.hid HF
  have KO := Lib.hid HO
  have KI := Lib.hid HI
  have KM := Lib.hid HM
  have KS := Lib.hid HS
  have KA := Lib.hid HA
  have KN := Lib.hid HN
  have KG := Lib.hid HG
  have KNN := Lib.hid HNN
  have Kno := Lib.hid hno
  have Kx := Lib.hid hsx
  have Kg := Lib.hid hg
  clear HF HO HI HM HS HA HN HG HNN hno hsx hg
  go_enter Tryd.func5, Tryd.ntmps5
  go_wp2_with fail
  refine (shown_any _ htab).mono ?_
  rintro e w1 ⟨rfl, hb1⟩
  go_wp2_with fail
  refine (KF.out _).mono ?_
  rintro e w2 ⟨rfl, rfl⟩
  go_wp2_with fail
  refine (KO.out _ (htab.below hb1)).mono ?_
  rintro e w3 ⟨rfl, hq⟩
  have hb3 := hb1.trans (hq.mono hb1.size)
  clear hb1 hq
  go_wp2_with fail
  refine (KI.out _).mono ?_
  rintro e w4 ⟨rfl, hq⟩
  have hb4 := hb3.trans (hq.mono hb3.size)
  clear hb3 hq
  have hsx := Kx.out
  clear Kx
  rcases hsx with ⟨hx, rfl⟩ | ⟨hx, rfl⟩ | ⟨hx, rfl⟩
  · have hx' : ¬ x < 0 := by omega
    go_wp2_with fail
    refine (KO.out _ (htab.below hb4)).mono ?_
    rintro e w5 ⟨rfl, hq⟩
    have hb5 := hb4.trans (hq.mono hb4.size)
    clear hb4 hq
    go_wp2_with fail
    refine (KM.out _).mono ?_
    rintro e w6 ⟨rfl, rfl⟩
    go_wp2_with fail
    refine (KO.out _ (htab.below hb5)).mono ?_
    rintro e w7 ⟨rfl, hq⟩
    have hb7 := hb5.trans (hq.mono hb5.size)
    clear hb5 hq
    go_wp2_with fail
    refine (KS.out _).mono ?_
    rintro e w8 ⟨rfl, hq⟩
    have hb8 := hb7.trans (hq.mono hb7.size)
    clear hb7 hq
    go_wp2_with fail
    cases v
    · obtain ⟨rfl, rfl⟩ := Kno.out rfl
      refine (KA.out _).mono ?_
      rintro e w9 ⟨rfl, rfl⟩
      go_wp2_with fail
      refine (KN.out _ (htab.below hb8)).mono ?_
      rintro e w10 ⟨rfl, hq⟩
      have hb10 := hb8.trans (hq.mono hb8.size)
      clear hb8 hq
      go_wp2_with fail
      refine (KG.out _).mono ?_
      rintro e w11 ⟨rfl, hq⟩
      have hb11 := hb10.trans (hq.mono hb10.size)
      clear hb10 hq
      go_wp2_with fail
      go_ret
      exact ⟨rfl, hb11⟩
    · obtain ⟨hNN, hSn, hMn⟩ := KNN.out rfl
      have KNN' := Lib.hid hNN
      have KSn := Lib.hid hSn
      have KMn := Lib.hid hMn
      clear hNN hSn hMn KNN Kno
      have hg := Kg.out
      clear Kg
      rcases hg with rfl | rfl | rfl
      · refine (KA.out _).mono ?_
        rintro e w9 ⟨rfl, rfl⟩
        go_wp2_with fail
        refine (KN.out _ (htab.below hb8)).mono ?_
        rintro e w10 ⟨rfl, hq⟩
        have hb10 := hb8.trans (hq.mono hb8.size)
        clear hb8 hq
        go_wp2_with fail
        refine (KNN'.out _ (htab.below hb10)).mono ?_
        rintro e w11 ⟨rfl, hq⟩
        have hb11 := hb10.trans (hq.mono hb10.size)
        clear hb10 hq
        go_wp2_with fail
        refine (KN.out _ (htab.below hb11)).mono ?_
        rintro e w12 ⟨rfl, hq⟩
        have hb12 := hb11.trans (hq.mono hb11.size)
        clear hb11 hq
        go_wp2_with fail
        refine (KSn.out _).mono ?_
        rintro e w13 ⟨rfl, hq⟩
        have hb13 := hb12.trans (hq.mono hb12.size)
        clear hb12 hq
        go_wp2_with fail
        refine (KG.out _).mono ?_
        rintro e w14 ⟨rfl, hq⟩
        have hb14 := hb13.trans (hq.mono hb13.size)
        clear hb13 hq
        go_wp2_with fail
        refine (KN.out _ (htab.below hb14)).mono ?_
        rintro e w15 ⟨rfl, hq⟩
        have hb15 := hb14.trans (hq.mono hb14.size)
        clear hb14 hq
        go_wp2_with fail
        refine (KMn.out _).mono ?_
        rintro e w16 ⟨rfl, rfl⟩
        go_wp2_with fail
        go_ret
        exact ⟨rfl, hb15⟩
      · refine (KA.out _).mono ?_
        rintro e w9 ⟨rfl, rfl⟩
        go_wp2_with fail
        refine (KN.out _ (htab.below hb8)).mono ?_
        rintro e w10 ⟨rfl, hq⟩
        have hb10 := hb8.trans (hq.mono hb8.size)
        clear hb8 hq
        go_wp2_with fail
        refine (KNN'.out _ (htab.below hb10)).mono ?_
        rintro e w11 ⟨rfl, hq⟩
        have hb11 := hb10.trans (hq.mono hb10.size)
        clear hb10 hq
        go_wp2_with fail
        refine (KN.out _ (htab.below hb11)).mono ?_
        rintro e w12 ⟨rfl, hq⟩
        have hb12 := hb11.trans (hq.mono hb11.size)
        clear hb11 hq
        go_wp2_with fail
        refine (KSn.out _).mono ?_
        rintro e w13 ⟨rfl, hq⟩
        have hb13 := hb12.trans (hq.mono hb12.size)
        clear hb12 hq
        go_wp2_with fail
        refine (KG.out _).mono ?_
        rintro e w14 ⟨rfl, hq⟩
        have hb14 := hb13.trans (hq.mono hb13.size)
        clear hb13 hq
        go_wp2_with fail
        refine (KN.out _ (htab.below hb14)).mono ?_
        rintro e w15 ⟨rfl, hq⟩
        have hb15 := hb14.trans (hq.mono hb14.size)
        clear hb14 hq
        go_wp2_with fail
        refine (KMn.out _).mono ?_
        rintro e w16 ⟨rfl, rfl⟩
        go_wp2_with fail
        go_ret
        exact ⟨rfl, hb15⟩
      · refine (KA.out _).mono ?_
        rintro e w9 ⟨rfl, rfl⟩
        go_wp2_with fail
        refine (KN.out _ (htab.below hb8)).mono ?_
        rintro e w10 ⟨rfl, hq⟩
        have hb10 := hb8.trans (hq.mono hb8.size)
        clear hb8 hq
        go_wp2_with fail
        refine (KNN'.out _ (htab.below hb10)).mono ?_
        rintro e w11 ⟨rfl, hq⟩
        have hb11 := hb10.trans (hq.mono hb10.size)
        clear hb10 hq
        go_wp2_with fail
        refine (KN.out _ (htab.below hb11)).mono ?_
        rintro e w12 ⟨rfl, hq⟩
        have hb12 := hb11.trans (hq.mono hb11.size)
        clear hb11 hq
        go_wp2_with fail
        refine (KSn.out _).mono ?_
        rintro e w13 ⟨rfl, hq⟩
        have hb13 := hb12.trans (hq.mono hb12.size)
        clear hb12 hq
        go_wp2_with fail
        refine (KG.out _).mono ?_
        rintro e w14 ⟨rfl, hq⟩
        have hb14 := hb13.trans (hq.mono hb13.size)
        clear hb13 hq
        go_wp2_with fail
        refine (KN.out _ (htab.below hb14)).mono ?_
        rintro e w15 ⟨rfl, hq⟩
        have hb15 := hb14.trans (hq.mono hb14.size)
        clear hb14 hq
        go_wp2_with fail
        refine (KMn.out _).mono ?_
        rintro e w16 ⟨rfl, rfl⟩
        go_wp2_with fail
        go_ret
        exact ⟨rfl, hb15⟩
  · have hx' : ¬ 0 < x := by omega
    go_wp2_with fail
    refine (KO.out _ (htab.below hb4)).mono ?_
    rintro e w5 ⟨rfl, hq⟩
    have hb5 := hb4.trans (hq.mono hb4.size)
    clear hb4 hq
    go_wp2_with fail
    refine (KM.out _).mono ?_
    rintro e w6 ⟨rfl, rfl⟩
    go_wp2_with fail
    refine (KO.out _ (htab.below hb5)).mono ?_
    rintro e w7 ⟨rfl, hq⟩
    have hb7 := hb5.trans (hq.mono hb5.size)
    clear hb5 hq
    go_wp2_with fail
    refine (KS.out _).mono ?_
    rintro e w8 ⟨rfl, hq⟩
    have hb8 := hb7.trans (hq.mono hb7.size)
    clear hb7 hq
    go_wp2_with fail
    cases v
    · obtain ⟨rfl, rfl⟩ := Kno.out rfl
      refine (KA.out _).mono ?_
      rintro e w9 ⟨rfl, rfl⟩
      go_wp2_with fail
      refine (KN.out _ (htab.below hb8)).mono ?_
      rintro e w10 ⟨rfl, hq⟩
      have hb10 := hb8.trans (hq.mono hb8.size)
      clear hb8 hq
      go_wp2_with fail
      refine (KG.out _).mono ?_
      rintro e w11 ⟨rfl, hq⟩
      have hb11 := hb10.trans (hq.mono hb10.size)
      clear hb10 hq
      go_wp2_with fail
      go_ret
      exact ⟨rfl, hb11⟩
    · obtain ⟨hNN, hSn, hMn⟩ := KNN.out rfl
      have KNN' := Lib.hid hNN
      have KSn := Lib.hid hSn
      have KMn := Lib.hid hMn
      clear hNN hSn hMn KNN Kno
      have hg := Kg.out
      clear Kg
      rcases hg with rfl | rfl | rfl
      · refine (KA.out _).mono ?_
        rintro e w9 ⟨rfl, rfl⟩
        go_wp2_with fail
        refine (KN.out _ (htab.below hb8)).mono ?_
        rintro e w10 ⟨rfl, hq⟩
        have hb10 := hb8.trans (hq.mono hb8.size)
        clear hb8 hq
        go_wp2_with fail
        refine (KNN'.out _ (htab.below hb10)).mono ?_
        rintro e w11 ⟨rfl, hq⟩
        have hb11 := hb10.trans (hq.mono hb10.size)
        clear hb10 hq
        go_wp2_with fail
        refine (KN.out _ (htab.below hb11)).mono ?_
        rintro e w12 ⟨rfl, hq⟩
        have hb12 := hb11.trans (hq.mono hb11.size)
        clear hb11 hq
        go_wp2_with fail
        refine (KSn.out _).mono ?_
        rintro e w13 ⟨rfl, hq⟩
        have hb13 := hb12.trans (hq.mono hb12.size)
        clear hb12 hq
        go_wp2_with fail
        refine (KG.out _).mono ?_
        rintro e w14 ⟨rfl, hq⟩
        have hb14 := hb13.trans (hq.mono hb13.size)
        clear hb13 hq
        go_wp2_with fail
        refine (KN.out _ (htab.below hb14)).mono ?_
        rintro e w15 ⟨rfl, hq⟩
        have hb15 := hb14.trans (hq.mono hb14.size)
        clear hb14 hq
        go_wp2_with fail
        refine (KMn.out _).mono ?_
        rintro e w16 ⟨rfl, rfl⟩
        go_wp2_with fail
        go_ret
        exact ⟨rfl, hb15⟩
      · refine (KA.out _).mono ?_
        rintro e w9 ⟨rfl, rfl⟩
        go_wp2_with fail
        refine (KN.out _ (htab.below hb8)).mono ?_
        rintro e w10 ⟨rfl, hq⟩
        have hb10 := hb8.trans (hq.mono hb8.size)
        clear hb8 hq
        go_wp2_with fail
        refine (KNN'.out _ (htab.below hb10)).mono ?_
        rintro e w11 ⟨rfl, hq⟩
        have hb11 := hb10.trans (hq.mono hb10.size)
        clear hb10 hq
        go_wp2_with fail
        refine (KN.out _ (htab.below hb11)).mono ?_
        rintro e w12 ⟨rfl, hq⟩
        have hb12 := hb11.trans (hq.mono hb11.size)
        clear hb11 hq
        go_wp2_with fail
        refine (KSn.out _).mono ?_
        rintro e w13 ⟨rfl, hq⟩
        have hb13 := hb12.trans (hq.mono hb12.size)
        clear hb12 hq
        go_wp2_with fail
        refine (KG.out _).mono ?_
        rintro e w14 ⟨rfl, hq⟩
        have hb14 := hb13.trans (hq.mono hb13.size)
        clear hb13 hq
        go_wp2_with fail
        refine (KN.out _ (htab.below hb14)).mono ?_
        rintro e w15 ⟨rfl, hq⟩
        have hb15 := hb14.trans (hq.mono hb14.size)
        clear hb14 hq
        go_wp2_with fail
        refine (KMn.out _).mono ?_
        rintro e w16 ⟨rfl, rfl⟩
        go_wp2_with fail
        go_ret
        exact ⟨rfl, hb15⟩
      · refine (KA.out _).mono ?_
        rintro e w9 ⟨rfl, rfl⟩
        go_wp2_with fail
        refine (KN.out _ (htab.below hb8)).mono ?_
        rintro e w10 ⟨rfl, hq⟩
        have hb10 := hb8.trans (hq.mono hb8.size)
        clear hb8 hq
        go_wp2_with fail
        refine (KNN'.out _ (htab.below hb10)).mono ?_
        rintro e w11 ⟨rfl, hq⟩
        have hb11 := hb10.trans (hq.mono hb10.size)
        clear hb10 hq
        go_wp2_with fail
        refine (KN.out _ (htab.below hb11)).mono ?_
        rintro e w12 ⟨rfl, hq⟩
        have hb12 := hb11.trans (hq.mono hb11.size)
        clear hb11 hq
        go_wp2_with fail
        refine (KSn.out _).mono ?_
        rintro e w13 ⟨rfl, hq⟩
        have hb13 := hb12.trans (hq.mono hb12.size)
        clear hb12 hq
        go_wp2_with fail
        refine (KG.out _).mono ?_
        rintro e w14 ⟨rfl, hq⟩
        have hb14 := hb13.trans (hq.mono hb13.size)
        clear hb13 hq
        go_wp2_with fail
        refine (KN.out _ (htab.below hb14)).mono ?_
        rintro e w15 ⟨rfl, hq⟩
        have hb15 := hb14.trans (hq.mono hb14.size)
        clear hb14 hq
        go_wp2_with fail
        refine (KMn.out _).mono ?_
        rintro e w16 ⟨rfl, rfl⟩
        go_wp2_with fail
        go_ret
        exact ⟨rfl, hb15⟩
  · subst hx
    go_wp2_with fail
    refine (KO.out _ (htab.below hb4)).mono ?_
    rintro e w5 ⟨rfl, hq⟩
    have hb5 := hb4.trans (hq.mono hb4.size)
    clear hb4 hq
    go_wp2_with fail
    refine (KM.out _).mono ?_
    rintro e w6 ⟨rfl, rfl⟩
    go_wp2_with fail
    refine (KO.out _ (htab.below hb5)).mono ?_
    rintro e w7 ⟨rfl, hq⟩
    have hb7 := hb5.trans (hq.mono hb5.size)
    clear hb5 hq
    go_wp2_with fail
    refine (KS.out _).mono ?_
    rintro e w8 ⟨rfl, hq⟩
    have hb8 := hb7.trans (hq.mono hb7.size)
    clear hb7 hq
    go_wp2_with fail
    cases v
    · obtain ⟨rfl, rfl⟩ := Kno.out rfl
      refine (KA.out _).mono ?_
      rintro e w9 ⟨rfl, rfl⟩
      go_wp2_with fail
      refine (KN.out _ (htab.below hb8)).mono ?_
      rintro e w10 ⟨rfl, hq⟩
      have hb10 := hb8.trans (hq.mono hb8.size)
      clear hb8 hq
      go_wp2_with fail
      refine (KG.out _).mono ?_
      rintro e w11 ⟨rfl, hq⟩
      have hb11 := hb10.trans (hq.mono hb10.size)
      clear hb10 hq
      go_wp2_with fail
      go_ret
      exact ⟨rfl, hb11⟩
    · obtain ⟨hNN, hSn, hMn⟩ := KNN.out rfl
      have KNN' := Lib.hid hNN
      have KSn := Lib.hid hSn
      have KMn := Lib.hid hMn
      clear hNN hSn hMn KNN Kno
      have hg := Kg.out
      clear Kg
      rcases hg with rfl | rfl | rfl
      · refine (KA.out _).mono ?_
        rintro e w9 ⟨rfl, rfl⟩
        go_wp2_with fail
        refine (KN.out _ (htab.below hb8)).mono ?_
        rintro e w10 ⟨rfl, hq⟩
        have hb10 := hb8.trans (hq.mono hb8.size)
        clear hb8 hq
        go_wp2_with fail
        refine (KNN'.out _ (htab.below hb10)).mono ?_
        rintro e w11 ⟨rfl, hq⟩
        have hb11 := hb10.trans (hq.mono hb10.size)
        clear hb10 hq
        go_wp2_with fail
        refine (KN.out _ (htab.below hb11)).mono ?_
        rintro e w12 ⟨rfl, hq⟩
        have hb12 := hb11.trans (hq.mono hb11.size)
        clear hb11 hq
        go_wp2_with fail
        refine (KSn.out _).mono ?_
        rintro e w13 ⟨rfl, hq⟩
        have hb13 := hb12.trans (hq.mono hb12.size)
        clear hb12 hq
        go_wp2_with fail
        refine (KG.out _).mono ?_
        rintro e w14 ⟨rfl, hq⟩
        have hb14 := hb13.trans (hq.mono hb13.size)
        clear hb13 hq
        go_wp2_with fail
        refine (KN.out _ (htab.below hb14)).mono ?_
        rintro e w15 ⟨rfl, hq⟩
        have hb15 := hb14.trans (hq.mono hb14.size)
        clear hb14 hq
        go_wp2_with fail
        refine (KMn.out _).mono ?_
        rintro e w16 ⟨rfl, rfl⟩
        go_wp2_with fail
        go_ret
        exact ⟨rfl, hb15⟩
      · refine (KA.out _).mono ?_
        rintro e w9 ⟨rfl, rfl⟩
        go_wp2_with fail
        refine (KN.out _ (htab.below hb8)).mono ?_
        rintro e w10 ⟨rfl, hq⟩
        have hb10 := hb8.trans (hq.mono hb8.size)
        clear hb8 hq
        go_wp2_with fail
        refine (KNN'.out _ (htab.below hb10)).mono ?_
        rintro e w11 ⟨rfl, hq⟩
        have hb11 := hb10.trans (hq.mono hb10.size)
        clear hb10 hq
        go_wp2_with fail
        refine (KN.out _ (htab.below hb11)).mono ?_
        rintro e w12 ⟨rfl, hq⟩
        have hb12 := hb11.trans (hq.mono hb11.size)
        clear hb11 hq
        go_wp2_with fail
        refine (KSn.out _).mono ?_
        rintro e w13 ⟨rfl, hq⟩
        have hb13 := hb12.trans (hq.mono hb12.size)
        clear hb12 hq
        go_wp2_with fail
        refine (KG.out _).mono ?_
        rintro e w14 ⟨rfl, hq⟩
        have hb14 := hb13.trans (hq.mono hb13.size)
        clear hb13 hq
        go_wp2_with fail
        refine (KN.out _ (htab.below hb14)).mono ?_
        rintro e w15 ⟨rfl, hq⟩
        have hb15 := hb14.trans (hq.mono hb14.size)
        clear hb14 hq
        go_wp2_with fail
        refine (KMn.out _).mono ?_
        rintro e w16 ⟨rfl, rfl⟩
        go_wp2_with fail
        go_ret
        exact ⟨rfl, hb15⟩
      · refine (KA.out _).mono ?_
        rintro e w9 ⟨rfl, rfl⟩
        go_wp2_with fail
        refine (KN.out _ (htab.below hb8)).mono ?_
        rintro e w10 ⟨rfl, hq⟩
        have hb10 := hb8.trans (hq.mono hb8.size)
        clear hb8 hq
        go_wp2_with fail
        refine (KNN'.out _ (htab.below hb10)).mono ?_
        rintro e w11 ⟨rfl, hq⟩
        have hb11 := hb10.trans (hq.mono hb10.size)
        clear hb10 hq
        go_wp2_with fail
        refine (KN.out _ (htab.below hb11)).mono ?_
        rintro e w12 ⟨rfl, hq⟩
        have hb12 := hb11.trans (hq.mono hb11.size)
        clear hb11 hq
        go_wp2_with fail
        refine (KSn.out _).mono ?_
        rintro e w13 ⟨rfl, hq⟩
        have hb13 := hb12.trans (hq.mono hb12.size)
        clear hb12 hq
        go_wp2_with fail
        refine (KG.out _).mono ?_
        rintro e w14 ⟨rfl, hq⟩
        have hb14 := hb13.trans (hq.mono hb13.size)
        clear hb13 hq
        go_wp2_with fail
        refine (KN.out _ (htab.below hb14)).mono ?_
        rintro e w15 ⟨rfl, hq⟩
        have hb15 := hb14.trans (hq.mono hb14.size)
        clear hb14 hq
        go_wp2_with fail
        refine (KMn.out _).mono ?_
        rintro e w16 ⟨rfl, rfl⟩
        go_wp2_with fail
        go_ret
        exact ⟨rfl, hb15⟩
end Go.Proofs.YtilkjfmgjldmoaaDoor

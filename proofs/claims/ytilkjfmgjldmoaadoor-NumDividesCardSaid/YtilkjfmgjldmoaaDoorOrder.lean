import Derived.Test.YtilkjfmgjldmoaaDoorShown
namespace Go.Proofs.YtilkjfmgjldmoaaDoor
open Go.RowKit

def TrueEnd (w : World) (e : Ending) (w' : World) : Prop := e = .returned (.bool true) ∧ Below w.heap.size w w'
def FewIs (a b : ByteArray) (v : Bool) : Prop := ∀ w, Calls Tryd.prog 10 #[.string a, .string b] w fun e w' => e = .returned (.bool v) ∧ w = w'
def MayIs (a : ByteArray) (v : Bool) : Prop := ∀ w, Calls Tryd.prog 23 #[.string a] w (MayPost v w)
def CmpIs (a b : ByteArray) (z : Int) : Prop := ∀ w, Calls Tryd.prog 26 #[.string a, .string b] w (CmpPost z w)
def SubIs (a b d : ByteArray) (ec : Int) : Prop := ∀ w, Tab w → Calls Tryd.prog 13 #[.string a, .string b] w fun e w' => e = .returned (.tuple #[.string d, .int .i64 ec]) ∧ Below w.heap.size w w'
def SignIs (a : ByteArray) (z : Int) : Prop := ∀ w, Calls Tryd.prog 24 #[.string a] w (CmpPost z w)

theorem toList_inj {a b : ByteArray} (h : a.toList = b.toList) : a = b := by
  rw [str_tl, str_tl] at h
  obtain ⟨⟨x⟩⟩ := a
  obtain ⟨⟨y⟩⟩ := b
  have : x = y := h
  rw [this]
set_option maxRecDepth 10000 in
set_option maxHeartbeats 12800000 in
theorem order_main (a b c d : ByteArray) (X Y Z ec : Int) (w : World) (htab : Tab w) (hc : c.size ≤ 200) (HF : FewIs a b true) (HA : MayIs a true) (HB : MayIs b true) (HC : MayIs c true)
    (H1 : CmpIs a b X) (H2 : CmpIs b c Y) (H3 : CmpIs b a (-X)) (H4 : CmpIs a c Z) (HS : SubIs a b d ec) (HG : ec = 0 → SignIs d X)
    (hX : X = -1 ∨ X = 0 ∨ X = 1) (hY : Y = -1 ∨ Y = 0 ∨ Y = 1) (hab : X = 0 ↔ a = b) (hZ : X ≤ 0 → Y ≤ 0 → Z ≤ 0) (hZ' : X = Y → Z = X) (he : ec = 0 ∨ ec = 8) :
    Calls Tryd.prog 8 #[.string a, .string b, .string c] w (TrueEnd w) := by
  have KF := Lib.hid HF
  have KA := Lib.hid HA
  have KB := Lib.hid HB
  have KC := Lib.hid HC
  have K1 := Lib.hid H1
  have K2 := Lib.hid H2
  have K3 := Lib.hid H3
  have K4 := Lib.hid H4
  have KS := Lib.hid HS
  have KG := Lib.hid HG
  have KE := Lib.hid (And.intro hX (And.intro hY (And.intro hab (And.intro hZ (And.intro hZ' he)))))
  clear HF HA HB HC H1 H2 H3 H4 HS HG hX hY hab hZ hZ' he
  have hc' : ¬ (200 : Int) < c.size := by omega
  go_enter Tryd.func8, Tryd.ntmps8
  go_wp2_with fail
  refine (shown_any _ htab).mono ?_
  rintro e w1 ⟨rfl, hb1⟩
  go_wp2_with fail
  refine (KF.out _).mono ?_
  rintro e w2 ⟨rfl, rfl⟩
  go_wp2_with fail
  refine (KA.out _).mono ?_
  rintro e w2 ⟨rfl, rfl⟩
  go_wp2_with fail
  refine (KB.out _).mono ?_
  rintro e w2 ⟨rfl, rfl⟩
  go_wp2_with fail
  refine (KC.out _).mono ?_
  rintro e w2 ⟨rfl, rfl⟩
  go_wp2_with fail
  refine (K1.out _).mono ?_
  rintro e w2 ⟨rfl, hb2⟩
  have hb := hb1.trans (hb2.mono hb1.size)
  clear hb1 hb2
  go_wp2_with fail
  refine (K2.out _).mono ?_
  rintro e w3 ⟨rfl, hb2⟩
  have hb1 := hb.trans (hb2.mono hb.size)
  clear hb hb2
  go_wp2_with fail
  refine (KS.out _ (htab.below hb1)).mono ?_
  rintro e w4 ⟨rfl, hb2⟩
  have hb := hb1.trans (hb2.mono hb1.size)
  clear hb1 hb2
  obtain ⟨hX, hY, hab, hZ, hZ', he⟩ := KE.out
  clear KE
  rcases hX with rfl | rfl | rfl
  · have hne : ¬ a.toList = b.toList := fun h => absurd (hab.2 (toList_inj h)) (by decide)
    clear hab
    replace K3 : Hid (CmpIs b a 1) := K3
    rcases hY with rfl | rfl | rfl
    · obtain rfl := hZ' rfl
      clear hZ hZ'
      rcases he with rfl | rfl
      · replace KG := Lib.hid (KG.out rfl)
        go_wp2_with fail
        refine (K3.out _).mono ?_; rintro e w5 ⟨rfl, hb3⟩; replace hb := hb.trans (hb3.mono hb.size); clear hb3; go_wp2_with fail
        refine (KG.out _).mono ?_; rintro e w6 ⟨rfl, hb3⟩; replace hb := hb.trans (hb3.mono hb.size); clear hb3; go_wp2_with fail
        refine (K4.out _).mono ?_; rintro e w7 ⟨rfl, hb3⟩; replace hb := hb.trans (hb3.mono hb.size); clear hb3; go_wp2_with fail
        refine (K4.out _).mono ?_; rintro e w8 ⟨rfl, hb3⟩; replace hb := hb.trans (hb3.mono hb.size); clear hb3; go_wp2_with fail
        go_ret
        exact ⟨ret_bool (by simp [hne]), hb⟩
      · clear KG
        go_wp2_with fail
        refine (K3.out _).mono ?_; rintro e w5 ⟨rfl, hb3⟩; replace hb := hb.trans (hb3.mono hb.size); clear hb3; go_wp2_with fail
        refine (K4.out _).mono ?_; rintro e w7 ⟨rfl, hb3⟩; replace hb := hb.trans (hb3.mono hb.size); clear hb3; go_wp2_with fail
        refine (K4.out _).mono ?_; rintro e w8 ⟨rfl, hb3⟩; replace hb := hb.trans (hb3.mono hb.size); clear hb3; go_wp2_with fail
        go_ret
        exact ⟨ret_bool (by simp [hne]), hb⟩
    · have hz := hZ (by decide) (by decide)
      clear hZ hZ'
      rcases he with rfl | rfl
      · replace KG := Lib.hid (KG.out rfl)
        go_wp2_with fail
        refine (K3.out _).mono ?_; rintro e w5 ⟨rfl, hb3⟩; replace hb := hb.trans (hb3.mono hb.size); clear hb3; go_wp2_with fail
        refine (KG.out _).mono ?_; rintro e w6 ⟨rfl, hb3⟩; replace hb := hb.trans (hb3.mono hb.size); clear hb3; go_wp2_with fail
        refine (K4.out _).mono ?_; rintro e w7 ⟨rfl, hb3⟩; replace hb := hb.trans (hb3.mono hb.size); clear hb3; go_wp2_with fail
        go_ret
        exact ⟨ret_bool (by simp [hne]), hb⟩
      · clear KG
        go_wp2_with fail
        refine (K3.out _).mono ?_; rintro e w5 ⟨rfl, hb3⟩; replace hb := hb.trans (hb3.mono hb.size); clear hb3; go_wp2_with fail
        refine (K4.out _).mono ?_; rintro e w7 ⟨rfl, hb3⟩; replace hb := hb.trans (hb3.mono hb.size); clear hb3; go_wp2_with fail
        go_ret
        exact ⟨ret_bool (by simp [hne]), hb⟩
    · clear hZ hZ'
      rcases he with rfl | rfl
      · replace KG := Lib.hid (KG.out rfl)
        go_wp2_with fail
        refine (K3.out _).mono ?_; rintro e w5 ⟨rfl, hb3⟩; replace hb := hb.trans (hb3.mono hb.size); clear hb3; go_wp2_with fail
        refine (KG.out _).mono ?_; rintro e w6 ⟨rfl, hb3⟩; replace hb := hb.trans (hb3.mono hb.size); clear hb3; go_wp2_with fail
        go_ret
        exact ⟨ret_bool (by simp [hne]), hb⟩
      · clear KG
        go_wp2_with fail
        refine (K3.out _).mono ?_; rintro e w5 ⟨rfl, hb3⟩; replace hb := hb.trans (hb3.mono hb.size); clear hb3; go_wp2_with fail
        go_ret
        exact ⟨ret_bool (by simp [hne]), hb⟩
  · obtain rfl := hab.1 rfl
    clear hab
    replace K3 : Hid (CmpIs a a 0) := K3
    rcases hY with rfl | rfl | rfl
    · have hz := hZ (by decide) (by decide)
      clear hZ hZ'
      rcases he with rfl | rfl
      · replace KG := Lib.hid (KG.out rfl)
        go_wp2_with fail
        refine (K3.out _).mono ?_; rintro e w5 ⟨rfl, hb3⟩; replace hb := hb.trans (hb3.mono hb.size); clear hb3; go_wp2_with fail
        refine (KG.out _).mono ?_; rintro e w6 ⟨rfl, hb3⟩; replace hb := hb.trans (hb3.mono hb.size); clear hb3; go_wp2_with fail
        refine (K4.out _).mono ?_; rintro e w7 ⟨rfl, hb3⟩; replace hb := hb.trans (hb3.mono hb.size); clear hb3; go_wp2_with fail
        go_ret
        exact ⟨rfl, hb⟩
      · clear KG
        go_wp2_with fail
        refine (K3.out _).mono ?_; rintro e w5 ⟨rfl, hb3⟩; replace hb := hb.trans (hb3.mono hb.size); clear hb3; go_wp2_with fail
        refine (K4.out _).mono ?_; rintro e w7 ⟨rfl, hb3⟩; replace hb := hb.trans (hb3.mono hb.size); clear hb3; go_wp2_with fail
        go_ret
        exact ⟨rfl, hb⟩
    · obtain rfl := hZ' rfl
      clear hZ hZ'
      rcases he with rfl | rfl
      · replace KG := Lib.hid (KG.out rfl)
        go_wp2_with fail
        refine (K3.out _).mono ?_; rintro e w5 ⟨rfl, hb3⟩; replace hb := hb.trans (hb3.mono hb.size); clear hb3; go_wp2_with fail
        refine (KG.out _).mono ?_; rintro e w6 ⟨rfl, hb3⟩; replace hb := hb.trans (hb3.mono hb.size); clear hb3; go_wp2_with fail
        refine (K4.out _).mono ?_; rintro e w7 ⟨rfl, hb3⟩; replace hb := hb.trans (hb3.mono hb.size); clear hb3; go_wp2_with fail
        refine (K4.out _).mono ?_; rintro e w8 ⟨rfl, hb3⟩; replace hb := hb.trans (hb3.mono hb.size); clear hb3; go_wp2_with fail
        go_ret
        exact ⟨rfl, hb⟩
      · clear KG
        go_wp2_with fail
        refine (K3.out _).mono ?_; rintro e w5 ⟨rfl, hb3⟩; replace hb := hb.trans (hb3.mono hb.size); clear hb3; go_wp2_with fail
        refine (K4.out _).mono ?_; rintro e w7 ⟨rfl, hb3⟩; replace hb := hb.trans (hb3.mono hb.size); clear hb3; go_wp2_with fail
        refine (K4.out _).mono ?_; rintro e w8 ⟨rfl, hb3⟩; replace hb := hb.trans (hb3.mono hb.size); clear hb3; go_wp2_with fail
        go_ret
        exact ⟨rfl, hb⟩
    · clear hZ hZ'
      rcases he with rfl | rfl
      · replace KG := Lib.hid (KG.out rfl)
        go_wp2_with fail
        refine (K3.out _).mono ?_; rintro e w5 ⟨rfl, hb3⟩; replace hb := hb.trans (hb3.mono hb.size); clear hb3; go_wp2_with fail
        refine (KG.out _).mono ?_; rintro e w6 ⟨rfl, hb3⟩; replace hb := hb.trans (hb3.mono hb.size); clear hb3; go_wp2_with fail
        go_ret
        exact ⟨rfl, hb⟩
      · clear KG
        go_wp2_with fail
        refine (K3.out _).mono ?_; rintro e w5 ⟨rfl, hb3⟩; replace hb := hb.trans (hb3.mono hb.size); clear hb3; go_wp2_with fail
        go_ret
        exact ⟨rfl, hb⟩
  · have hne : ¬ a.toList = b.toList := fun h => absurd (hab.2 (toList_inj h)) (by decide)
    clear hab
    replace K3 : Hid (CmpIs b a (-1)) := K3
    rcases hY with rfl | rfl | rfl
    · clear hZ hZ'
      rcases he with rfl | rfl
      · replace KG := Lib.hid (KG.out rfl)
        go_wp2_with fail
        refine (K3.out _).mono ?_; rintro e w5 ⟨rfl, hb3⟩; replace hb := hb.trans (hb3.mono hb.size); clear hb3; go_wp2_with fail
        refine (KG.out _).mono ?_; rintro e w6 ⟨rfl, hb3⟩; replace hb := hb.trans (hb3.mono hb.size); clear hb3; go_wp2_with fail
        go_ret
        exact ⟨ret_bool (by simp [hne]), hb⟩
      · clear KG
        go_wp2_with fail
        refine (K3.out _).mono ?_; rintro e w5 ⟨rfl, hb3⟩; replace hb := hb.trans (hb3.mono hb.size); clear hb3; go_wp2_with fail
        go_ret
        exact ⟨ret_bool (by simp [hne]), hb⟩
    · clear hZ hZ'
      rcases he with rfl | rfl
      · replace KG := Lib.hid (KG.out rfl)
        go_wp2_with fail
        refine (K3.out _).mono ?_; rintro e w5 ⟨rfl, hb3⟩; replace hb := hb.trans (hb3.mono hb.size); clear hb3; go_wp2_with fail
        refine (KG.out _).mono ?_; rintro e w6 ⟨rfl, hb3⟩; replace hb := hb.trans (hb3.mono hb.size); clear hb3; go_wp2_with fail
        go_ret
        exact ⟨ret_bool (by simp [hne]), hb⟩
      · clear KG
        go_wp2_with fail
        refine (K3.out _).mono ?_; rintro e w5 ⟨rfl, hb3⟩; replace hb := hb.trans (hb3.mono hb.size); clear hb3; go_wp2_with fail
        go_ret
        exact ⟨ret_bool (by simp [hne]), hb⟩
    · obtain rfl := hZ' rfl
      clear hZ hZ'
      rcases he with rfl | rfl
      · replace KG := Lib.hid (KG.out rfl)
        go_wp2_with fail
        refine (K3.out _).mono ?_; rintro e w5 ⟨rfl, hb3⟩; replace hb := hb.trans (hb3.mono hb.size); clear hb3; go_wp2_with fail
        refine (KG.out _).mono ?_; rintro e w6 ⟨rfl, hb3⟩; replace hb := hb.trans (hb3.mono hb.size); clear hb3; go_wp2_with fail
        refine (K4.out _).mono ?_; rintro e w8 ⟨rfl, hb3⟩; replace hb := hb.trans (hb3.mono hb.size); clear hb3; go_wp2_with fail
        go_ret
        exact ⟨ret_bool (by simp [hne]), hb⟩
      · clear KG
        go_wp2_with fail
        refine (K3.out _).mono ?_; rintro e w5 ⟨rfl, hb3⟩; replace hb := hb.trans (hb3.mono hb.size); clear hb3; go_wp2_with fail
        refine (K4.out _).mono ?_; rintro e w8 ⟨rfl, hb3⟩; replace hb := hb.trans (hb3.mono hb.size); clear hb3; go_wp2_with fail
        go_ret
        exact ⟨ret_bool (by simp [hne]), hb⟩
end Go.Proofs.YtilkjfmgjldmoaaDoor

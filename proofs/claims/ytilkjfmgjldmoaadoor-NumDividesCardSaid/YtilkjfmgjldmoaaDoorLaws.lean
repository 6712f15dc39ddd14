import Derived.Test.YtilkjfmgjldmoaaDoorOrder
namespace Go.Proofs.YtilkjfmgjldmoaaDoor
open Go.RowKit

def AddIs (a b d : ByteArray) (ec : Int) : Prop := ∀ w, Tab w → Calls Tryd.prog 11 #[.string a, .string b] w fun e w' => e = .returned (.tuple #[.string d, .int .i64 ec]) ∧ Below w.heap.size w w'
def MulIs (a b d : ByteArray) (ec : Int) : Prop := ∀ w, Tab w → Calls Tryd.prog 15 #[.string a, .string b] w fun e w' => e = .returned (.tuple #[.string d, .int .i64 ec]) ∧ Below w.heap.size w w'

set_option maxRecDepth 10000 in
set_option maxHeartbeats 12800000 in
theorem laws_main (a b c X P L M N V B : ByteArray) (E G I J K O U : Int) (w : World) (htab : Tab w) (hc : c.size ≤ 200) (HF : FewIs a b true)
    (H1 : AddIs a b X E) (H2 : AddIs b a X E) (H3 : MulIs a b P G) (H4 : MulIs b a P G) (H5 : MulIs X c L I) (H6 : MulIs a c M J) (H7 : MulIs b c N K) (H8 : AddIs M N V O) (H9 : SubIs X b B U)
    (hL : E = 0 → I = 0 → J = 0 → K = 0 → O = 0 → L = V) (hB : E = 0 → U = 0 ∧ B = a) :
    Calls Tryd.prog 6 #[.string a, .string b, .string c] w (TrueEnd w) := by
  have KF := Lib.hid HF
  have K1 := Lib.hid H1
  have K2 := Lib.hid H2
  have K3 := Lib.hid H3
  have K4 := Lib.hid H4
  have K5 := Lib.hid H5
  have K6 := Lib.hid H6
  have K7 := Lib.hid H7
  have K8 := Lib.hid H8
  have K9 := Lib.hid H9
  have KL := Lib.hid hL
  have KB := Lib.hid hB
  clear HF H1 H2 H3 H4 H5 H6 H7 H8 H9 hL hB
  have hc' : ¬ (200 : Int) < c.size := by omega
  go_enter Tryd.func6, Tryd.ntmps6
  go_wp2_with fail
  refine (shown_any _ htab).mono ?_
  rintro e w1 ⟨rfl, hb1⟩
  go_wp2_with fail
  refine (KF.out _).mono ?_
  rintro e w2 ⟨rfl, rfl⟩
  go_wp2_with fail
  refine (K1.out _ (htab.below hb1)).mono ?_
  rintro e w2 ⟨rfl, hq⟩
  have hb2 := hb1.trans (hq.mono hb1.size)
  clear hb1 hq
  go_wp2_with fail
  refine (K2.out _ (htab.below hb2)).mono ?_
  rintro e w3 ⟨rfl, hq⟩
  have hb3 := hb2.trans (hq.mono hb2.size)
  clear hb2 hq
  go_wp2_with fail
  refine (K3.out _ (htab.below hb3)).mono ?_
  rintro e w4 ⟨rfl, hq⟩
  have hb4 := hb3.trans (hq.mono hb3.size)
  clear hb3 hq
  go_wp2_with fail
  refine (K4.out _ (htab.below hb4)).mono ?_
  rintro e w5 ⟨rfl, hq⟩
  have hb5 := hb4.trans (hq.mono hb4.size)
  clear hb4 hq
  go_wp2_with fail
  refine (K5.out _ (htab.below hb5)).mono ?_
  rintro e w6 ⟨rfl, hq⟩
  have hb6 := hb5.trans (hq.mono hb5.size)
  clear hb5 hq
  go_wp2_with fail
  refine (K6.out _ (htab.below hb6)).mono ?_
  rintro e w7 ⟨rfl, hq⟩
  have hb7 := hb6.trans (hq.mono hb6.size)
  clear hb6 hq
  go_wp2_with fail
  refine (K7.out _ (htab.below hb7)).mono ?_
  rintro e w8 ⟨rfl, hq⟩
  have hb8 := hb7.trans (hq.mono hb7.size)
  clear hb7 hq
  go_wp2_with fail
  refine (K8.out _ (htab.below hb8)).mono ?_
  rintro e w9 ⟨rfl, hq⟩
  have hb9 := hb8.trans (hq.mono hb8.size)
  clear hb8 hq
  by_cases hE : E = 0
  · obtain ⟨rfl, rfl⟩ := KB.out hE
    have hL := KL.out hE
    clear KB KL
    subst hE
    by_cases hz : I = 0 ∧ J = 0 ∧ K = 0 ∧ O = 0
    · obtain ⟨rfl, rfl, rfl, rfl⟩ := hz
      obtain rfl := hL rfl rfl rfl rfl
      clear hL
      go_wp2_with fail
      refine (K9.out _ (htab.below hb9)).mono ?_
      rintro e w10 ⟨rfl, hq⟩
      have hb10 := hb9.trans (hq.mono hb9.size)
      clear hb9 hq
      go_wp2_with fail
      go_ret
      exact ⟨rfl, hb10⟩
    · have KZ := Lib.hid hz
      clear hz hL
      go_wp2_with fail
      all_goals first
        | (exfalso; exact KZ.out ⟨by assumption, by assumption, by assumption, by assumption⟩)
        | skip
      all_goals (refine (K9.out _ (htab.below hb9)).mono ?_; rintro e w10 ⟨rfl, hq⟩; have hb10 := hb9.trans (hq.mono hb9.size); clear hb9 hq; go_wp2_with fail; go_ret; exact ⟨rfl, hb10⟩)
  · clear KB KL
    go_wp2_with fail
    refine (K9.out _ (htab.below hb9)).mono ?_
    rintro e w10 ⟨rfl, hq⟩
    have hb10 := hb9.trans (hq.mono hb9.size)
    clear hb9 hq
    go_wp2_with fail
    go_ret
    exact ⟨rfl, hb10⟩
end Go.Proofs.YtilkjfmgjldmoaaDoor

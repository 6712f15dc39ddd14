import Derived.Test.YtinhbmjfeabecaaGreatDoorDivs
import Derived.Test.YtinhbmjfeabecaaGreatDoorFew
import Derived.Test.YtinhbmjfeabecaaGreatDoorLit
namespace Go.Proofs.YtinhbmjfeabecaaGreatDoor
open Go.RowKit

theorem S_m7 : S (-7) = ⟨#[45, 55]⟩ := S_nlit (l := [55]) (n := 7) rfl (by decide) (by unfold AllDig; decide) ⟨_, _, rfl, by decide⟩
theorem S_2 : S 2 = ⟨#[50]⟩ := S_lit (l := [50]) (n := 2) rfl (by unfold AllDig; decide) ⟨_, _, rfl, by decide⟩
theorem S_1 : S 1 = ⟨#[49]⟩ := S_lit (l := [49]) (n := 1) rfl (by unfold AllDig; decide) ⟨_, _, rfl, by decide⟩
theorem S_m4 : S (-4) = ⟨#[45, 52]⟩ := S_nlit (l := [52]) (n := 4) rfl (by decide) (by unfold AllDig; decide) ⟨_, _, rfl, by decide⟩
theorem S_m10 : S (-10) = ⟨#[45, 49, 48]⟩ := S_nlit (l := [49, 48]) (n := 10) rfl (by decide) (by unfold AllDig; decide) ⟨_, _, rfl, by decide⟩
theorem S_big : S 123456789012345678901 = ⟨#[49, 50, 51, 52, 53, 54, 55, 56, 57, 48, 49, 50, 51, 52, 53, 54, 55, 56, 57, 48, 49]⟩ :=
  S_lit (l := [49, 50, 51, 52, 53, 54, 55, 56, 57, 48, 49, 50, 51, 52, 53, 54, 55, 56, 57, 48, 49]) (n := 123456789012345678901) rfl (by unfold AllDig; decide) ⟨_, _, rfl, by decide⟩
theorem S_big10 : S (-1234567890123456789010) = ⟨#[45, 49, 50, 51, 52, 53, 54, 55, 56, 57, 48, 49, 50, 51, 52, 53, 54, 55, 56, 57, 48, 49, 48]⟩ :=
  S_nlit (l := [49, 50, 51, 52, 53, 54, 55, 56, 57, 48, 49, 50, 51, 52, 53, 54, 55, 56, 57, 48, 49, 48]) (n := 1234567890123456789010) rfl (by decide) (by unfold AllDig; decide) ⟨_, _, rfl, by decide⟩
theorem shown_div (w : World) (htab : Tab w) : Calls Tryz.prog 18 #[.string ⟨#[45, 55]⟩, .string ⟨#[50]⟩] w fun e w' => e = .returned (.tuple #[.string ⟨#[45, 52]⟩, .int .i64 0]) ∧ Below w.heap.size w w' := by
  have hL := lim_big
  have h := Div_yes (-7) 2 w (by omega) (by omega) (by omega) htab
  rw [S_m7, S_2, show fq (-7) 2 = -4 by decide] at h
  unfold OpPost at h
  rwa [toldR_yes (by omega), toldE_yes (by omega), S_m4] at h
theorem shown_mod (w : World) (htab : Tab w) : Calls Tryz.prog 19 #[.string ⟨#[45, 55]⟩, .string ⟨#[50]⟩] w fun e w' => e = .returned (.tuple #[.string ⟨#[49]⟩, .int .i64 0]) ∧ Below w.heap.size w w' := by
  have hL := lim_big
  have h := Mod_yes (-7) 2 w (by omega) (by omega) (by omega) htab
  rw [S_m7, S_2, show fr (-7) 2 = 1 by decide] at h
  unfold OpPost at h
  rwa [toldR_yes (by omega), toldE_yes (by omega), S_1] at h
theorem shown_mul (w : World) (htab : Tab w) : Calls Tryz.prog 20 #[.string ⟨#[49, 50, 51, 52, 53, 54, 55, 56, 57, 48, 49, 50, 51, 52, 53, 54, 55, 56, 57, 48, 49]⟩, .string ⟨#[45, 49, 48]⟩] w fun e w' =>
    e = .returned (.tuple #[.string ⟨#[45, 49, 50, 51, 52, 53, 54, 55, 56, 57, 48, 49, 50, 51, 52, 53, 54, 55, 56, 57, 48, 49, 48]⟩, .int .i64 0]) ∧ Below w.heap.size w w' := by
  have hL := lim_big
  have h := Mul_yes 123456789012345678901 (-10) w (by omega) (by omega) htab
  rw [S_big, S_m10, show (123456789012345678901 : Int) * (-10) = -1234567890123456789010 by decide] at h
  unfold OpPost at h
  rwa [toldR_yes (by omega), toldE_yes (by omega), S_big10] at h
set_option maxRecDepth 10000 in
theorem shown_any (w : World) (htab : Tab w) : Calls Tryz.prog 4 #[] w fun e w' => e = .returned (.bool true) ∧ Below w.heap.size w w' := by
  go_enter Tryz.func4, Tryz.ntmps4
  go_wp2_with fail
  refine (shown_div _ htab).mono ?_
  rintro e w1 ⟨rfl, hb1⟩
  go_wp2_with fail
  refine (shown_mod _ (htab.below hb1)).mono ?_
  rintro e w2 ⟨rfl, hb2⟩
  have hb := hb1.trans (hb2.mono hb1.size)
  go_wp2_with fail
  refine (shown_mul _ (htab.below hb)).mono ?_
  rintro e w3 ⟨rfl, hb3⟩
  go_wp2_with fail
  go_ret
  exact ⟨rfl, hb.trans (hb3.mono hb.size)⟩
end Go.Proofs.YtinhbmjfeabecaaGreatDoor

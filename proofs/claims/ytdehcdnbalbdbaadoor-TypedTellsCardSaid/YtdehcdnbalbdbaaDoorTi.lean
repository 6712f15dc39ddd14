/-
  The document's example at the head of all statements of layer 5; whether two typed arrays are the same; few; made; widths of arrays, plainly.
-/
import Derived.Test.YtdehcdnbalbdbaaDoorTh
import Derived.Test.YtdehcdnbalbdbaaDoorHz
import Derived.Test.YtdehcdnbalbdbaaDoorBr
namespace Go.Proofs.YtdehcdnbalbdbaaDoor
open Go.RowKit

def two : List ByteArray := [⟨#[49]⟩, ⟨#[45, 49]⟩]
def twoF (j : Nat) : Int := if j = 0 then 1 else -1
theorem two_is (j : Nat) (hj : j < 2) : two.getD j ByteArray.empty = S (twoF j) ∧ I64 (twoF j) := by
  have h1 : dval [49] = 1 := rfl
  have hd : Lib.decDigits 1 = [49] := by
    have := dig_lit (l := [49]) (by intro x hx; rw [List.mem_singleton] at hx; rw [hx]; decide) ⟨49, [], rfl, by decide⟩
    rwa [h1] at this
  rcases j with _ | _ | j
  · refine ⟨?_, by decide⟩
    show (⟨#[49]⟩ : ByteArray) = S ((1 : Nat) : Int)
    rw [S_pos (n := 1) rfl (by decide), hd]
  · refine ⟨?_, by decide⟩
    show (⟨#[45, 49]⟩ : ByteArray) = S (-1)
    rw [S_neg (n := 1) rfl (by decide), hd]
  · omega
theorem two_small : ∀ j, j < 2 → (two.getD j ByteArray.empty).size ≤ maxLen := by
  intro j hj
  rcases j with _ | _ | j
  all_goals first | omega | (unfold maxLen; decide)
theorem two_may : mayV [2] two = true := by decide
theorem two_wid : WidIs two 2 (fun _ => 8) := by
  intro j hj w hw
  obtain ⟨h1, h2⟩ := two_is j hj
  rw [h1]
  have hl : leastW (twoF j) = 8 := by
    rcases j with _ | _ | j
    · decide
    · decide
    · omega
  have := Of_yes (S (twoF j)) (twoF j) h2.1 h2.2 w (Int_ok (twoF j) h2.1 h2.2 w) hw.wid
  rwa [hl] at this
theorem two_Eb : Eb 1 twoF 2 = ⟨#[1, 255]⟩ := by decide
theorem two_mayT : MayT 8 [2] ⟨#[1, 255]⟩ 1 2 := ⟨.inl ⟨rfl, rfl⟩, by decide, by decide, by decide, by decide⟩
theorem two_el : el ⟨#[1, 255]⟩ 1 1 = -1 := by decide
set_option maxRecDepth 10000 in
set_option maxHeartbeats 800000 in
theorem shown_is (W : World) (ht : WT W) : Calls Tryd.prog 9 #[] W (TrueEnd W) := by
  have KP := fun w (hb : Below W.heap.size W w) a b (h : Vl w a 1 b 2 [2] two) => Pack_yes (c := 1) (d := 2) (w := 8) (bb := 1) w h (by omega) two_small (ht.below hb) two_may twoF (fun _ => 8) two_is two_wid (by decide) (.inl ⟨rfl, rfl⟩)
  rw [two_Eb] at KP
  replace KP := Lib.hid KP
  have hsz : (⟨#[1, 255]⟩ : ByteArray).size ≤ maxLen := by unfold maxLen; decide
  have KA := fun w (hb : Below W.heap.size W w) a n c (h : Sl w a n [2]) => TAt_yes (w := 8) (c := c) (i := 1) w h (ht.below hb).wid hsz two_mayT (by omega)
  rw [two_el] at KA
  replace KA := Lib.hid KA
  have KM := fun w (hb : Below W.heap.size W w) a n c (h : Sl w a n [2]) => TMany_is (w := 8) (c := c) w h (ht.below hb).wid hsz
  rw [two_mayT.tm] at KM
  replace KM := Lib.hid KM
  have KY := fun w (hb : Below W.heap.size W w) a n c (h : Sl w a n [2]) => TMay_is (w := 8) (c := c) w h (ht.below hb).wid hsz
  rw [two_mayT.yes] at KY
  replace KY := Lib.hid KY
  clear hsz ht
  go_enter Tryd.func9, Tryd.ntmps9
  go_wp2_with fail
  have s1 : (W.alloc (.cells #[.int .i64 2] 3)).heap.size = W.heap.size + 1 := by simp
  have h1 := (Below.heap_alloc (W.alloc (.cells #[.int .i64 2] 3)) (.cells #[.string ⟨#[49]⟩, .string ⟨#[45, 49]⟩] 9) W.heap.size (by omega)).trans (heap_alloc_new W (.cells #[.int .i64 2] 3))
  have h2 := heap_alloc_new (W.alloc (.cells #[.int .i64 2] 3)) (.cells #[.string ⟨#[49]⟩, .string ⟨#[45, 49]⟩] 9)
  rw [s1] at h2
  have hb0 := (box_below W (.cells #[.int .i64 2] 3)).alloc (by omega) (.cells #[.string ⟨#[49]⟩, .string ⟨#[45, 49]⟩] 9)
  have hV : Vl _ (some ⟨W.heap.size, 0, none⟩) 1 (some ⟨W.heap.size + 1, 0, none⟩) 2 [2] two := ⟨Sl.row (l := [2]) h1, St.row (l := two) h2, by omega⟩
  clear h1 h2 s1
  refine (KP.out _ hb0 _ _ hV).mono ?_
  rintro x w1 ⟨a', n', c', rfl, hS, hn', hb1⟩
  have hb2 := hb0.trans (hb1.mono hb0.size)
  clear hV hb0 hb1
  go_wp2_with fail
  have hT2 := Tx.new 29 w1 8 a' n' c' ⟨#[1, 255]⟩
  have hS2 := hS.below (box_below w1 (.cells #[.int .i64 8, .slice a' n' c', .string ⟨#[1, 255]⟩] 29))
  have hb3 := hb2.alloc hb2.size (.cells #[.int .i64 8, .slice a' n' c', .string ⟨#[1, 255]⟩] 29)
  refine (KA.out _ hb3 _ _ _ hS2).mono ?_
  rintro x w2 ⟨rfl, hb⟩
  have hT3 := hT2.on hb
  have hS3 := hS2.below hb
  have hb4 := hb3.trans (hb.mono hb3.size)
  have x0 := hT3.c0
  have x1 := hT3.c1
  have x2 := hT3.c2
  clear hT2 hS2 hb3 hb hS hb2
  go_wp2_with fail
  refine (KM.out _ hb4 _ _ _ hS3).mono ?_
  rintro x w3 ⟨rfl, hb⟩
  have hT4 := hT3.on hb
  have hS4 := hS3.below hb
  have hb5 := hb4.trans (hb.mono hb4.size)
  clear hT3 hS3 hb4 hb x0 x1 x2
  have x0 := hT4.c0
  have x1 := hT4.c1
  have x2 := hT4.c2
  go_wp2_with fail
  refine (KY.out _ hb5 _ _ _ hS4).mono ?_
  rintro x w4 ⟨rfl, hb⟩
  go_wp2_with fail
  go_ret
  exact ⟨rfl, hb5.trans (hb.mono hb5.size)⟩
end Go.Proofs.YtdehcdnbalbdbaaDoor

import Derived.Test.YtogphdflgcdiiaaGreatDoorMas
import Derived.Test.YtogphdflgcdiiaaGreatDoorMax
namespace Go.Proofs.YtogphdflgcdiiaaGreatDoor
set_option linter.unusedVariables false
set_option linter.unusedSimpArgs false
open Go.RowKit

theorem S_toList (x : Int) : (S x).data.toList = Lib.itoa x := rfl
theorem lim_digs {n : Nat} (h : n < lim) : (Lib.decDigits n).length ≤ 100 := (digs_lim n).2 h
theorem S_size {x : Int} (h : x.natAbs < lim) : (S x).size ≤ 101 := by
  have h1 := lim_digs h
  show (Lib.itoa x).toArray.size ≤ 101
  rw [List.size_toArray]
  by_cases hx : x < 0
  · rw [itoa_neg hx, List.length_cons]; omega
  · rw [itoa_pos (by omega)]; omega
def ReadPost (x : Int) (w : World) (e : Ending) (w' : World) : Prop := ∃ P l c, e = .returned (.tuple #[.agg #[.int .i64 x.sign, .slice P (List.length l) c], .bool true]) ∧ (Sz w' P l ∧ Ok l ∧ Norm l ∧ val l = x.natAbs) ∧ Below w.heap.size w w'
def ReadNo (w : World) (e : Ending) (w' : World) : Prop := e = .returned (.tuple #[.agg #[.int .i64 0, .slice none 0 0], .bool false]) ∧ Below w.heap.size w w'
theorem may_yes {x : Int} (h : x.natAbs < lim) (w : World) : Calls Tryz.prog 13 #[.string (S x)] w (MayPost true w) := by
  have h1 := may_any (S x) w (by have := S_size h; unfold maxLen; omega)
  rwa [S_toList, (mayL_itoa x).2 h] at h1
theorem lim_lt : lim ≤ 1000000000 ^ 12 := by
  unfold lim; decide
theorem vals_len {l : List Nat} {n : Nat} (nl : Norm l) (h : val l = n) (hn : n < lim) : l.length ≤ 12 := len_of_val nl h (Nat.lt_of_lt_of_le hn lim_lt)

set_option maxRecDepth 10000 in
set_option maxHeartbeats 1600000 in
theorem read_yes (x : Int) (w : World) (h : x.natAbs < lim) : Calls Tryz.prog 68 #[.string (S x)] w (ReadPost x w) := by
  have hM := fun w => may_yes h w
  have hC := fun w => Tryz.strings_CutPrefix (S x) ⟨#[45]⟩ w
  rw [show (⟨#[45]⟩ : ByteArray).data.toList = [45] from rfl, S_toList] at hC
  have hf := figs_itoa x
  unfold figs at hf
  rw [hf] at hC
  obtain ⟨f, hfe⟩ : ∃ f : ByteArray, f = ⟨(Lib.decDigits x.natAbs).toArray⟩ := ⟨_, rfl⟩
  rw [← hfe] at hC
  have hfd : f.data.toList = Lib.decDigits x.natAbs := by rw [hfe]
  have hfs : f.size = (Lib.decDigits x.natAbs).length := by rw [← hfd]; simp
  have h1 := lim_digs h
  have h2 := decDigits_len_pos x.natAbs
  have hr := fun w => readSize_any f w (by omega) (by omega) (by rw [hfd]; exact decDigits_dig _)
  rw [hfd, dval_decDigits] at hr
  have HR := Lib.hid hr
  have HM := Lib.hid hM
  have HL := Lib.hid h
  obtain ⟨q, hq⟩ : ∃ q, q = x.sign := ⟨_, rfl⟩
  by_cases hx : x < 0
  · have hb : Lib.hasPrefix (Lib.itoa x) [45] = true := by rw [itoa_neg hx]; rfl
    rw [hb] at hC
    have HC := Lib.hid hC
    have hmade := fun w1 P l' c' hP ok nm (hvP : val l' = x.natAbs) => made_to (-1) P l' c' w1 hP ok nm (.inr (.inl rfl)) (Nat.le_trans (vals_len nm hvP h) (by decide)) (z := x) (sz := q) (by rw [hvP]; omega) hq.symm
    have HD := Lib.hid hmade
    have HQ := Lib.hid hq
    clear hr hM hC hf hfe hfd hfs hb hmade h hq
    go_enter Tryz.func68, Tryz.ntmps68
    go_wp2_with fail
    refine (HM.out _).mono ?_
    rintro e w1 ⟨rfl, rfl⟩
    go_wp2_with fail
    refine (HC.out _).mono ?_
    rintro e w1 ⟨rfl, rfl⟩
    go_wp2_with fail
    refine (HR.out _).mono ?_
    rintro e w2 ⟨_, rfl, ⟨P, l, c, rfl, hP, okP, nmP, hvP⟩, hb2⟩
    go_wp2_with fail
    refine (HD.out _ P l c hP okP nmP hvP).mono ?_
    rintro e w3 ⟨P3, l3, c3, rfl, hP3, ok3, nm3, hv3, hb3⟩
    have hB := ((Nb.new w 0 none 0 0).below hb2 (by simp)).below hb3 (Nat.lt_of_lt_of_le (by simp) hb2.size)
    have k0 := hB.c0
    have k1 := hB.c1
    have f0 := hB.f 0
    have f1 := hB.f 1
    have hN := hB.set q P3 l3.length c3
    have hS := hP3.far hB.far (Only.two w.heap.size w3 (.int .i64 q) (.slice P3 l3.length c3))
    have hb : Below w.heap.size w w3 := (((Below.refl _ _).alloc (Nat.le_refl _) _).trans (hb2.mono (by simp))).trans (hb3.mono (Nat.le_trans (by simp) hb2.size))
    have hb' := hb.trans ((Only.two w.heap.size w3 (.int .i64 q) (.slice P3 l3.length c3)).to_below (Nat.le_refl _) hb.size)
    have r0 := hN.c0
    have r1 := hN.c1
    go_wp2_with fail
    exact bodyPost_ret (v := .tuple #[.agg #[.int .i64 q, .slice P3 l3.length c3], .bool true]) (by simp [results, Tryz.results68, go_sem, r0, r1]) rfl ⟨P3, l3, c3, by rw [HQ.out], ⟨hS, ok3, nm3, hv3⟩, hb'⟩
  · have hnb : Lib.hasPrefix (Lib.itoa x) [45] = false := by
      cases hh : Lib.hasPrefix (Lib.itoa x) [45] with
      | false => rfl
      | true =>
        exfalso
        have hl := congrArg List.length hf
        rw [itoa_pos (by omega)] at hh hl
        unfold Lib.trimPrefix at hl
        rw [if_pos hh, List.length_drop] at hl
        simp at hl
        omega
    rw [hnb] at hC
    have HC := Lib.hid hC
    have hSf : S x = f := by rw [hfe]; exact S_pos rfl (by omega)
    rw [← hSf] at HR
    have hmade := fun w1 P l' c' hP ok nm (hvP : val l' = x.natAbs) => made_to 1 P l' c' w1 hP ok nm (.inl rfl) (Nat.le_trans (vals_len nm hvP h) (by decide)) (z := x) (sz := q) (by rw [hvP]; omega) hq.symm
    have HD := Lib.hid hmade
    have HQ := Lib.hid hq
    clear hr hM hC hf hfe hfd hfs hnb hmade h hq hSf
    go_enter Tryz.func68, Tryz.ntmps68
    go_wp2_with fail
    refine (HM.out _).mono ?_
    rintro e w1 ⟨rfl, rfl⟩
    go_wp2_with fail
    refine (HC.out _).mono ?_
    rintro e w1 ⟨rfl, rfl⟩
    go_wp2_with fail
    refine (HR.out _).mono ?_
    rintro e w2 ⟨_, rfl, ⟨P, l, c, rfl, hP, okP, nmP, hvP⟩, hb2⟩
    go_wp2_with fail
    refine (HD.out _ P l c hP okP nmP hvP).mono ?_
    rintro e w3 ⟨P3, l3, c3, rfl, hP3, ok3, nm3, hv3, hb3⟩
    have hB := ((Nb.new w 0 none 0 0).below hb2 (by simp)).below hb3 (Nat.lt_of_lt_of_le (by simp) hb2.size)
    have k0 := hB.c0
    have k1 := hB.c1
    have f0 := hB.f 0
    have f1 := hB.f 1
    have hN := hB.set q P3 l3.length c3
    have hS := hP3.far hB.far (Only.two w.heap.size w3 (.int .i64 q) (.slice P3 l3.length c3))
    have hb : Below w.heap.size w w3 := (((Below.refl _ _).alloc (Nat.le_refl _) _).trans (hb2.mono (by simp))).trans (hb3.mono (Nat.le_trans (by simp) hb2.size))
    have hb' := hb.trans ((Only.two w.heap.size w3 (.int .i64 q) (.slice P3 l3.length c3)).to_below (Nat.le_refl _) hb.size)
    have r0 := hN.c0
    have r1 := hN.c1
    go_wp2_with fail
    exact bodyPost_ret (v := .tuple #[.agg #[.int .i64 q, .slice P3 l3.length c3], .bool true]) (by simp [results, Tryz.results68, go_sem, r0, r1]) rfl ⟨P3, l3, c3, by rw [HQ.out], ⟨hS, ok3, nm3, hv3⟩, hb'⟩
theorem read_no (s : ByteArray) (w : World) (hs : s.size ≤ maxLen) (h : mayL s.data.toList = false) : Calls Tryz.prog 68 #[.string s] w (ReadNo w) := by
  have hM := fun w => may_any s w hs
  rw [h] at hM
  have HM := Lib.hid hM
  clear hM h
  go_enter Tryz.func68, Tryz.ntmps68
  go_wp2_with fail
  refine (HM.out _).mono ?_
  rintro e w1 ⟨rfl, rfl⟩
  have hN := Nb.new w 0 none 0 0
  have r0 := hN.c0
  have r1 := hN.c1
  go_wp2_with fail
  exact bodyPost_ret (v := .tuple #[.agg #[.int .i64 0, .slice none 0 0], .bool false]) (by simp [results, Tryz.results68, go_sem]) rfl ⟨rfl, (Below.refl _ _).alloc (Nat.le_refl _) _⟩
end Go.Proofs.YtogphdflgcdiiaaGreatDoor

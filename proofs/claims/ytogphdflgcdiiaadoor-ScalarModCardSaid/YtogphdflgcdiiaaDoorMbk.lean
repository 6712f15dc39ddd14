import Derived.Test.YtogphdflgcdiiaaDoorMbi
import Derived.BigQuiet
/-
  What is known of a sign, whether it is whole, its unit; the signs, as texts.
-/
namespace Go.Proofs.YtogphdflgcdiiaaDoor
set_option linter.unusedVariables false
set_option linter.unusedSimpArgs false
open Go.RowKit

/-- A box with a sign's row in it. -/
def Sg (W : World) (g : Nat) (a : ByteArray) (b : Bool) (c : ByteArray) : Prop := W.heap[g]? = some (.cells #[.string a, .bool b, .string c] 51 (0, 0))
section
variable {W W' : World} {g : Nat} {a c : ByteArray} {b : Bool}
theorem Sg.lt (h : Sg W g a b c) : g < W.heap.size := (Array.getElem?_eq_some_iff.1 h).1
theorem Sg.c0 (h : Sg W g a b c) : W.cell? ⟨g, 0, none⟩ = some (.string a) := by rw [cell_of_row _ _ 0 _ _ _ h]; rfl
theorem Sg.c1 (h : Sg W g a b c) : W.cell? ⟨g, 1, none⟩ = some (.bool b) := by rw [cell_of_row _ _ 1 _ _ _ h]; rfl
theorem Sg.c2 (h : Sg W g a b c) : W.cell? ⟨g, 2, none⟩ = some (.string c) := by rw [cell_of_row _ _ 2 _ _ _ h]; rfl
theorem Sg.fz (h : Sg W g a b c) (i : Nat) : W.frozen? ⟨g, i, none⟩ = false := frozen_of_row _ _ i _ _ h
theorem Sg.on (h : Sg W g a b c) {B : Nat} (hb : Below B W W') (hg : g < B) : Sg W' g a b c := (hb.block g hg).trans h
theorem Sg.alloc (h : Sg W g a b c) (o : Obj) : Sg (W.alloc o) g a b c := (Below.heap_alloc W o g h.lt).trans h
theorem Sg.new (W : World) (a : ByteArray) (b : Bool) (c : ByteArray) : Sg (W.alloc (.cells #[.string a, .bool b, .string c] 51)) W.heap.size a b c := heap_alloc_new W _
theorem Sg.set (h : Sg W g a b c) (a' : ByteArray) (b' : Bool) (c' : ByteArray) : Sg (((W.setCell ⟨g, 0, none⟩ (.string a')).setCell ⟨g, 1, none⟩ (.bool b')).setCell ⟨g, 2, none⟩ (.string c')) g a' b' c' := by
  unfold Sg at *
  simp [World.setCell, Array.getElem?_modify, h]
end
theorem dS_nil {k : Nat} (hk : ¬ k < 11) : dS k = ⟨#[]⟩ := by
  unfold dS
  rw [List.getD_eq_getElem?_getD, List.getElem?_eq_none (by simp; omega)]; rfl
theorem dix (W : World) (k : Nat) (hk : k < 11) : (Instr.index 52 (.agg drow) (.int .i64 k)).run Tryd.prog W = .ok (.agg #[.string (dS k), .bool (dW k), .string (dU k)]) W := by
  obtain rfl | rfl | rfl | rfl | rfl | rfl | rfl | rfl | rfl | rfl | rfl : k = 0 ∨ k = 1 ∨ k = 2 ∨ k = 3 ∨ k = 4 ∨ k = 5 ∨ k = 6 ∨ k = 7 ∨ k = 8 ∨ k = 9 ∨ k = 10 := by omega
  all_goals kernel_rfl
theorem dS_kd (k : Nat) (hk : k < 11) : kdL (dS k).data.toList = k := by
  obtain rfl | rfl | rfl | rfl | rfl | rfl | rfl | rfl | rfl | rfl | rfl : k = 0 ∨ k = 1 ∨ k = 2 ∨ k = 3 ∨ k = 4 ∨ k = 5 ∨ k = 6 ∨ k = 7 ∨ k = 8 ∨ k = 9 ∨ k = 10 := by omega
  all_goals decide
theorem kd_le (l : List UInt8) : kdL l ≤ 11 := by
  unfold kdL
  repeat' split
  all_goals omega
theorem dS_of {op : ByteArray} {k : Nat} (h : kdL op.data.toList = k) (hk : k < 11) : dS k = op := by
  rcases kdL_inv h with ⟨rfl, e⟩ | ⟨rfl, e⟩ | ⟨rfl, e⟩ | ⟨rfl, e⟩ | ⟨rfl, e⟩ | ⟨rfl, e⟩ | ⟨rfl, e⟩ | ⟨rfl, e⟩ | ⟨rfl, e⟩ | ⟨rfl, e⟩ | ⟨rfl, e⟩ | ⟨rfl, e, _⟩
  all_goals first | exact absurd hk (by decide) | (obtain ⟨⟨d⟩⟩ := op; have e : d = _ := e; subst e; rfl)
def KnIs (op : ByteArray) (k : Nat) : Prop := ∀ w, SC w → Calls Tryd.prog 22 #[.string op] w fun e w' => e = .returned (.agg #[.string (dS k), .bool (dW k), .string (dU k)]) ∧ Below w.heap.size w w'
set_option maxRecDepth 10000 in
set_option maxHeartbeats 3200000 in
theorem known_any (op : ByteArray) : KnIs op (kdL op.data.toList) := by
  intro W hw
  obtain ⟨k0, hk0⟩ : ∃ k0, kdL op.data.toList = k0 := ⟨_, rfl⟩
  rw [hk0]
  have HK := Lib.hid hk0
  obtain ⟨tt, fr, hg⟩ := hw.dy
  have hR := Sg.new W ⟨#[]⟩ false ⟨#[]⟩
  have hB : Below W.heap.size W (W.alloc (.cells #[.string ⟨#[]⟩, .bool false, .string ⟨#[]⟩] 51)) := (Below.refl _ _).alloc (Nat.le_refl _) _
  have hgl := (Array.getElem?_eq_some_iff.1 hg).1
  have hg1 := (hB.block _ hgl).trans hg
  have HR := Lib.hid hR
  have HB := Lib.hid hB
  obtain ⟨dr, hdr⟩ : ∃ dr, drow = dr := ⟨_, rfl⟩
  have HI : Hid (∀ (W : World) (k : Nat), k < 11 → (Instr.index 52 (.agg dr) (.int .i64 k)).run Tryd.prog W = .ok (.agg #[.string (dS k), .bool (dW k), .string (dU k)]) W) := Lib.hid (by rw [← hdr]; exact dix)
  have hds : (Tryd.prog.info? 52).map (·.size) = some dr.size := by rw [← hdr]; kernel_rfl
  rw [hdr] at hg1
  have hz := Tryd.zeroValue51
  clear hk0 hg hw hdr hR hB hgl
  go_enter Tryd.func22, Tryd.ntmps22
  go_wp2_with (refine wpList_load_row rfl 52 _ rfl 0 rfl tt dr fr _ hg1 Tryd.underlying52 rfl hds ?_)
  go_loopw [6] (fun iv wr => ∃ k : Nat, iv = .int .i64 k ∧ k ≤ 11 ∧ Hid (∀ j, j < k → dS j ≠ op) ∧ Sg wr W.heap.size ⟨#[]⟩ false ⟨#[]⟩ ∧ Below W.heap.size W wr) (fun iv _ => 11 - (intOf iv).toNat)
  case atStart => exact ⟨0, rfl, by omega, Lib.hid (fun j hj => absurd hj (by omega)), HR.out, HB.out⟩
  case round =>
    clear HR HB hg1
    obtain ⟨k, rfl, hk, hno, hR, hB⟩ := hrel
    by_cases hlt : k < 11
    · have hix := fun W => HI.out W k hlt
      have e2 : (k : Int) < 11 := by omega
      by_cases he : dS k = op
      · have hkk : k = k0 := by rw [← HK.out, ← he]; exact (dS_kd k hlt).symm
        have HKK := Lib.hid hkk
        have hgS : (dS k).toList = op.toList := by rw [he]
        obtain ⟨vS, hvS⟩ : ∃ v, dS k = v := ⟨_, rfl⟩
        obtain ⟨vW, hvW⟩ : ∃ v, dW k = v := ⟨_, rfl⟩
        obtain ⟨vU, hvU⟩ : ∃ v, dU k = v := ⟨_, rfl⟩
        rw [hvS, hvW, hvU] at hix
        rw [hvS] at hgS
        have HV := Lib.hid (show dS k = vS ∧ dW k = vW ∧ dU k = vU from ⟨hvS, hvW, hvU⟩)
        clear hvS hvW hvU he hkk hno
        have hX := Sg.new wr vS vW vU
        have hRX := hR.alloc (.cells #[.string vS, .bool vW, .string vU] 51)
        have hBX := hB.alloc hB.size (.cells #[.string vS, .bool vW, .string vU] 51)
        have x0 := hX.c0
        have x1 := hX.c1
        have x2 := hX.c2
        have z0 := hRX.c0
        have z1 := hRX.c1
        have z2 := hRX.c2
        have f0 := hRX.fz 0
        have f1 := hRX.fz 1
        have f2 := hRX.fz 2
        have hRS := hRX.set vS vW vU
        have HRS := Lib.hid hRS
        have HBS := Lib.hid (((hBX.setCell (p := ⟨W.heap.size, 0, none⟩) (Nat.le_refl _) (.string vS)).setCell (p := ⟨W.heap.size, 1, none⟩) (Nat.le_refl _) (.bool vW)).setCell (p := ⟨W.heap.size, 2, none⟩) (Nat.le_refl _) (.string vU))
        clear hRS hBX hRX hX hR hB
        go_wp2_with fail
        obtain ⟨g1, g2, g3⟩ := HV.out
        generalize World.setCell _ _ _ = w9 at *
        refine bodyPost_ret (results_cell_row (by rfl) _ _ W.heap.size _ _ _ _ rfl HRS.out Tryd.underlying51 rfl (by kernel_rfl)) rfl ?_
        refine ⟨?_, HBS.out⟩
        rw [← HKK.out, g1, g2, g3]
      · have hgS : ((dS k).toList == op.toList) = false := beq_eq_false_iff_ne.2 fun e => he (toList_inj e)
        have hno' := Lib.hid (show ∀ j, j < k + 1 → dS j ≠ op from fun j hj => by
          rcases Nat.lt_or_ge j k with h | h
          · exact hno.out j h
          · obtain rfl : j = k := by omega
            exact he)
        obtain ⟨vS, hvS⟩ : ∃ v, dS k = v := ⟨_, rfl⟩
        obtain ⟨vW, hvW⟩ : ∃ v, dW k = v := ⟨_, rfl⟩
        obtain ⟨vU, hvU⟩ : ∃ v, dU k = v := ⟨_, rfl⟩
        rw [hvS, hvW, hvU] at hix
        rw [hvS] at hgS
        clear hvS hvW hvU he hno
        have hX := Sg.new wr vS vW vU
        have hRX := hR.alloc (.cells #[.string vS, .bool vW, .string vU] 51)
        have hBX := hB.alloc hB.size (.cells #[.string vS, .bool vW, .string vU] 51)
        have x0 := hX.c0
        have x1 := hX.c1
        have x2 := hX.c2
        have HRX := Lib.hid hRX
        have HBX := Lib.hid hBX
        clear hX hRX hBX hR hB
        go_wp2_with fail
        go_roundw
        case rel => exact ⟨k + 1, by go_num, by omega, hno', HRX.out, HBX.out⟩
        case measure => simp [intOf]; omega
    · obtain rfl : k = 11 := by omega
      have h11 : k0 = 11 := by
        have h1 := kd_le op.data.toList
        rw [HK.out] at h1
        rcases Nat.lt_or_ge k0 11 with h | h
        · exact absurd (dS_of HK.out h) (hno.out k0 h)
        · omega
      have H11 := Lib.hid h11
      have hRS := hR.set ⟨#[]⟩ false ⟨#[]⟩
      have HRS := Lib.hid hRS
      have HBS := Lib.hid (((hB.setCell (p := ⟨W.heap.size, 0, none⟩) (Nat.le_refl _) (.string ⟨#[]⟩)).setCell (p := ⟨W.heap.size, 1, none⟩) (Nat.le_refl _) (.bool false)).setCell (p := ⟨W.heap.size, 2, none⟩) (Nat.le_refl _) (.string ⟨#[]⟩))
      have z0 := hR.c0
      have z1 := hR.c1
      have z2 := hR.c2
      have f0 := hR.fz 0
      have f1 := hR.fz 1
      have f2 := hR.fz 2
      clear hRS hR hB h11 hno
      go_wp2_with fail
      refine bodyPost_ret (results_cell_row (by rfl) _ _ W.heap.size _ _ _ _ rfl HRS.out Tryd.underlying51 rfl (by kernel_rfl)) rfl ?_
      refine ⟨?_, HBS.out⟩
      rw [H11.out]
      rfl
set_option maxRecDepth 10000 in
set_option maxHeartbeats 3200000 in
theorem whole_is (op : ByteArray) (k : Nat) (HK : KnIs op k) (b : Bool) (hb : dW k = b) : WhIs op b := by
  intro w hw
  have KK := Lib.hid HK
  obtain ⟨vS, hvS⟩ : ∃ v, dS k = v := ⟨_, rfl⟩
  obtain ⟨vU, hvU⟩ : ∃ v, dU k = v := ⟨_, rfl⟩
  have hf : ∀ W : World, (Instr.field 51 (.agg #[.string vS, .bool b, .string vU]) 1).run Tryd.prog W = .ok (.bool b) W := fun W => by kernel_rfl
  unfold KnIs at KK
  rw [hvS, hvU, hb] at KK
  clear HK hvS hvU hb
  go_enter Tryd.func13, Tryd.ntmps13
  go_wp2_with fail
  refine (KK.out _ hw).mono ?_
  rintro e w1 ⟨rfl, hb⟩
  go_wp2_with fail
  go_ret
  exact ⟨rfl, hb⟩
theorem wh_ok : WhOk := by
  intro op _
  refine whole_is op _ (known_any op) _ ?_
  have h := kd_le op.data.toList
  generalize kdL op.data.toList = k at *
  obtain rfl | rfl | rfl | rfl | rfl | rfl | rfl | rfl | rfl | rfl | rfl | rfl : k = 0 ∨ k = 1 ∨ k = 2 ∨ k = 3 ∨ k = 4 ∨ k = 5 ∨ k = 6 ∨ k = 7 ∨ k = 8 ∨ k = 9 ∨ k = 10 ∨ k = 11 := by omega
  all_goals rfl
set_option maxRecDepth 10000 in
set_option maxHeartbeats 3200000 in
theorem unit_is (op : ByteArray) (k : Nat) (HK : KnIs op k) (u : ByteArray) (hu : dU k = u) (b : Bool) (hb : (b = true ∧ ¬ u.toList = []) ∨ (b = false ∧ u.toList = [])) : UnIs op u b := by
  intro w hw
  have KK := Lib.hid HK
  obtain ⟨vS, hvS⟩ : ∃ v, dS k = v := ⟨_, rfl⟩
  obtain ⟨vW, hvW⟩ : ∃ v, dW k = v := ⟨_, rfl⟩
  have hf : ∀ W : World, (Instr.field 51 (.agg #[.string vS, .bool vW, .string u]) 2).run Tryd.prog W = .ok (.string u) W := fun W => by kernel_rfl
  unfold KnIs at KK
  rw [hvS, hvW, hu] at KK
  clear HK hvS hvW hu
  rcases hb with ⟨rfl, hb⟩ | ⟨rfl, hb⟩
  · replace hb : u.toList.isEmpty = false := by cases h : u.toList <;> simp_all
    go_enter Tryd.func14, Tryd.ntmps14
    go_wp2_with fail
    refine (KK.out _ hw).mono ?_
    rintro e w1 ⟨rfl, hb⟩
    go_wp2_with fail
    go_ret2
    exact ⟨rfl, hb⟩
  · replace hb : u.toList.isEmpty = true := by rw [hb]; rfl
    go_enter Tryd.func14, Tryd.ntmps14
    go_wp2_with fail
    refine (KK.out _ hw).mono ?_
    rintro e w1 ⟨rfl, hb⟩
    go_wp2_with fail
    go_ret2
    exact ⟨rfl, hb⟩
theorem un_ok : UnOk := by
  intro op _
  obtain ⟨k, hk⟩ : ∃ k, kdL op.data.toList = k := ⟨_, rfl⟩
  have h := unit_is op _ (known_any op)
  rw [hk] at h
  rcases kdL_inv hk with ⟨rfl, e⟩ | ⟨rfl, e⟩ | ⟨rfl, e⟩ | ⟨rfl, e⟩ | ⟨rfl, e⟩ | ⟨rfl, e⟩ | ⟨rfl, e⟩ | ⟨rfl, e⟩ | ⟨rfl, e⟩ | ⟨rfl, e⟩ | ⟨rfl, e⟩ | ⟨rfl, h0, h1, h2, _⟩
  · rw [e]; exact h ⟨#[48]⟩ rfl true (.inl ⟨rfl, by rw [str_tl]; decide⟩)
  · rw [e]; exact h ⟨#[]⟩ rfl false (.inr ⟨rfl, by rw [str_tl]⟩)
  · rw [e]; exact h ⟨#[49]⟩ rfl true (.inl ⟨rfl, by rw [str_tl]; decide⟩)
  · rw [e]; exact h ⟨#[]⟩ rfl false (.inr ⟨rfl, by rw [str_tl]⟩)
  · rw [e]; exact h ⟨#[]⟩ rfl false (.inr ⟨rfl, by rw [str_tl]⟩)
  · rw [e]; exact h ⟨#[]⟩ rfl false (.inr ⟨rfl, by rw [str_tl]⟩)
  · rw [e]; exact h ⟨#[]⟩ rfl false (.inr ⟨rfl, by rw [str_tl]⟩)
  · rw [e]; exact h ⟨#[]⟩ rfl false (.inr ⟨rfl, by rw [str_tl]⟩)
  · rw [e]; exact h ⟨#[]⟩ rfl false (.inr ⟨rfl, by rw [str_tl]⟩)
  · rw [e]; exact h ⟨#[]⟩ rfl false (.inr ⟨rfl, by rw [str_tl]⟩)
  · rw [e]; exact h ⟨#[]⟩ rfl false (.inr ⟨rfl, by rw [str_tl]⟩)
  · rw [if_neg h0, if_neg h2, decide_eq_false h0, decide_eq_false h2]
    exact h ⟨#[]⟩ rfl false (.inr ⟨rfl, by rw [str_tl]⟩)
/-- The first k signs, in their turn. -/
def dC (k : Nat) : ByteArray := ⟨(([43, 45, 42, 37, 33, 38, 124, 60, 62, 61, 126] : List UInt8).take k).toArray⟩
theorem dC_step {k : Nat} (hk : k < 11) : dC k ++ dS k = dC (k + 1) ∧ (dC k).size = k ∧ (dS k).size = 1 := by
  obtain rfl | rfl | rfl | rfl | rfl | rfl | rfl | rfl | rfl | rfl | rfl : k = 0 ∨ k = 1 ∨ k = 2 ∨ k = 3 ∨ k = 4 ∨ k = 5 ∨ k = 6 ∨ k = 7 ∨ k = 8 ∨ k = 9 ∨ k = 10 := by omega
  all_goals exact ⟨by decide, by decide, by decide⟩
set_option maxRecDepth 10000 in
set_option maxHeartbeats 3200000 in
theorem ds_ok : DsIs := by
  intro W hw
  obtain ⟨tt, fr, hg1⟩ := hw.dy
  obtain ⟨dr, hdr⟩ : ∃ dr, drow = dr := ⟨_, rfl⟩
  have HI : Hid (∀ (W : World) (k : Nat), k < 11 → (Instr.index 52 (.agg dr) (.int .i64 k)).run Tryd.prog W = .ok (.agg #[.string (dS k), .bool (dW k), .string (dU k)]) W) := Lib.hid (by rw [← hdr]; exact dix)
  have hds : (Tryd.prog.info? 52).map (·.size) = some dr.size := by rw [← hdr]; kernel_rfl
  rw [hdr] at hg1
  have hz := Tryd.zeroValue51
  clear hw hdr
  go_enter Tryd.func12, Tryd.ntmps12
  go_wp2_with (refine wpList_load_row rfl 52 _ rfl 0 rfl tt dr fr _ hg1 Tryd.underlying52 rfl hds ?_)
  go_loopw [1, 5] (fun sv iv wr => ∃ k : Nat, iv = .int .i64 k ∧ k ≤ 11 ∧ sv = .string (dC k) ∧ Below W.heap.size W wr) (fun _ iv _ => 11 - (intOf iv).toNat)
  case atStart => exact ⟨0, rfl, by omega, rfl, Below.refl _ _⟩
  case round =>
    clear hg1
    obtain ⟨k, rfl, hk, rfl, hB⟩ := hrel
    by_cases hlt : k < 11
    · have hix := fun W => HI.out W k hlt
      have e2 : (k : Int) < 11 := by omega
      obtain ⟨hc1, hc2, hc3⟩ := dC_step hlt
      obtain ⟨vS, hvS⟩ : ∃ v, dS k = v := ⟨_, rfl⟩
      obtain ⟨vW, hvW⟩ : ∃ v, dW k = v := ⟨_, rfl⟩
      obtain ⟨vU, hvU⟩ : ∃ v, dU k = v := ⟨_, rfl⟩
      obtain ⟨vC, hvC⟩ : ∃ v, dC k = v := ⟨_, rfl⟩
      rw [hvS, hvW, hvU] at hix
      rw [hvS, hvC] at hc1
      rw [hvC] at hc2
      rw [hvS] at hc3
      rw [hvC]
      have hs : vC.size + vS.size ≤ 12 := by omega
      have hs1 : vC.size ≤ 12 := by omega
      have hs2 : vS.size ≤ 12 := by omega
      have HC := Lib.hid hc1
      clear hvS hvW hvU hvC hc1 hc2 hc3
      have hX := Sg.new wr vS vW vU
      have hBX := hB.alloc hB.size (.cells #[.string vS, .bool vW, .string vU] 51)
      have x0 := hX.c0
      have x1 := hX.c1
      have x2 := hX.c2
      have HBX := Lib.hid hBX
      clear hX hBX hB
      go_wp2_with fail
      go_roundw
      case rel => exact ⟨k + 1, by go_num, by omega, by rw [HC.out], HBX.out⟩
      case measure => simp [intOf]; omega
    · obtain rfl : k = 11 := by omega
      go_wp2_with fail
      go_ret
      exact ⟨rfl, hB⟩
def mS (k : Nat) : ByteArray := [(⟨#[45]⟩ : ByteArray), ⟨#[126]⟩, ⟨#[42]⟩].getD k ⟨#[]⟩
def mC (k : Nat) : ByteArray := ⟨(([45, 126, 42] : List UInt8).take k).toArray⟩
theorem mC_step {k : Nat} (hk : k < 3) : mC k ++ mS k = mC (k + 1) ∧ (mC k).size = k ∧ (mS k).size = 1 := by
  obtain rfl | rfl | rfl : k = 0 ∨ k = 1 ∨ k = 2 := by omega
  all_goals exact ⟨by decide, by decide, by decide⟩
theorem mix (W : World) (k : Nat) (hk : k < 3) : (Instr.index 58 (.agg mrow) (.int .i64 k)).run Tryd.prog W = .ok (.string (mS k)) W := by
  obtain rfl | rfl | rfl : k = 0 ∨ k = 1 ∨ k = 2 := by omega
  all_goals kernel_rfl
set_option maxRecDepth 10000 in
set_option maxHeartbeats 3200000 in
theorem ms_ok : MsIs := by
  intro W hw
  obtain ⟨tt, fr, hg1⟩ := hw.mo
  obtain ⟨dr, hdr⟩ : ∃ dr, mrow = dr := ⟨_, rfl⟩
  have HI : Hid (∀ (W : World) (k : Nat), k < 3 → (Instr.index 58 (.agg dr) (.int .i64 k)).run Tryd.prog W = .ok (.string (mS k)) W) := Lib.hid (by rw [← hdr]; exact mix)
  have hds : (Tryd.prog.info? 58).map (·.size) = some dr.size := by rw [← hdr]; kernel_rfl
  rw [hdr] at hg1
  clear hw hdr
  go_enter Tryd.func16, Tryd.ntmps16
  go_wp2_with (refine wpList_load_row rfl 58 _ rfl 1 rfl tt dr fr _ hg1 Tryd.underlying58 rfl hds ?_)
  go_loopw [1, 5] (fun sv iv wr => ∃ k : Nat, iv = .int .i64 k ∧ k ≤ 3 ∧ sv = .string (mC k) ∧ wr = W) (fun _ iv _ => 3 - (intOf iv).toNat)
  case atStart => exact ⟨0, rfl, by omega, rfl, rfl⟩
  case round =>
    obtain ⟨k, rfl, hk, rfl, rfl⟩ := hrel
    by_cases hlt : k < 3
    · have hix := fun W => HI.out W k hlt
      have e2 : (k : Int) < 3 := by omega
      obtain ⟨hc1, hc2, hc3⟩ := mC_step hlt
      obtain ⟨vS, hvS⟩ : ∃ v, mS k = v := ⟨_, rfl⟩
      obtain ⟨vC, hvC⟩ : ∃ v, mC k = v := ⟨_, rfl⟩
      rw [hvS] at hix
      rw [hvS, hvC] at hc1
      rw [hvC] at hc2
      rw [hvS] at hc3
      rw [hvC]
      have hs : vC.size + vS.size ≤ 12 := by omega
      have hs1 : vC.size ≤ 12 := by omega
      have hs2 : vS.size ≤ 12 := by omega
      have HC := Lib.hid hc1
      clear hvS hvC hc1 hc2 hc3
      go_wp2_with fail
      go_roundw
      case rel => exact ⟨k + 1, by go_num, by omega, by rw [HC.out], by first | rfl | trivial⟩
      case measure => simp [intOf]; omega
    · obtain rfl : k = 3 := by omega
      go_wp2_with fail
      go_ret
      exact ⟨rfl, Below.refl _ _⟩
end Go.Proofs.YtogphdflgcdiiaaDoor

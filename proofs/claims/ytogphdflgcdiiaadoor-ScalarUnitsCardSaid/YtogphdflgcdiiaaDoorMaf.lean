import Derived.Test.YtogphdflgcdiiaaDoorMae
import Derived.Laws.CopyOwn
namespace Go.Proofs.YtogphdflgcdiiaaDoor
set_option linter.unusedVariables false
set_option linter.unusedSimpArgs false
open Go.RowKit

theorem info32 : (Tryd.prog.info? 74).map (fun i => (i.zero, i.size, i.bytes)) = some (some (.int .u32 0), 1, 4) := by kernel_rfl
theorem info32s : (Tryd.prog.info? 74).map (·.size) = some 1 := by kernel_rfl

/-- make(size, n). -/
theorem run_mk (n : Nat) (hn : n ≤ 1000000) (w : World) :
    (Instr.makeSlice 44 (.int .i64 (n : Int)) (.int .i64 (n : Int))).run Tryd.prog w = .ok (.slice (some ⟨w.heap.size, 0, none⟩) n n) (w.alloc (.cells (madeCells #[.int .u32 0] n) 74)) :=
  run_make_row' 44 74 _ 4 Tryd.underlying44 info32 rfl _ _ n (by omega) (by omega) w
theorem run_mkz (n : Nat) (z : Int) (hz : z = (n : Int)) (hn : n ≤ 1000000) (w : World) :
    (Instr.makeSlice 44 (.int .i64 z) (.int .i64 z)).run Tryd.prog w = .ok (.slice (some ⟨w.heap.size, 0, none⟩) n n) (w.alloc (.cells (madeCells #[.int .u32 0] n) 74)) := by
  subst hz; exact run_mk n hn w
theorem Rw.made (w : World) (n : Nat) : Rw (w.alloc (.cells (madeCells #[.int .u32 0] n) 74)) w.heap.size n (fun _ => 0) := World.rowIs_made w _ n _

/-- copy(d, s), d a whole row of the call's own. -/
def over (l : List Nat) (F : Nat → Nat) : Nat → Nat := fun j => if j < l.length then l.getD j 0 else F j
theorem wpList_copy_sz {w : World} {ops : Array Oper} {rest : List Oper} {o : Oper} {a : Act} {Q : Exit → Act → World → Prop} (hgd : o.guard = none) (d s : Operand)
    (ho : o.op = .call { callee := .builtin .copy, args := #[d, s], argTypes := #[44, 44] }) (g n ca : Nat) (F : Nat → Nat) (A : Option Addr) (l : List Nat) (c : Nat)
    (hd : a.eval d = .slice (some ⟨g, 0, none⟩) n ca) (hs : a.eval s = .slice A l.length c) (hR : Rw w g n F) (hS : Sz w A l) (hle : l.length ≤ n)
    (h : ∀ w', Rw w' g n (over l F) → Only g w w' → wpList Tryd.prog ops Q rest (a.put o.dst (goInt l.length)) w') : wpList Tryd.prog ops Q (o :: rest) a w := by
  by_cases h0 : l = []
  · subst h0
    refine wpList_copy_nothing hgd d s _ _ ho 74 Tryd.underlying44 info32s _ _ _ _ _ _ hd hs (by simp) ?_
    exact h w (hR.congr fun j _ => by simp [over]) (Only.refl _ _)
  · obtain ⟨b, o', rfl, hlt, hcell⟩ := hS.at_ h0
    obtain ⟨cur, hg, hsz, hc⟩ := hR
    have hlen : (l.map fun p => Value.int .u32 (p : Nat)).length = l.length := by simp
    refine wpList_copy_own hgd d s _ _ ho 74 Tryd.underlying44 info32s g 0 n ca ⟨b, o', none⟩ l.length c hd hs cur 74 hg (l.map fun p => Value.int .u32 (p : Nat)) (by rw [hlen]; exact (Nat.min_eq_left hle).symm) ?_ (by rw [hlen]; omega) (by simp [Value.oneCell']) ?_
    · intro j v hj
      simp only [List.getElem?_map, Option.map_eq_some_iff] at hj
      obtain ⟨p, hp, rfl⟩ := hj
      obtain ⟨hjl, rfl⟩ := List.getElem?_eq_some_iff.1 hp
      rw [show (⟨b, o', none⟩ : Addr).add j = ⟨b, o' + j, none⟩ by unfold Addr.add; split <;> simp_all]; exact hcell j hjl
    · rw [hlen]
      refine h _ ⟨_, setRow_heap w g _ _ _ _ hg, by simp; omega, fun i hi => ?_⟩ ⟨rfl, rfl, rfl, by simp [World.setRow], fun k _ hk => setRow_other w g k _ (by intro e; exact hk (by rw [e]))⟩
      show _ = some (Value.int .u32 ((if i < l.length then l.getD i 0 else F i : Nat) : Int))
      by_cases hi2 : i < l.length
      · rw [if_pos hi2]
        simp [hi2, List.getElem?_append_left]
      · rw [if_neg hi2]
        simp only [List.take_zero, List.nil_append, List.getElem?_toArray, Nat.zero_add]
        rw [List.getElem?_append_right (by simp; omega), List.getElem?_drop]
        simp only [List.length_map]
        rw [show l.length + (i - l.length) = i by omega]
        have := hc i hi
        simpa using this
theorem vf_over (l : List Nat) (F : Nat → Nat) : vf (over l F) 0 l.length = val l := by
  rw [← val_lst]
  congr 1
  refine List.ext_getElem (by simp [lst]) fun i h1 h2 => ?_
  rw [lst_get, Nat.zero_add]
  unfold over
  rw [if_pos h2, List.getD_eq_getElem?_getD, List.getElem?_eq_getElem h2]; rfl
theorem vf_over_zero (l : List Nat) {n : Nat} (h : l.length ≤ n) : vf (over l (fun _ => 0)) 0 n = val l := by
  obtain ⟨k, rfl⟩ : ∃ k, n = l.length + k := ⟨n - l.length, by omega⟩
  rw [vf_split, vf_over]
  have : vf (over l (fun _ => 0)) (0 + l.length) k = 0 := by
    rw [vf_congr (G := fun _ => 0) (fun j h1 h2 => by unfold over; rw [if_neg (by omega)])]
    have : ∀ o k, vf (fun _ => 0) o k = 0 := by
      intro o k
      induction k with
      | zero => rfl
      | succ k ih => simp [vf, ih]
    exact this _ _
  rw [this]; simp
theorem over_ok {l : List Nat} {F : Nat → Nat} (ol : Ok l) (h : ∀ j, l.length ≤ j → F j < 1000000000) (j : Nat) : over l F j < 1000000000 := by
  unfold over; split
  · exact ok_getD ol j
  · exact h j (by omega)

/-- A size: a slice of parts without zeros at its end, whose value is x. -/
def SzN (w : World) (v : Value) (x : Nat) : Prop := ∃ A l c, v = .slice A l.length c ∧ Sz w A l ∧ Ok l ∧ Norm l ∧ val l = x
theorem SzN.of_row {w : World} {g N : Nat} {F : Nat → Nat} (h : Rw w g N F) (o n c : Nat) (hn : o + n ≤ N) (hF : ∀ j, o ≤ j → j < o + n → F j < 1000000000) :
    SzN w (.slice (some ⟨g, o, none⟩) (trim (lst F o n)).length c) (vf F o n) := by
  refine ⟨_, trim (lst F o n), c, rfl, .inr ⟨g, o, rfl, h.lt, fun i hi => ?_⟩, ok_trim (lst_ok hF), norm_trim _, by rw [val_trim, val_lst]⟩
  have h1 := trim_le (lst F o n)
  rw [lst_length] at h1
  rw [h.cell (i := o + i) (by omega)]
  have h2 : (trim (lst F o n))[i] = F (o + i) := by
    have h3 : (trim (lst F o n))[i]? = ((lst F o n).take (trim (lst F o n)).length)[i]? := by rw [← trim_take]
    rw [List.getElem?_take_of_lt hi, List.getElem?_eq_getElem hi, List.getElem?_eq_getElem (by rw [lst_length]; omega), lst_get] at h3
    exact Option.some.inj h3
  rw [h2]

theorem trimmed_row (g o n c N : Nat) (F : Nat → Nat) (w : World) (hR : Rw w g N F) (hn : o + n ≤ N) (hF : ∀ j, o ≤ j → j < o + n → F j < 1000000000) (hc : n ≤ c) (hm : c ≤ maxLen) :
    Calls Tryd.prog 62 #[.slice (some ⟨g, o, none⟩) n c] w fun e w' => e = .returned (.slice (some ⟨g, o, none⟩) (trim (lst F o n)).length c) ∧ w = w' := by
  have h := trimmed_any (some ⟨g, o, none⟩) (lst F o n) c w (hR.sz o n hn) (by rw [lst_length]; exact hc) hm
  rwa [lst_length] at h
theorem SzN.conv {w : World} {v : Value} {x y : Nat} (h : SzN w v x) (e : x = y) : SzN w v y := e ▸ h
theorem raise_end {F F' : Nat → Nat} {m : List Nat} {o n c x : Nat} (h : RaiseInv F m o n c F') (hm : m.length ≤ n) (hx : vf F o n + val m = x) (hlt : x < 1000000000 ^ n) : vf F' o n = x ∧ c = 0 := by
  have e := h.eq
  rw [List.take_of_length_le hm, hx] at e
  have : c = 0 := by
    rcases Nat.eq_zero_or_pos c with h0 | h0
    · exact h0
    · have : 1000000000 ^ n * 1 ≤ 1000000000 ^ n * c := Nat.mul_le_mul_left _ h0
      omega
  subst this
  exact ⟨by omega, rfl⟩
theorem sum_lt {l m : List Nat} (ol : Ok l) (om : Ok m) (h : m.length ≤ l.length) : val l + val m < 1000000000 ^ (l.length + 1) := by
  have h1 := val_lt ol
  have h2 := val_lt om
  have h3 : 1000000000 ^ m.length ≤ 1000000000 ^ l.length := Nat.pow_le_pow_right (by decide) h
  rw [Nat.pow_succ]; omega

set_option maxRecDepth 10000 in
set_option maxHeartbeats 800000 in
theorem and_le (A B : Option Addr) (l m : List Nat) (c d : Nat) (w : World) (hA : Sz w A l) (hB : Sz w B m) (ol : Ok l) (om : Ok m) (hl : l.length ≤ 1000) (hml : m.length ≤ l.length) :
    Calls Tryd.prog 68 #[.slice A l.length c, .slice B m.length d] w fun e w' => ∃ v, e = .returned v ∧ SzN w' v (val l + val m) ∧ Below w.heap.size w w' := by
  have hmk := run_mkz (l.length + 1) ((l.length : Int) + 1) (by omega) (by omega)
  have hg : ¬ l.length < m.length := by omega
  go_enter Tryd.func68, Tryd.ntmps68
  go_wp2_with ((with_reducible refine wpList_copy_sz rfl (.tmp 17) (.tmp 18) rfl w.heap.size (l.length + 1) (l.length + 1) (fun _ => 0) A l c rfl rfl (Rw.made w _) (hA.below ((Below.refl _ _).alloc (Nat.le_refl _) _)) (by omega) ?_); intro w1 hR1 hO1)
  go_wp2_with fail
  have hF : ∀ j, 0 ≤ j → j < 0 + (l.length + 1) → over l (fun _ => 0) j < 1000000000 := fun j _ _ => over_ok ol (fun _ _ => by decide) j
  have hB1 : Below w.heap.size w w1 := (((Below.refl _ _).alloc (Nat.le_refl _) _).trans (hO1.to_below (Nat.le_refl _) (by simp)))
  have hBx := hB.below hB1
  refine (raise_any w.heap.size 0 (l.length + 1) (l.length + 1) (l.length + 1) _ B m d _ hR1 hF (by omega) (by unfold maxLen; omega) hBx (hB.off (Nat.le_refl _)) om (by unfold maxLen; omega)).mono ?_
  rintro e w2 ⟨c2, F2, rfl, hI, hR2, hO2⟩
  have hend := raise_end hI (by omega) (by rw [vf_over_zero l (by omega)]) (sum_lt ol om hml)
  have HE := Lib.hid hend
  have hB2 : Below w.heap.size w w2 := hB1.trans (hO2.to_below (Nat.le_refl _) hB1.size)
  clear hend hB1 hO2 hO1 hR1 hBx hB hA
  go_wp2_with fail
  refine (trimmed_row w.heap.size 0 (l.length + 1) (l.length + 1) (l.length + 1) F2 _ hR2 (by omega) hI.ok (by omega) (by unfold maxLen; omega)).mono ?_
  rintro e w3 ⟨rfl, rfl⟩
  go_wp2_with fail
  go_ret
  exact ⟨_, rfl, (SzN.of_row hR2 0 _ _ (by omega) hI.ok).conv HE.out.1, hB2⟩
set_option maxRecDepth 10000 in
set_option maxHeartbeats 800000 in
theorem and_gt (A B : Option Addr) (l m : List Nat) (c d : Nat) (w : World) (hA : Sz w A l) (hB : Sz w B m) (ol : Ok l) (om : Ok m) (hl : m.length ≤ 1000) (hml : l.length < m.length) :
    Calls Tryd.prog 68 #[.slice A l.length c, .slice B m.length d] w fun e w' => ∃ v, e = .returned v ∧ SzN w' v (val l + val m) ∧ Below w.heap.size w w' := by
  have hmk := run_mkz (m.length + 1) ((m.length : Int) + 1) (by omega) (by omega)
  go_enter Tryd.func68, Tryd.ntmps68
  go_wp2_with ((with_reducible refine wpList_copy_sz rfl (.tmp 17) (.tmp 18) rfl w.heap.size (m.length + 1) (m.length + 1) (fun _ => 0) B m d rfl rfl (Rw.made w _) (hB.below ((Below.refl _ _).alloc (Nat.le_refl _) _)) (by omega) ?_); intro w1 hR1 hO1)
  go_wp2_with fail
  have hF : ∀ j, 0 ≤ j → j < 0 + (m.length + 1) → over m (fun _ => 0) j < 1000000000 := fun j _ _ => over_ok om (fun _ _ => by decide) j
  have hB1 : Below w.heap.size w w1 := (((Below.refl _ _).alloc (Nat.le_refl _) _).trans (hO1.to_below (Nat.le_refl _) (by simp)))
  have hBx := hA.below hB1
  refine (raise_any w.heap.size 0 (m.length + 1) (m.length + 1) (m.length + 1) _ A l c _ hR1 hF (by omega) (by unfold maxLen; omega) hBx (hA.off (Nat.le_refl _)) ol (by unfold maxLen; omega)).mono ?_
  rintro e w2 ⟨c2, F2, rfl, hI, hR2, hO2⟩
  have hend := raise_end hI (by omega) (by rw [vf_over_zero m (by omega)]) (sum_lt om ol (by omega))
  have HE := Lib.hid hend
  have hB2 : Below w.heap.size w w2 := hB1.trans (hO2.to_below (Nat.le_refl _) hB1.size)
  clear hend hB1 hO2 hO1 hR1 hBx hB hA
  go_wp2_with fail
  refine (trimmed_row w.heap.size 0 (m.length + 1) (m.length + 1) (m.length + 1) F2 _ hR2 (by omega) hI.ok (by omega) (by unfold maxLen; omega)).mono ?_
  rintro e w3 ⟨rfl, rfl⟩
  go_wp2_with fail
  go_ret
  exact ⟨_, rfl, (SzN.of_row hR2 0 _ _ (by omega) hI.ok).conv (HE.out.1.trans (Nat.add_comm _ _)), hB2⟩
theorem and_any (A B : Option Addr) (l m : List Nat) (c d : Nat) (w : World) (hA : Sz w A l) (hB : Sz w B m) (ol : Ok l) (om : Ok m) (hl : l.length ≤ 1000) (hm : m.length ≤ 1000) :
    Calls Tryd.prog 68 #[.slice A l.length c, .slice B m.length d] w fun e w' => ∃ v, e = .returned v ∧ SzN w' v (val l + val m) ∧ Below w.heap.size w w' := by
  by_cases h : l.length < m.length
  · exact and_gt A B l m c d w hA hB ol om hm h
  · exact and_le A B l m c d w hA hB ol om hl (by omega)
end Go.Proofs.YtogphdflgcdiiaaDoor

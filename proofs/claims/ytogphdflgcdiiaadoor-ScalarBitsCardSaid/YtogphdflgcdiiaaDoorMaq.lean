import Derived.Test.YtogphdflgcdiiaaDoorMao
namespace Go.Proofs.YtogphdflgcdiiaaDoor
set_option linter.unusedVariables false
set_option linter.unusedSimpArgs false
open Go.RowKit

theorem vdrop_lt {l : List Nat} (ol : Ok l) (k : Nat) : val (l.drop k) < 10 ^ (9 * l.length) := by
  have h1 := val_lt (ok_drop ol k)
  have h2 : 1000000000 ^ (l.drop k).length ≤ 1000000000 ^ l.length := Nat.pow_le_pow_right (by decide) (by simp)
  rw [Nat.pow_mul]
  exact Nat.lt_of_lt_of_le h1 h2
theorem digs_le {l : List Nat} (ol : Ok l) (hne : l ≠ []) (k : Nat) : (Lib.decDigits (val (l.drop k))).length ≤ 9 * l.length :=
  (decDigits_len_le (by have := List.length_pos_iff.2 hne; omega)).2 (vdrop_lt ol k)
theorem vdrop_pos {l : List Nat} (nl : Norm l) {k : Nat} (hk : k < l.length) : 0 < val (l.drop k) := by
  obtain ⟨m, a, rfl, ha⟩ := norm_last nl (by rintro rfl; simp at hk)
  rw [List.length_append] at hk
  simp only [List.length_cons, List.length_nil] at hk
  rw [List.drop_append_of_le_length (by omega), val_snoc]
  have : 0 < 1000000000 ^ (m.drop k).length * a := Nat.mul_pos (Nat.pow_pos (by decide)) (by omega)
  omega
theorem fig_join {l : List Nat} (ol : Ok l) (nl : Norm l) {k : Nat} (hk : k + 1 < l.length) :
    Lib.decDigits (val (l.drop (k + 1))) ++ (Lib.decDigits (1000000000 + l[k]'(by omega))).drop 1 = Lib.decDigits (val (l.drop k)) := by
  rw [List.drop_eq_getElem_cons (show k < l.length by omega), val_cons, Nat.add_comm (l[k]'(by omega)), Nat.mul_comm 1000000000]
  exact decDigits_join (k := 9) (vdrop_pos nl hk) (ok_get ol (by omega))

theorem own_bytes {w : World} {base n : Nat} {v : Value} {l : List UInt8} (h : w.ownsRow base 5 1 v n (Lib.byteCells l)) (hn : n = l.length) (hne : l ≠ []) : ∃ g c, v = .slice (some ⟨g, 0, none⟩) n c ∧
    (convert 89 9 (.slice (some ⟨g, 0, none⟩) n c)).run Tryd.prog w = .ok (.string ⟨l.toArray⟩) w := by
  rcases h.2 with ⟨_, h0⟩ | ⟨g, cap, cur, rfl, _, hg, h1, h2, h3, h4⟩
  · exact absurd (List.eq_nil_of_length_eq_zero (hn ▸ h0)) hne
  · subst hn
    refine ⟨g, cap, rfl, run_convert_bytes_back (P := Tryd.prog) w 89 9 5 ⟨g, 0, none⟩ cap l Tryd.underlying89 Tryd.underlying5 Tryd.underlying9 (fun j hj => ?_)⟩
    rw [Lib.add_plain, cell_of_row w g (0 + j) cur 5 (0, 0) hg, Nat.zero_add]
    have : (cur.toList.take (l.length * 1))[j]? = (Lib.byteCells l)[j]? := by rw [h4]
    rw [List.getElem?_take_of_lt (by omega)] at this
    rw [← Array.getElem?_toList, this]
    simp [Lib.byteCells, hj]
theorem own_below {w w' : World} {base e n : Nat} {v : Value} {xs : List Value} (h : w.ownsRow base e 1 v n xs) (hb : Below w.heap.size w w') : w'.ownsRow base e 1 v n xs := by
  refine ⟨h.1, ?_⟩
  rcases h.2 with h0 | ⟨g, cap, cur, e1, e2, hg, h2⟩
  · exact .inl h0
  · exact .inr ⟨g, cap, cur, e1, e2, (hb.block g (Array.getElem?_eq_some_iff.1 hg).1).trans hg, h2⟩
set_option maxRecDepth 10000 in
set_option maxHeartbeats 1600000 in
theorem figures_any (A : Option Addr) (l : List Nat) (c : Nat) (w : World) (hA : Sz w A l) (ol : Ok l) (nl : Norm l) (hl : l.length ≤ 1000) (htab : Tab w) :
    Calls Tryd.prog 70 #[.slice A l.length c] w fun e w' => e = .returned (.string ⟨(Lib.decDigits (val l)).toArray⟩) ∧ Below w.heap.size w w' := by
  by_cases hne : l = []
  · subst hne
    have h0 : Lib.decDigits (val []) = [48] := by rw [val_nil, decDigits_small (by omega)]; rfl
    rw [h0]
    have hz : (((([] : List Nat).length : Nat) : Int) == 0) = true := by rfl
    go_enter Tryd.func70, Tryd.ntmps70
    go_wp2_with fail
    go_ret
    exact ⟨rfl, Below.refl _ _⟩
  · obtain ⟨b, o, rfl, hlt, hcell⟩ := hA.at_ hne
    have h1 : 1 ≤ l.length := List.length_pos_iff.2 hne
    obtain ⟨n, hn⟩ : ∃ n, l.length = n + 1 := ⟨l.length - 1, by omega⟩
    have hcn := hcell n (by omega)
    have hln := ok_get ol (show n < l.length by omega)
    have hz : (((n : Int) + 1) == 0) = false := by simp; omega
    obtain ⟨i0, hi, hz0, hz1, hz2⟩ := info_parts (show (Tryd.prog.info? 5).map (fun i => (i.zero, i.size, i.bytes)) = some (some (.int .u8 0), 1, 1) by kernel_rfl)
    have hst : l.drop n = [l[n]] := by rw [List.drop_eq_getElem_cons (by omega), List.drop_of_length_le (by omega)]
    have hst2 : Lib.decDigits (val (l.drop n)) = Lib.decDigits l[n] := by rw [hst]; simp [val]
    have HS := Lib.hid hst2
    have HL := Lib.hid hn
    rw [hn]
    clear hst hst2 hA
    go_enter Tryd.func70, Tryd.ntmps70
    go_wp2_with fail
    refine (appendUint_any l[n] (by omega) _ htab).mono ?_
    rintro e w1 ⟨v1, rfl, hown, hb⟩
    rw [← HS.out] at hown
    have htab1 := htab.below hb
    go_wp2_with fail
    go_loopw [4, 5] (fun v iv wr => ∃ (k n' : Nat), k ≤ n ∧ iv = .int .i64 ((k : Int) - 1) ∧ n' = (Lib.decDigits (val (l.drop k))).length ∧ wr.ownsRow w.heap.size 5 1 v n' (Lib.byteCells (Lib.decDigits (val (l.drop k)))) ∧ Below w.heap.size w wr) (fun _ iv _ => (intOf iv + 1).toNat)
    case atStart => exact ⟨n, _, Nat.le_refl _, rfl, rfl, hown, hb⟩
    case round =>
      clear hown hb htab1 HS hcn hln
      obtain ⟨k, n', hk, rfl, hn', hown, hB⟩ := hrel
      rcases k with _ | k
      · obtain ⟨g, c', hv, hcv⟩ := own_bytes hown hn' (decDigits_ne _)
        rw [List.drop_zero] at hcv
        clear hown hn'
        go_wp2_with fail
        go_ret
        exact ⟨rfl, hB⟩
      · have hcl := (hB.cell (p := ⟨b, o + k, none⟩) hlt).trans (hcell k (by omega))
        have hpl := ok_get ol (show k < l.length by omega)
        have hJ := Lib.hid (fig_join ol nl (k := k) (by omega))
        have hle := digs_le ol hne (k + 1)
        rw [← hn'] at hle
        have hpad := (decDigits_pad (r := l[k]) (k := 9) hpl).2.2
        have e1 : ((k + 1 : Nat) : Int) - 1 = (k : Int) := by omega
        rw [e1]
        have HN := Lib.hid hn'
        have HP := Lib.hid hpad
        clear e1 hn' hpad
        go_wp2_with fail
        refine (formatUint_any (1000000000 + l[k]) (by omega) (by omega) _ (htab.below hB)).mono ?_
        rintro e w2 ⟨rfl, hb2⟩
        have hown2 := own_below hown hb2
        have hB2 := hB.trans (hb2.mono hB.size)
        obtain ⟨t, ht, ht1, ht2⟩ : ∃ t : ByteArray, t = ⟨(Lib.decDigits (1000000000 + l[k])).toArray⟩ ∧ t.size = 10 ∧ (t.extract 1 t.size).data.toList = (Lib.decDigits (1000000000 + l[k])).drop 1 := by
          have h10 : (Lib.decDigits (1000000000 + l[k])).length = 10 := by
            have := HP.out
            rw [List.length_drop] at this
            show (Lib.decDigits (10 ^ 9 + l[k])).length = 10
            omega
          have h11 : (⟨(Lib.decDigits (1000000000 + l[k])).toArray⟩ : ByteArray).size = 10 := by simpa [ByteArray.size] using h10
          refine ⟨_, rfl, h11, ?_⟩
          rw [extract_toList, h11]
          show List.drop 1 (List.take 10 (Lib.decDigits (1000000000 + l[k]))) = _
          rw [List.take_of_length_le (by omega)]
        rw [← ht]
        have HT := Lib.hid (And.intro ht ht2)
        have hts : (t.extract 1 t.size).size = 9 := by
          have h12 : (t.extract 1 t.size).data.toList.length = 9 := by rw [ht2]; exact HP.out
          rwa [Array.length_toList] at h12
        have HTS := Lib.hid hts
        have ht1' : (10 : Int) ≤ (t.size : Int) := by omega
        have HT1 := Lib.hid ht1
        clear hown hb2 hB hts ht ht2 ht1 hcell
        go_wp2_with (at_builtin; (refine Lib.wpList_append_own_string _ rfl (.tmp 32) (.tmp 34) 89 9 rfl w.heap.size 5 i0 Tryd.underlying89 Tryd.underlying9 hi hz0 hz1 hz2 _ n' _ rfl hown2 (t.extract 1 t.size) rfl ?c1 ?c2 ?c3 ?_))
        case c1 => rw [HTS.out]; unfold maxLen; omega
        case c2 => rw [HTS.out]; omega
        case c3 => exact hB2.size
        intro v' w3 hown3 hgrow _
        have hB3 : Below w.heap.size w w3 := hB2.grown hgrow hB2.size (fun q hq => (hown2.lt q hq).1)
        clear hgrow hown2 hB2
        go_wp2_with fail
        go_roundw
        case rel =>
          refine ⟨k, n' + (t.size - 1), by omega, rfl, ?_, ?_, hB3⟩
          · rw [HT1.out, ← hJ.out, List.length_append, HP.out, ← HN.out]
          · rw [← hJ.out, Lib.byteCells_append, ← HT.out.2]
            exact hown3
        case measure => simp [intOf]
end Go.Proofs.YtogphdflgcdiiaaDoor

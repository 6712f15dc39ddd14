import Derived.Test.YtljkmdmbndjngaaGreatMaw
import Derived.BigRegion
/-
  The reference's verb.
-/
namespace Go.Proofs.YtljkmdmbndjngaaGreat
set_option linter.unusedVariables false
set_option linter.unusedSimpArgs false
open Go.RowKit

theorem advs_of {k : Int} (hk : k = 3 ∨ k = 4) {A : ByteArray} (hA : A.data.toList = advs k) {j : Nat} (hj : j < (advs k).length) : A.extract j (j + 1) = tx [(advs k)[j]] := by
  refine extract_eq A j (j + 1) _ ?_
  rw [hA, Nat.add_sub_cancel_left]
  rw [List.drop_eq_getElem_cons hj]
  rfl
theorem advs_len {k : Int} (hk : k = 3 ∨ k = 4) : (advs k).length ≤ 4 ∧ 0 < (advs k).length := by
  rcases hk with rfl | rfl
  · exact ⟨by decide, by decide⟩
  · exact ⟨by decide, by decide⟩
theorem tx_one (t : List UInt8) (c : UInt8) : ((tx t).toList == (tx [c]).toList) = decide (t = [c]) := by
  rw [str_tl, str_tl, tx_list, tx_list]
  by_cases h : t = [c]
  · rw [h]; simp
  · rw [decide_eq_false h]; exact beq_eq_false_iff_ne.2 h
theorem quiet_pure {f : FuncId} {args : Array Value} {w : World} {n : Nat} {v : Value} (h : Calls Tryz.prog f args (w.drewN n) (PureEnd v (w.drewN n))) : Calls Tryz.prog f args (w.drewN n) fun e w'' => e = .returned v ∧ ∃ m, w'' = w.drewN m :=
  h.mono fun _ _ ⟨h1, h2⟩ => ⟨h1, n, h2.symm⟩
set_option maxRecDepth 10000 in
set_option maxHeartbeats 6400000 in
theorem rverb_is (ts : List Tk) (i : Nat) (k : Int) (A : ByteArray) (a : Option Addr) (n c : Nat) (W : World) (x : Option (List Tn)) (r : List Pk) (h : Qs W a n (rtk ts)) (hn : n = ts.length) (hm : n ≤ 300) (hi : i ≤ n) (hf : Few ts) (hk : k = 3 ∨ k = 4) (hA : A.data.toList = advs k)
    (hp : ∀ q ∈ pks ts, q.k = 3 ∨ q.k = 4 → q.t ≠ [123]) (HC : ClosedBehind ts i) (hR : Rd' numT (.vb k) ((pks ts).drop i) x r) :
    Calls Tryz.prog 106 #[.slice a n c, .int .i64 i, .int .i64 k, .string A] W (VbEnd x (n - r.length) W) := by
  have hl : (pks ts).length = n := by rw [pks_len, hn]
  have hll : ((pks ts).drop i).length = n - i := by rw [List.length_drop, hl]
  have hcases := vb_cases hR (fun q hq => hp q (List.mem_of_mem_drop hq))
  have hi1 : i + 1 ≤ n := by rcases hcases with ⟨_, h2, _⟩ | ⟨_, h2, _⟩ <;> omega
  have htx : (tx0 ((pks ts).drop i)).length ≤ 300 := by
    cases hd : (pks ts).drop i with
    | nil => simp [tx0]
    | cons q l =>
      obtain ⟨t, ht, rfl⟩ := List.mem_map.1 (List.mem_of_mem_drop (show q ∈ (pks ts).drop i by rw [hd]; exact List.mem_cons_self))
      exact hf t ht
  obtain ⟨T, hT⟩ : ∃ T, T = tx (tx0 ((pks ts).drop i)) := ⟨_, rfl⟩
  have hTz : T.size ≤ maxLen := by rw [hT, tx_size]; unfold maxLen; omega
  have hTl : tx0 ((pks ts).drop i) = T.data.toList := by rw [hT, tx_list]
  obtain ⟨W0, hW0⟩ : ∃ W0, W0 = (W.alloc (.cells #[.int .i64 0, .string ⟨#[]⟩, .string ⟨#[]⟩, .string ⟨#[]⟩, .slice none 0 0] 37)).alloc (.cells #[.slice none 0 0, .int .i64 0, .bool false] 87) := ⟨_, rfl⟩
  have s1 : (W.alloc (.cells #[.int .i64 0, .string ⟨#[]⟩, .string ⟨#[]⟩, .string ⟨#[]⟩, .slice none 0 0] 37)).heap.size = W.heap.size + 1 := by simp
  have s2 : W0.heap.size = W.heap.size + 1 + 1 := by rw [hW0]; simp
  have hb0 : Below W.heap.size W W0 := by rw [hW0]; exact (box_below W _).alloc (box_below W _).size _
  have K2 := rtext_is ts a n c W0 (h.below hb0) hn (by omega) i
  rw [← hT] at K2
  replace K2 := Lib.hid K2
  have hR0 : Bk 37 W0 W.heap.size [.int .i64 0, .string ⟨#[]⟩, .string ⟨#[]⟩, .string ⟨#[]⟩, .slice none 0 0] := by rw [hW0]; exact (Bk.new 37 W _).alloc _
  have hS0 : Bk 87 W0 (W.heap.size + 1) [.slice none 0 0, .int .i64 0, .bool false] := by rw [hW0]; exact Bk.new' _ _ s1.symm _
  obtain ⟨W1, hW1⟩ : ∃ W1, W1 = (W0.alloc (.cells #[.int .i64 k, .string T, .string ⟨#[]⟩, .string ⟨#[]⟩, .slice none 0 0] 37)).alloc (.cells #[.slice none 0 0, .int .i64 ((i : Int) + 1), .bool true] 87) := ⟨_, rfl⟩
  have s3 : (W0.alloc (.cells #[.int .i64 k, .string T, .string ⟨#[]⟩, .string ⟨#[]⟩, .slice none 0 0] 37)).heap.size = W0.heap.size + 1 := by simp
  have s4 : W1.heap.size = W0.heap.size + 1 + 1 := by rw [hW1]; simp
  have hN1 : Bk 37 W1 W0.heap.size [.int .i64 k, .string T, .string ⟨#[]⟩, .string ⟨#[]⟩, .slice none 0 0] := by rw [hW1]; exact (Bk.new 37 W0 _).alloc _
  have hG1 : Bk 87 W1 (W0.heap.size + 1) [.slice none 0 0, .int .i64 ((i : Int) + 1), .bool true] := by rw [hW1]; exact Bk.new' _ _ s3.symm _
  have hbx : Below W0.heap.size W0 W1 := by rw [hW1]; exact (box_below W0 _).alloc (box_below W0 _).size _
  have hR1 := hR0.on hbx
  have hS1 := hS0.on hbx
  have hb1 := hb0.trans (hbx.mono hb0.size)
  have n0 := hN1.p0
  have n1 := hN1.p1
  have n2 := hN1.p2
  have n3 := hN1.p3
  have n4 := hN1.p4
  have g0 := hG1.p0
  have g1 := hG1.p1
  have g2 := hG1.p2
  have HN := Lib.hid hn
  have HQ := Lib.hid h
  have HL := Lib.hid hl
  have HTL := Lib.hid hTl
  have HTZ := Lib.hid hTz
  have HW0 := Lib.hid hW0
  have HW1 := Lib.hid hW1
  have HK := Lib.hid hk
  have HA := Lib.hid hA
  have HF := Lib.hid hf
  have HN1 := Lib.hid hN1
  have HG1 := Lib.hid hG1
  have HR1 := Lib.hid hR1
  have HS1 := Lib.hid hS1
  have HB1 := Lib.hid hb1
  have HZ := Lib.hid (⟨s2, s4⟩ : W0.heap.size = W.heap.size + 1 + 1 ∧ W1.heap.size = W0.heap.size + 1 + 1)
  obtain ⟨p, hpp⟩ : ∃ p, p = n - r.length := ⟨_, rfl⟩
  rw [← hpp]
  have HP := Lib.hid hpp
  have hcs : (T.data.toList ≠ [123] ∧ Rd' numT (.adv k T.data.toList []) ((pks ts).drop (i + 1)) x r) ∨ (T.data.toList = [123] ∧ ∃ x1 r1, Rd' numT (.cl 125) ((pks ts).drop (i + 1)) x1 r1 ∧ ((x1 = none ∧ x = none ∧ r = r1) ∨ ∃ B, x1 = some B ∧ Rd' numT (.adv k [123] B) r1 x r)) := by
    have e : ((pks ts).drop i).tail = (pks ts).drop (i + 1) := by rw [← List.drop_drop]; simp
    rw [← e, ← hTl]
    rcases hcases with ⟨h1, _, h2⟩ | ⟨h1, _, h2⟩
    · exact .inl ⟨h1, h2⟩
    · exact .inr ⟨h1, h2⟩
  have KC := Lib.hid (fun w (hb : Below W.heap.size W w) x2 r2 (h2 : Rd' numT (.cl 125) ((pks ts).drop (i + 1)) x2 r2) => HC (i + 1) 125 a n c w x2 r2 (Nat.lt_succ_self i) (h.below hb) hn hm hi1 h2)
  have KK := Lib.hid (fun w (hb : Below W.heap.size W w) (j : Nat) => rkind_is ts a n c w (h.below hb) hn (by omega) j)
  have KT := Lib.hid (fun w (hb : Below W.heap.size W w) (j : Nat) => rtext_is ts a n c w (h.below hb) hn (by omega) j)
  clear hcases h hn hf hp HC hR htx hT hTl hll hl hTz hb0 s1 s2 s3 s4 hR0 hS0 hbx hR1 hS1 hb1 hN1 hG1 hpp hk hA
  rw [show ((i + 1 : Nat) : Int) = (i : Int) + 1 from rfl] at KC
  rcases hcs with ⟨hne, hrd⟩ | ⟨heq, hrd⟩
  · have eT : (T.toList == [123]) = false := by rw [str_tl]; exact beq_eq_false_iff_ne.2 hne
    clear hne KC
    go_enter Tryz.func106, Tryz.ntmps106
    clear hW0 hW1
    go_wp2_with fail
    rw [← HW0.out]
    refine K2.out.mono ?_
    rintro e w1 ⟨rfl, rfl⟩
    have hw1 := HW1.out
    rw [hw1] at n0 n1 n2 n3 n4 g0 g1 g2
    clear hw1
    go_wp2_with fail
    rw [← HW1.out]
    clear n0 n1 n2 n3 n4 g0 g1 g2 eT
    obtain ⟨B, q, aB, nB, cB, bB, hB, hq, ha, hnn, hcc, hbb⟩ : ∃ (B : List Tn) (q : Nat) (aB : Option Addr) (nB cB bB : Nat), B = [] ∧ q = i + 1 ∧ aB = none ∧ nB = 0 ∧ cB = 0 ∧ bB = W1.heap.size := ⟨[], i + 1, none, 0, 0, _, rfl, rfl, rfl, rfl, rfl, rfl⟩
    have HLx := Lib.hid (Nl.nil bB W1)
    rw [← hB, ← hq] at hrd
    have hqi : (i : Int) + 1 = (q : Int) := by omega
    replace HG1 := Lib.hid (show Bk 87 W1 (W0.heap.size + 1) [.slice aB nB cB, .int .i64 q, .bool true] by rw [ha, hnn, hcc, ← hqi]; exact HG1.out)
    rw [hqi]
    replace HLx := Lib.hid (show Nl bB W1 aB nB cB B by rw [ha, hB, hnn, hcc]; exact HLx.out)
    have HRD := Lib.hid hrd
    have HRx := HR1
    have HSx := HS1
    have HBx := HB1
    have hqn : q ≤ n := by omega
    have hnB : nB ≤ 1000 := by omega
    have hbB : W.heap.size + 1 + 1 + 1 < bB := by rw [hbb, HZ.out.2, HZ.out.1]; omega
    clear hrd hqi hB hq ha hnn hcc hbb HR1 HS1 HB1
    have K5 := KK.out W1 HBx.out q
    generalize hz : kd0 ((pks ts).drop q) = kk at *
    have HKZ := Lib.hid hz
    replace K5 := Lib.hid K5
    have n0 := HN1.out.p0
    have n1 := HN1.out.p1
    have n2 := HN1.out.p2
    have n3 := HN1.out.p3
    have n4 := HN1.out.p4
    have g0 := HG1.out.p0
    have g1 := HG1.out.p1
    have g2 := HG1.out.p2
    have r0 := HRx.out.p0
    have r1 := HRx.out.p1
    have r2 := HRx.out.p2
    have r3 := HRx.out.p3
    have r4 := HRx.out.p4
    have z0 := HSx.out.p0
    have z1 := HSx.out.p1
    have z2 := HSx.out.p2
    have fr0 := HRx.out.f 0
    have fr1 := HRx.out.f 1
    have fr2 := HRx.out.f 2
    have fr3 := HRx.out.f 3
    have fr4 := HRx.out.f 4
    have fz0 := HSx.out.f 0
    have fz1 := HSx.out.f 1
    have fz2 := HSx.out.f 2
    clear hz
    by_cases h5 : kk = 5
    · subst h5
      obtain ⟨t5, ht5⟩ : ∃ t5, t5 = tx0 ((pks ts).drop q) := ⟨_, rfl⟩
      have HT5 := Lib.hid ht5
      have K6 := Lib.hid (fun w (hb : Below W.heap.size W w) => (by rw [ht5]; exact KT.out w hb q : Calls Tryz.prog 85 #[.slice a n c, .int .i64 q] w (PureEnd (.string (tx t5)) w)))
      have hal := advs_len HK.out
      have HAL := Lib.hid (show A.size = (advs k).length by rw [← HA.out]; exact Array.length_toList.symm)
      have hA4 : A.size ≤ 4 := by rw [HAL.out]; exact hal.1
      clear ht5 hal
      refine K5.out.mono ?_
      rintro e w1 ⟨rfl, rfl⟩
      rw [HZ.out.1] at n0 n1 n2 n3 n4 g0 g1 g2 ⊢
      have HN2 := Lib.hid (show Bk 37 W1 (W.heap.size + 1 + 1) [.int .i64 k, .string T, .string ⟨#[]⟩, .string ⟨#[]⟩, .slice none 0 0] by rw [← HZ.out.1]; exact HN1.out)
      have HG2 := Lib.hid (show Bk 87 W1 (W.heap.size + 1 + 1 + 1) [.slice aB nB cB, .int .i64 q, .bool true] by rw [← HZ.out.1]; exact HG1.out)
      go_wp2_with fail
      clear n0 n1 n2 n3 n4 g0 g1 g2 r0 r1 r2 r3 r4 z0 z1 z2 fr0 fr1 fr2 fr3 fr4 fz0 fz1 fz2
      go_loopw [12] (fun iv wr => ∃ j : Nat, iv = .int .i64 j ∧ j ≤ A.size ∧ Hid (∀ j' (h : j' < (advs k).length), j' < j → t5 ≠ [(advs k)[j']]) ∧ Hid (Bk 37 wr (W.heap.size + 1 + 1) [.int .i64 k, .string T, .string ⟨#[]⟩, .string ⟨#[]⟩, .slice none 0 0]) ∧ Hid (Bk 87 wr (W.heap.size + 1 + 1 + 1) [.slice aB nB cB, .int .i64 q, .bool true]) ∧ Hid (Bk 37 wr W.heap.size [.int .i64 0, .string ⟨#[]⟩, .string ⟨#[]⟩, .string ⟨#[]⟩, .slice none 0 0]) ∧ Hid (Bk 87 wr (W.heap.size + 1) [.slice none 0 0, .int .i64 0, .bool false]) ∧ Hid (Below W.heap.size W wr) ∧ Hid (Nl bB wr aB nB cB B)) (fun iv _ => A.size - (intOf iv).toNat)
      case atStart => exact ⟨0, rfl, by omega, Lib.hid (fun j' _ h => by omega), HN2, HG2, HRx, HSx, HBx, HLx⟩
      case round =>
        clear HN2 HG2 HRx HSx HBx HLx HN1 HG1 K5
        obtain ⟨j, rfl, hj, HALL, HN1, HG1, HRx, HSx, HBx, HLx⟩ := hrel
        by_cases hlt : j < A.size
        · have e2 : (j : Int) < (A.size : Int) := by omega
          have hjm : j < (advs k).length := by rw [← HAL.out]; exact hlt
          have HEX := Lib.hid (advs_of HK.out HA.out hjm)
          have HEC := Lib.hid (tx_one t5 (advs k)[j])
          have HMEM := Lib.hid (List.getElem_mem hjm : (advs k)[j] ∈ advs k)
          obtain ⟨ch, hch⟩ : ∃ ch, ch = (advs k)[j] := ⟨_, rfl⟩
          rw [← hch] at HEX HEC HMEM
          have HCH := Lib.hid hch
          clear hch
          obtain ⟨C, hC⟩ : ∃ C, C = tx [ch] := ⟨_, rfl⟩
          obtain ⟨T5, hT5⟩ : ∃ T5, T5 = tx t5 := ⟨_, rfl⟩
          rw [← hC] at HEX HEC
          rw [← hT5] at HEC K6
          have HC := Lib.hid hC
          have HTT := Lib.hid hT5
          clear hC hT5
          have hex := HEX.out
          have wj : IntKind.i64.wrap ((j : Int) + 1) = (j : Int) + 1 := wrn (by omega) (by omega)
          have g1 := HG1.out.p1
          have hTz := maxLen_le HTZ.out
          by_cases hec : t5 = [ch]
          · have ec : (T5.toList == C.toList) = true := by rw [HEC.out]; exact decide_eq_true hec
            go_wp2_with fail
            go_quiet ((go_at_call 85; exact quiet_pure (K6.out _ (below_drewN HBx.out _))))
            have HN2 := HN1.out.drewN nq
            have HG2 := HG1.out.drewN nq
            have HR2 := HRx.out.drewN nq
            have HS2 := HSx.out.drewN nq
            have HB2 := below_drewN HBx.out nq
            have HL2 := HLx.out.below (below_drewN (Below.refl _ wr) nq)
            generalize wr.drewN nq = w2 at *
            clear g1 ec HN1 HG1 HRx HSx HBx HLx
            have HN3 := Lib.hid ((HN2.set 2 (.string C)).setOther (p := ⟨W.heap.size + 1 + 1 + 1, 1, none⟩) (show W.heap.size + 1 + 1 ≠ W.heap.size + 1 + 1 + 1 by omega) (.int .i64 ((q : Int) + 1)))
            have HG3 := Lib.hid ((HG2.setOther (p := ⟨W.heap.size + 1 + 1, 2, none⟩) (show W.heap.size + 1 + 1 + 1 ≠ W.heap.size + 1 + 1 by omega) (.string C)).set 1 (.int .i64 ((q : Int) + 1)))
            have HRx := Lib.hid ((HR2.setOther (p := ⟨W.heap.size + 1 + 1, 2, none⟩) (show W.heap.size ≠ W.heap.size + 1 + 1 by omega) (.string C)).setOther (p := ⟨W.heap.size + 1 + 1 + 1, 1, none⟩) (show W.heap.size ≠ W.heap.size + 1 + 1 + 1 by omega) (.int .i64 ((q : Int) + 1)))
            have HSx := Lib.hid ((HS2.setOther (p := ⟨W.heap.size + 1 + 1, 2, none⟩) (show W.heap.size + 1 ≠ W.heap.size + 1 + 1 by omega) (.string C)).setOther (p := ⟨W.heap.size + 1 + 1 + 1, 1, none⟩) (show W.heap.size + 1 ≠ W.heap.size + 1 + 1 + 1 by omega) (.int .i64 ((q : Int) + 1)))
            have HBx := Lib.hid ((HB2.setCell (p := ⟨W.heap.size + 1 + 1, 2, none⟩) (show W.heap.size ≤ W.heap.size + 1 + 1 by omega) (.string C)).setCell (p := ⟨W.heap.size + 1 + 1 + 1, 1, none⟩) (show W.heap.size ≤ W.heap.size + 1 + 1 + 1 by omega) (.int .i64 ((q : Int) + 1)))
            have HLx := Lib.hid ((HL2.set (p := ⟨W.heap.size + 1 + 1, 2, none⟩) (by simp only; omega) (.string C)).set (p := ⟨W.heap.size + 1 + 1 + 1, 1, none⟩) (by simp only; omega) (.int .i64 ((q : Int) + 1)))
            have n2 := HN2.p2
            have fn2 := HN2.f 2
            have g1 := HG2.p1
            have fg1 := HG2.f 1
            clear HN2 HG2 HR2 HS2 HB2 HL2
            have wq : IntKind.i64.wrap ((q : Int) + 1) = (q : Int) + 1 := wrn (by omega) (by omega)
            go_wp2_with fail
            clear n2 fn2 g1 fg1
            generalize (w2.setCell ⟨W.heap.size + 1 + 1, 2, none⟩ (.string C)).setCell ⟨W.heap.size + 1 + 1 + 1, 1, none⟩ (.int .i64 ((q : Int) + 1)) = w3 at *
            have n0 := HN3.out.p0
            have n1 := HN3.out.p1
            have n2 := HN3.out.p2
            have n3 := HN3.out.p3
            have n4 := HN3.out.p4
            have g0 := HG3.out.p0
            have g1 := HG3.out.p1
            have g2 := HG3.out.p2
            have r0 := HRx.out.p0
            have r1 := HRx.out.p1
            have r2 := HRx.out.p2
            have r3 := HRx.out.p3
            have r4 := HRx.out.p4
            have z0 := HSx.out.p0
            have z1 := HSx.out.p1
            have z2 := HSx.out.p2
            have fr0 := HRx.out.f 0
            have fr1 := HRx.out.f 1
            have fr2 := HRx.out.f 2
            have fr3 := HRx.out.f 3
            have fr4 := HRx.out.f 4
            have fz0 := HSx.out.f 0
            have fz1 := HSx.out.f 1
            have fz2 := HSx.out.f 2
            obtain ⟨hxs, hrl⟩ : x = some (⟨k, T.data.toList, [ch], [], []⟩ :: B) ∧ r = ((pks ts).drop q).tail := by
              rcases adv_cases HRD.out with ⟨h1, _⟩ | ⟨_, c9, h1, h2, h3, h4⟩ | ⟨_, h1, _⟩
              · exact absurd HKZ.out h1
              · rw [← HT5.out, hec] at h2
                injection h2 with h2
                subst h2
                exact ⟨h3, h4⟩
              · rw [← HT5.out] at h1
                exact absurd hec (h1 _ HMEM.out)
            have hq2 : q < n := by
              rcases Nat.lt_or_ge q n with h9 | h9
              · exact h9
              · have := HKZ.out
                rw [List.drop_eq_nil_of_le (by rw [HL.out]; exact h9)] at this
                exact absurd this (by decide)
            have hpq : p = q + 1 := by rw [HP.out, hrl, List.length_tail, List.length_drop, HL.out]; omega
            subst hpq hxs
            have HCL := Lib.hid (show C.data.toList = [ch] by rw [HC.out]; rfl)
            clear hec hrl hq2 wj hex
            go_region
            have hFR := (((((((HRx.out.set 0 (.int .i64 k)).set 1 (.string T)).set 2 (.string C)).set 3 (.string ⟨#[]⟩)).set 4 (.slice none 0 0)).setOther (p := ⟨W.heap.size + 1, 0, none⟩) (show W.heap.size ≠ W.heap.size + 1 by omega) (.slice aB nB cB)).setOther (p := ⟨W.heap.size + 1, 1, none⟩) (show W.heap.size ≠ W.heap.size + 1 by omega) (.int .i64 ((q : Int) + 1))).setOther (p := ⟨W.heap.size + 1, 2, none⟩) (show W.heap.size ≠ W.heap.size + 1 by omega) (.bool true)
            have hFS := (((((((HSx.out.setOther (p := ⟨W.heap.size, 0, none⟩) (show W.heap.size + 1 ≠ W.heap.size by omega) (.int .i64 k)).setOther (p := ⟨W.heap.size, 1, none⟩) (show W.heap.size + 1 ≠ W.heap.size by omega) (.string T)).setOther (p := ⟨W.heap.size, 2, none⟩) (show W.heap.size + 1 ≠ W.heap.size by omega) (.string C)).setOther (p := ⟨W.heap.size, 3, none⟩) (show W.heap.size + 1 ≠ W.heap.size by omega) (.string ⟨#[]⟩)).setOther (p := ⟨W.heap.size, 4, none⟩) (show W.heap.size + 1 ≠ W.heap.size by omega) (.slice none 0 0)).set 0 (.slice aB nB cB)).set 1 (.int .i64 ((q : Int) + 1))).set 2 (.bool true)
            have hFB := (((((((HBx.out.setCell (p := ⟨W.heap.size, 0, none⟩) (Nat.le_refl _) (.int .i64 k)).setCell (p := ⟨W.heap.size, 1, none⟩) (Nat.le_refl _) (.string T)).setCell (p := ⟨W.heap.size, 2, none⟩) (Nat.le_refl _) (.string C)).setCell (p := ⟨W.heap.size, 3, none⟩) (Nat.le_refl _) (.string ⟨#[]⟩)).setCell (p := ⟨W.heap.size, 4, none⟩) (Nat.le_refl _) (.slice none 0 0)).setCell (p := ⟨W.heap.size + 1, 0, none⟩) (Nat.le_succ _) (.slice aB nB cB)).setCell (p := ⟨W.heap.size + 1, 1, none⟩) (Nat.le_succ _) (.int .i64 ((q : Int) + 1))).setCell (p := ⟨W.heap.size + 1, 2, none⟩) (Nat.le_succ _) (.bool true)
            have hFL := (((((((HLx.out.set (p := ⟨W.heap.size, 0, none⟩) (by simp only; omega) (.int .i64 k)).set (p := ⟨W.heap.size, 1, none⟩) (by simp only; omega) (.string T)).set (p := ⟨W.heap.size, 2, none⟩) (by simp only; omega) (.string C)).set (p := ⟨W.heap.size, 3, none⟩) (by simp only; omega) (.string ⟨#[]⟩)).set (p := ⟨W.heap.size, 4, none⟩) (by simp only; omega) (.slice none 0 0)).set (p := ⟨W.heap.size + 1, 0, none⟩) (by simp only; omega) (.slice aB nB cB)).set (p := ⟨W.heap.size + 1, 1, none⟩) (by simp only; omega) (.int .i64 ((q : Int) + 1))).set (p := ⟨W.heap.size + 1, 2, none⟩) (by simp only; omega) (.bool true)
            replace hFR := hFR.drew
            replace hFS := hFS.drew
            replace hFB := hFB.drew
            replace hFL := hFL.drew
            have o0 := hFR.p0
            have o1 := hFR.p1
            have o2 := hFR.p2
            have o3 := hFR.p3
            have o4 := hFR.p4
            have b0 := hFS.p0
            have b1 := hFS.p1
            have b2 := hFS.p2
            have HFB := Lib.hid hFB
            have HFL := Lib.hid hFL
            clear hFR hFS hFB hFL
            clear fr0 fr1 fr2 fr3 fr4 fz0 fz1 fz2 r0 r1 r2 r3 r4 z0 z1 z2
            generalize ((((((((w3.setCell ⟨W.heap.size, 0, none⟩ (.int .i64 k)).setCell ⟨W.heap.size, 1, none⟩ (.string T)).setCell ⟨W.heap.size, 2, none⟩ (.string C)).setCell ⟨W.heap.size, 3, none⟩ (.string ⟨#[]⟩)).setCell ⟨W.heap.size, 4, none⟩ (.slice none 0 0)).setCell ⟨W.heap.size + 1, 0, none⟩ (.slice aB nB cB)).setCell ⟨W.heap.size + 1, 1, none⟩ (.int .i64 ((q : Int) + 1))).setCell ⟨W.heap.size + 1, 2, none⟩ (.bool true)).drew = wz at *
            go_wp2_with fail
            exact bodyPost_ret (v := .tuple #[.agg #[(.int .i64 k), (.string T), (.string C), (.string ⟨#[]⟩), (.slice none 0 0)], .agg #[(.slice aB nB cB), (.int .i64 ((q : Int) + 1)), (.bool true)]]) (by simp [results, Tryz.results106, go_sem, o0, o1, o2, o3, o4, b0, b1, b2]) rfl ⟨verbN k T C, _, _, _, _, rfl, verbN_on k T C _ HTZ.out (by show C.data.toList.length ≤ maxLen; rw [HCL.out]; unfold maxLen; simp) (by rcases HK.out with h | h <;> omega) (by rcases HK.out with h | h <;> omega), rfl, HFL.out.base (by omega), hnB, (fun V hV => by cases hV; show _ = (⟨k, T.data.toList, C.data.toList, [], []⟩ : Tn) :: B; rw [HCL.out]), HFB.out⟩
          · have ec : (T5.toList == C.toList) = false := by rw [HEC.out]; exact decide_eq_false hec
            go_wp2_with fail
            go_quiet ((go_at_call 85; exact quiet_pure (K6.out _ (below_drewN HBx.out _))))
            clear ec hex g1
            go_wp2_with fail
            refine ⟨⟨j + 1, by congr 1 <;> omega, by omega, Lib.hid (fun j' h h2 => ?_), Lib.hid (HN1.out.drewN nq), Lib.hid (HG1.out.drewN nq), Lib.hid (HRx.out.drewN nq), Lib.hid (HSx.out.drewN nq), Lib.hid (below_drewN HBx.out nq), Lib.hid (HLx.out.below (below_drewN (Below.refl _ wr) nq))⟩, by simp [intOf]; omega⟩
            by_cases hjj : j' < j
            · exact HALL.out j' h hjj
            · obtain rfl : j' = j := by omega
              rw [← HCH.out]; exact hec
        · have e2 : ¬ (j : Int) < (A.size : Int) := by omega
          obtain ⟨hxs, hrl⟩ : x = none ∧ r = (pks ts).drop q := by
            rcases adv_cases HRD.out with ⟨h1, _⟩ | ⟨_, c9, h1, h2, _⟩ | ⟨_, _, h3, h4⟩
            · exact absurd HKZ.out h1
            · obtain ⟨j', hj', e9⟩ := List.getElem_of_mem h1
              exact absurd (by rw [HT5.out, h2, e9]) (HALL.out j' hj' (by rw [← HAL.out] at hj'; omega))
            · exact ⟨h3, h4⟩
          have hpq : p = q := by rw [HP.out, hrl, List.length_drop, HL.out]; omega
          subst hpq hxs
          have n0 := HN1.out.p0
          have n1 := HN1.out.p1
          have n2 := HN1.out.p2
          have n3 := HN1.out.p3
          have n4 := HN1.out.p4
          have g0 := HG1.out.p0
          have g1 := HG1.out.p1
          have g2 := HG1.out.p2
          have r0 := HRx.out.p0
          have r1 := HRx.out.p1
          have r2 := HRx.out.p2
          have r3 := HRx.out.p3
          have r4 := HRx.out.p4
          have z0 := HSx.out.p0
          have z1 := HSx.out.p1
          have z2 := HSx.out.p2
          have fr0 := HRx.out.f 0
          have fr1 := HRx.out.f 1
          have fr2 := HRx.out.f 2
          have fr3 := HRx.out.f 3
          have fr4 := HRx.out.f 4
          have fz0 := HSx.out.f 0
          have fz1 := HSx.out.f 1
          have fz2 := HSx.out.f 2
          clear hrl hlt
          go_wp2_with fail
          go_region
          have hFR := (((((((HRx.out.set 0 (.int .i64 k)).set 1 (.string T)).set 2 (.string ⟨#[]⟩)).set 3 (.string ⟨#[]⟩)).set 4 (.slice none 0 0)).setOther (p := ⟨W.heap.size + 1, 0, none⟩) (show W.heap.size ≠ W.heap.size + 1 by omega) (.slice none 0 0)).setOther (p := ⟨W.heap.size + 1, 1, none⟩) (show W.heap.size ≠ W.heap.size + 1 by omega) (.int .i64 (p : Int))).setOther (p := ⟨W.heap.size + 1, 2, none⟩) (show W.heap.size ≠ W.heap.size + 1 by omega) (.bool false)
          have hFS := (((((((HSx.out.setOther (p := ⟨W.heap.size, 0, none⟩) (show W.heap.size + 1 ≠ W.heap.size by omega) (.int .i64 k)).setOther (p := ⟨W.heap.size, 1, none⟩) (show W.heap.size + 1 ≠ W.heap.size by omega) (.string T)).setOther (p := ⟨W.heap.size, 2, none⟩) (show W.heap.size + 1 ≠ W.heap.size by omega) (.string ⟨#[]⟩)).setOther (p := ⟨W.heap.size, 3, none⟩) (show W.heap.size + 1 ≠ W.heap.size by omega) (.string ⟨#[]⟩)).setOther (p := ⟨W.heap.size, 4, none⟩) (show W.heap.size + 1 ≠ W.heap.size by omega) (.slice none 0 0)).set 0 (.slice none 0 0)).set 1 (.int .i64 (p : Int))).set 2 (.bool false)
          have hFB := (((((((HBx.out.setCell (p := ⟨W.heap.size, 0, none⟩) (Nat.le_refl _) (.int .i64 k)).setCell (p := ⟨W.heap.size, 1, none⟩) (Nat.le_refl _) (.string T)).setCell (p := ⟨W.heap.size, 2, none⟩) (Nat.le_refl _) (.string ⟨#[]⟩)).setCell (p := ⟨W.heap.size, 3, none⟩) (Nat.le_refl _) (.string ⟨#[]⟩)).setCell (p := ⟨W.heap.size, 4, none⟩) (Nat.le_refl _) (.slice none 0 0)).setCell (p := ⟨W.heap.size + 1, 0, none⟩) (Nat.le_succ _) (.slice none 0 0)).setCell (p := ⟨W.heap.size + 1, 1, none⟩) (Nat.le_succ _) (.int .i64 (p : Int))).setCell (p := ⟨W.heap.size + 1, 2, none⟩) (Nat.le_succ _) (.bool false)
          have hFL := (((((((HLx.out.set (p := ⟨W.heap.size, 0, none⟩) (by simp only; omega) (.int .i64 k)).set (p := ⟨W.heap.size, 1, none⟩) (by simp only; omega) (.string T)).set (p := ⟨W.heap.size, 2, none⟩) (by simp only; omega) (.string ⟨#[]⟩)).set (p := ⟨W.heap.size, 3, none⟩) (by simp only; omega) (.string ⟨#[]⟩)).set (p := ⟨W.heap.size, 4, none⟩) (by simp only; omega) (.slice none 0 0)).set (p := ⟨W.heap.size + 1, 0, none⟩) (by simp only; omega) (.slice none 0 0)).set (p := ⟨W.heap.size + 1, 1, none⟩) (by simp only; omega) (.int .i64 (p : Int))).set (p := ⟨W.heap.size + 1, 2, none⟩) (by simp only; omega) (.bool false)
          replace hFR := hFR.drew
          replace hFS := hFS.drew
          replace hFB := hFB.drew
          replace hFL := hFL.drew
          have o0 := hFR.p0
          have o1 := hFR.p1
          have o2 := hFR.p2
          have o3 := hFR.p3
          have o4 := hFR.p4
          have b0 := hFS.p0
          have b1 := hFS.p1
          have b2 := hFS.p2
          have HFB := Lib.hid hFB
          have HFL := Lib.hid hFL
          clear hFR hFS hFB hFL
          clear fr0 fr1 fr2 fr3 fr4 fz0 fz1 fz2 r0 r1 r2 r3 r4 z0 z1 z2
          generalize ((((((((wr.setCell ⟨W.heap.size, 0, none⟩ (.int .i64 k)).setCell ⟨W.heap.size, 1, none⟩ (.string T)).setCell ⟨W.heap.size, 2, none⟩ (.string ⟨#[]⟩)).setCell ⟨W.heap.size, 3, none⟩ (.string ⟨#[]⟩)).setCell ⟨W.heap.size, 4, none⟩ (.slice none 0 0)).setCell ⟨W.heap.size + 1, 0, none⟩ (.slice none 0 0)).setCell ⟨W.heap.size + 1, 1, none⟩ (.int .i64 (p : Int))).setCell ⟨W.heap.size + 1, 2, none⟩ (.bool false)).drew = wz at *
          go_wp2_with fail
          exact bodyPost_ret (v := .tuple #[.agg #[(.int .i64 k), (.string T), (.string ⟨#[]⟩), (.string ⟨#[]⟩), (.slice none 0 0)], .agg #[(.slice none 0 0), (.int .i64 (p : Int)), (.bool false)]]) (by simp [results, Tryz.results106, go_sem, o0, o1, o2, o3, o4, b0, b1, b2]) rfl ⟨verbN k T ⟨#[]⟩, _, _, _, [], rfl, verbN_on k T ⟨#[]⟩ _ HTZ.out (Nat.zero_le _) (by rcases HK.out with h | h <;> omega) (by rcases HK.out with h | h <;> omega), rfl, Nl.nil _ _, by omega, (fun V hV => by cases hV), HFB.out⟩
    · have e5 : (kk == 5) = false := beq_eq_false_iff_ne.2 h5
      obtain ⟨hxs, hrl⟩ : x = some (⟨k, T.data.toList, [], [], []⟩ :: B) ∧ r = (pks ts).drop q := by
        rcases adv_cases HRD.out with ⟨_, h1, h2⟩ | ⟨h1, _⟩ | ⟨h1, _⟩
        · exact ⟨h1, h2⟩
        · exact absurd (HKZ.out ▸ h1) h5
        · exact absurd (HKZ.out ▸ h1) h5
      have hpq : p = q := by rw [HP.out, hrl, List.length_drop, HL.out]; omega
      subst hpq hxs
      refine K5.out.mono ?_
      rintro e w1 ⟨rfl, rfl⟩
      rw [HZ.out.1] at n0 n1 n2 n3 n4 g0 g1 g2 ⊢
      go_wp2_with fail
      go_region
      have hFR := (((((((HRx.out.set 0 (.int .i64 k)).set 1 (.string T)).set 2 (.string ⟨#[]⟩)).set 3 (.string ⟨#[]⟩)).set 4 (.slice none 0 0)).setOther (p := ⟨W.heap.size + 1, 0, none⟩) (show W.heap.size ≠ W.heap.size + 1 by omega) (.slice aB nB cB)).setOther (p := ⟨W.heap.size + 1, 1, none⟩) (show W.heap.size ≠ W.heap.size + 1 by omega) (.int .i64 (p : Int))).setOther (p := ⟨W.heap.size + 1, 2, none⟩) (show W.heap.size ≠ W.heap.size + 1 by omega) (.bool true)
      have hFS := (((((((HSx.out.setOther (p := ⟨W.heap.size, 0, none⟩) (show W.heap.size + 1 ≠ W.heap.size by omega) (.int .i64 k)).setOther (p := ⟨W.heap.size, 1, none⟩) (show W.heap.size + 1 ≠ W.heap.size by omega) (.string T)).setOther (p := ⟨W.heap.size, 2, none⟩) (show W.heap.size + 1 ≠ W.heap.size by omega) (.string ⟨#[]⟩)).setOther (p := ⟨W.heap.size, 3, none⟩) (show W.heap.size + 1 ≠ W.heap.size by omega) (.string ⟨#[]⟩)).setOther (p := ⟨W.heap.size, 4, none⟩) (show W.heap.size + 1 ≠ W.heap.size by omega) (.slice none 0 0)).set 0 (.slice aB nB cB)).set 1 (.int .i64 (p : Int))).set 2 (.bool true)
      have hFB := (((((((HBx.out.setCell (p := ⟨W.heap.size, 0, none⟩) (Nat.le_refl _) (.int .i64 k)).setCell (p := ⟨W.heap.size, 1, none⟩) (Nat.le_refl _) (.string T)).setCell (p := ⟨W.heap.size, 2, none⟩) (Nat.le_refl _) (.string ⟨#[]⟩)).setCell (p := ⟨W.heap.size, 3, none⟩) (Nat.le_refl _) (.string ⟨#[]⟩)).setCell (p := ⟨W.heap.size, 4, none⟩) (Nat.le_refl _) (.slice none 0 0)).setCell (p := ⟨W.heap.size + 1, 0, none⟩) (Nat.le_succ _) (.slice aB nB cB)).setCell (p := ⟨W.heap.size + 1, 1, none⟩) (Nat.le_succ _) (.int .i64 (p : Int))).setCell (p := ⟨W.heap.size + 1, 2, none⟩) (Nat.le_succ _) (.bool true)
      have hFL := (((((((HLx.out.set (p := ⟨W.heap.size, 0, none⟩) (by simp only; omega) (.int .i64 k)).set (p := ⟨W.heap.size, 1, none⟩) (by simp only; omega) (.string T)).set (p := ⟨W.heap.size, 2, none⟩) (by simp only; omega) (.string ⟨#[]⟩)).set (p := ⟨W.heap.size, 3, none⟩) (by simp only; omega) (.string ⟨#[]⟩)).set (p := ⟨W.heap.size, 4, none⟩) (by simp only; omega) (.slice none 0 0)).set (p := ⟨W.heap.size + 1, 0, none⟩) (by simp only; omega) (.slice aB nB cB)).set (p := ⟨W.heap.size + 1, 1, none⟩) (by simp only; omega) (.int .i64 (p : Int))).set (p := ⟨W.heap.size + 1, 2, none⟩) (by simp only; omega) (.bool true)
      replace hFR := hFR.drew
      replace hFS := hFS.drew
      replace hFB := hFB.drew
      replace hFL := hFL.drew
      have o0 := hFR.p0
      have o1 := hFR.p1
      have o2 := hFR.p2
      have o3 := hFR.p3
      have o4 := hFR.p4
      have b0 := hFS.p0
      have b1 := hFS.p1
      have b2 := hFS.p2
      have HFB := Lib.hid hFB
      have HFL := Lib.hid hFL
      clear hFR hFS hFB hFL
      clear fr0 fr1 fr2 fr3 fr4 fz0 fz1 fz2 r0 r1 r2 r3 r4 z0 z1 z2
      generalize ((((((((W1.setCell ⟨W.heap.size, 0, none⟩ (.int .i64 k)).setCell ⟨W.heap.size, 1, none⟩ (.string T)).setCell ⟨W.heap.size, 2, none⟩ (.string ⟨#[]⟩)).setCell ⟨W.heap.size, 3, none⟩ (.string ⟨#[]⟩)).setCell ⟨W.heap.size, 4, none⟩ (.slice none 0 0)).setCell ⟨W.heap.size + 1, 0, none⟩ (.slice aB nB cB)).setCell ⟨W.heap.size + 1, 1, none⟩ (.int .i64 (p : Int))).setCell ⟨W.heap.size + 1, 2, none⟩ (.bool true)).drew = wz at *
      go_wp2_with fail
      exact bodyPost_ret (v := .tuple #[.agg #[(.int .i64 k), (.string T), (.string ⟨#[]⟩), (.string ⟨#[]⟩), (.slice none 0 0)], .agg #[(.slice aB nB cB), (.int .i64 (p : Int)), (.bool true)]]) (by simp [results, Tryz.results106, go_sem, o0, o1, o2, o3, o4, b0, b1, b2]) rfl ⟨verbN k T ⟨#[]⟩, _, _, _, _, rfl, verbN_on k T ⟨#[]⟩ _ HTZ.out (Nat.zero_le _) (by rcases HK.out with h | h <;> omega) (by rcases HK.out with h | h <;> omega), rfl, HFL.out.base (by omega), hnB, (fun V hV => by cases hV; rfl), HFB.out⟩
  · obtain ⟨x1, r1, h1, hx1⟩ := hrd
    have eT : T.toList = [123] := by rw [str_tl]; exact heq
    have HEQ := Lib.hid heq
    have A1 := KC.out W1 HB1.out x1 r1 h1
    obtain ⟨e1, hj1⟩ := suf_drop h1.suffix (by rw [HL.out]; exact hi1)
    rw [HL.out] at e1 hj1
    obtain ⟨q, hq⟩ : ∃ q, q = n - r1.length := ⟨_, rfl⟩
    rw [← hq] at A1 e1 hj1
    have hqn : q ≤ n := by omega
    replace A1 := Lib.hid A1
    have HQ1 := Lib.hid hq
    have HE1 := Lib.hid e1
    have HX1 := Lib.hid hx1
    clear KC h1 hx1 e1 hq heq
    go_enter Tryz.func106, Tryz.ntmps106
    clear hW0 hW1
    go_wp2_with fail
    rw [← HW0.out]
    refine K2.out.mono ?_
    rintro e w1 ⟨rfl, rfl⟩
    have hw1 := HW1.out
    rw [hw1] at n0 n1 n2 n3 n4 g0 g1 g2
    clear hw1
    go_wp2_with fail
    rw [← HW1.out]
    refine A1.out.mono ?_
    rintro e w2 ⟨aB, nB, cB, B, rfl, hLB, hnB, hx2, hb2⟩
    clear n0 n1 n2 n3 n4 g0 g1 g2 A1 eT
    have hW4 : W1.heap.size = W.heap.size + 1 + 1 + 1 + 1 := by rw [HZ.out.2, HZ.out.1]
    have hl0 : W0.heap.size = W.heap.size + 1 + 1 := HZ.out.1
    have HG2 := (HG1.out.on hb2)
    have HN2 := Lib.hid (((((HN1.out.on hb2).setOther (p := ⟨W0.heap.size + 1, 0, none⟩) (show W0.heap.size ≠ W0.heap.size + 1 by omega) (.slice aB nB cB)).setOther (p := ⟨W0.heap.size + 1, 1, none⟩) (show W0.heap.size ≠ W0.heap.size + 1 by omega) (.int .i64 (q : Int)))).setOther (p := ⟨W0.heap.size + 1, 2, none⟩) (show W0.heap.size ≠ W0.heap.size + 1 by omega) (.bool x1.isSome))
    have HG3 := Lib.hid (HG2.set3 (.slice aB nB cB) (.int .i64 (q : Int)) (.bool x1.isSome))
    have HR3 := Lib.hid (((((HR1.out.on hb2).setOther (p := ⟨W0.heap.size + 1, 0, none⟩) (show W.heap.size ≠ W0.heap.size + 1 by omega) (.slice aB nB cB)).setOther (p := ⟨W0.heap.size + 1, 1, none⟩) (show W.heap.size ≠ W0.heap.size + 1 by omega) (.int .i64 (q : Int)))).setOther (p := ⟨W0.heap.size + 1, 2, none⟩) (show W.heap.size ≠ W0.heap.size + 1 by omega) (.bool x1.isSome))
    have HS3 := Lib.hid (((((HS1.out.on hb2).setOther (p := ⟨W0.heap.size + 1, 0, none⟩) (show W.heap.size + 1 ≠ W0.heap.size + 1 by omega) (.slice aB nB cB)).setOther (p := ⟨W0.heap.size + 1, 1, none⟩) (show W.heap.size + 1 ≠ W0.heap.size + 1 by omega) (.int .i64 (q : Int)))).setOther (p := ⟨W0.heap.size + 1, 2, none⟩) (show W.heap.size + 1 ≠ W0.heap.size + 1 by omega) (.bool x1.isSome))
    have HB3 := Lib.hid (below3 (HB1.out.trans (hb2.mono HB1.out.size)) (show W.heap.size ≤ W0.heap.size + 1 by omega) (.slice aB nB cB) (.int .i64 (q : Int)) (.bool x1.isSome))
    have HL3 := Lib.hid (((hLB.set (p := ⟨W0.heap.size + 1, 0, none⟩) (by simp only; omega) (.slice aB nB cB)).set (p := ⟨W0.heap.size + 1, 1, none⟩) (by simp only; omega) (.int .i64 (q : Int))).set (p := ⟨W0.heap.size + 1, 2, none⟩) (by simp only; omega) (.bool x1.isSome))
    have HB4 := Lib.hid (HB1.out.trans (hb2.mono HB1.out.size))
    have g0 := HG2.p0
    have g1 := HG2.p1
    have g2 := HG2.p2
    have fg0 := HG2.f 0
    have fg1 := HG2.f 1
    have fg2 := HG2.f 2
    have HX2 := Lib.hid hx2
    obtain ⟨bB, hbb⟩ : ∃ bB, bB = W1.heap.size := ⟨_, rfl⟩
    rw [← hbb] at HL3
    have hbB : W.heap.size + 1 + 1 + 1 < bB := by omega
    clear hLB hx2 hb2 HG2 HN1 HG1 HR1 HS1 HB1 hW4 hl0 hbb
    rcases HX1.out with ⟨rfl, rfl, hr⟩ | ⟨B2, rfl, hrd⟩
    · have hpq : p = q := by rw [HP.out, HQ1.out, hr]
      subst hpq
      rw [Option.isSome_none] at *
      clear hr
      rw [HZ.out.1] at HN2 HG3 HR3 HS3 HB3 HL3 g0 g1 g2 fg0 fg1 fg2 ⊢
      go_wp2_with fail
      clear g0 g1 g2 fg0 fg1 fg2
      have HBx := HB3
      have HLx := HL3
      have HRx := HR3
      have HSx := HS3
      generalize ((w2.setCell ⟨W.heap.size + 1 + 1 + 1, 0, none⟩ (.slice aB nB cB)).setCell ⟨W.heap.size + 1 + 1 + 1, 1, none⟩ (.int .i64 (p : Int))).setCell ⟨W.heap.size + 1 + 1 + 1, 2, none⟩ (.bool false) = w3 at *
      have n0 := HN2.out.p0
      have n1 := HN2.out.p1
      have n2 := HN2.out.p2
      have n3 := HN2.out.p3
      have n4 := HN2.out.p4
      have g0 := HG3.out.p0
      have g1 := HG3.out.p1
      have g2 := HG3.out.p2
      have r0 := HRx.out.p0
      have r1 := HRx.out.p1
      have r2 := HRx.out.p2
      have r3 := HRx.out.p3
      have r4 := HRx.out.p4
      have z0 := HSx.out.p0
      have z1 := HSx.out.p1
      have z2 := HSx.out.p2
      have fr0 := HRx.out.f 0
      have fr1 := HRx.out.f 1
      have fr2 := HRx.out.f 2
      have fr3 := HRx.out.f 3
      have fr4 := HRx.out.f 4
      have fz0 := HSx.out.f 0
      have fz1 := HSx.out.f 1
      have fz2 := HSx.out.f 2
      go_region
      have hFR := (((((((HRx.out.set 0 (.int .i64 k)).set 1 (.string T)).set 2 (.string ⟨#[]⟩)).set 3 (.string ⟨#[]⟩)).set 4 (.slice none 0 0)).setOther (p := ⟨W.heap.size + 1, 0, none⟩) (show W.heap.size ≠ W.heap.size + 1 by omega) (.slice aB nB cB)).setOther (p := ⟨W.heap.size + 1, 1, none⟩) (show W.heap.size ≠ W.heap.size + 1 by omega) (.int .i64 (p : Int))).setOther (p := ⟨W.heap.size + 1, 2, none⟩) (show W.heap.size ≠ W.heap.size + 1 by omega) (.bool false)
      have hFS := (((((((HSx.out.setOther (p := ⟨W.heap.size, 0, none⟩) (show W.heap.size + 1 ≠ W.heap.size by omega) (.int .i64 k)).setOther (p := ⟨W.heap.size, 1, none⟩) (show W.heap.size + 1 ≠ W.heap.size by omega) (.string T)).setOther (p := ⟨W.heap.size, 2, none⟩) (show W.heap.size + 1 ≠ W.heap.size by omega) (.string ⟨#[]⟩)).setOther (p := ⟨W.heap.size, 3, none⟩) (show W.heap.size + 1 ≠ W.heap.size by omega) (.string ⟨#[]⟩)).setOther (p := ⟨W.heap.size, 4, none⟩) (show W.heap.size + 1 ≠ W.heap.size by omega) (.slice none 0 0)).set 0 (.slice aB nB cB)).set 1 (.int .i64 (p : Int))).set 2 (.bool false)
      have hFB := (((((((HBx.out.setCell (p := ⟨W.heap.size, 0, none⟩) (Nat.le_refl _) (.int .i64 k)).setCell (p := ⟨W.heap.size, 1, none⟩) (Nat.le_refl _) (.string T)).setCell (p := ⟨W.heap.size, 2, none⟩) (Nat.le_refl _) (.string ⟨#[]⟩)).setCell (p := ⟨W.heap.size, 3, none⟩) (Nat.le_refl _) (.string ⟨#[]⟩)).setCell (p := ⟨W.heap.size, 4, none⟩) (Nat.le_refl _) (.slice none 0 0)).setCell (p := ⟨W.heap.size + 1, 0, none⟩) (Nat.le_succ _) (.slice aB nB cB)).setCell (p := ⟨W.heap.size + 1, 1, none⟩) (Nat.le_succ _) (.int .i64 (p : Int))).setCell (p := ⟨W.heap.size + 1, 2, none⟩) (Nat.le_succ _) (.bool false)
      have hFL := (((((((HLx.out.set (p := ⟨W.heap.size, 0, none⟩) (by simp only; omega) (.int .i64 k)).set (p := ⟨W.heap.size, 1, none⟩) (by simp only; omega) (.string T)).set (p := ⟨W.heap.size, 2, none⟩) (by simp only; omega) (.string ⟨#[]⟩)).set (p := ⟨W.heap.size, 3, none⟩) (by simp only; omega) (.string ⟨#[]⟩)).set (p := ⟨W.heap.size, 4, none⟩) (by simp only; omega) (.slice none 0 0)).set (p := ⟨W.heap.size + 1, 0, none⟩) (by simp only; omega) (.slice aB nB cB)).set (p := ⟨W.heap.size + 1, 1, none⟩) (by simp only; omega) (.int .i64 (p : Int))).set (p := ⟨W.heap.size + 1, 2, none⟩) (by simp only; omega) (.bool false)
      replace hFR := hFR.drew
      replace hFS := hFS.drew
      replace hFB := hFB.drew
      replace hFL := hFL.drew
      have o0 := hFR.p0
      have o1 := hFR.p1
      have o2 := hFR.p2
      have o3 := hFR.p3
      have o4 := hFR.p4
      have b0 := hFS.p0
      have b1 := hFS.p1
      have b2 := hFS.p2
      have HFB := Lib.hid hFB
      have HFL := Lib.hid hFL
      clear hFR hFS hFB hFL
      clear fr0 fr1 fr2 fr3 fr4 fz0 fz1 fz2 r0 r1 r2 r3 r4 z0 z1 z2
      generalize ((((((((w3.setCell ⟨W.heap.size, 0, none⟩ (.int .i64 k)).setCell ⟨W.heap.size, 1, none⟩ (.string T)).setCell ⟨W.heap.size, 2, none⟩ (.string ⟨#[]⟩)).setCell ⟨W.heap.size, 3, none⟩ (.string ⟨#[]⟩)).setCell ⟨W.heap.size, 4, none⟩ (.slice none 0 0)).setCell ⟨W.heap.size + 1, 0, none⟩ (.slice aB nB cB)).setCell ⟨W.heap.size + 1, 1, none⟩ (.int .i64 (p : Int))).setCell ⟨W.heap.size + 1, 2, none⟩ (.bool false)).drew = wz at *
      go_wp2_with fail
      exact bodyPost_ret (v := .tuple #[.agg #[(.int .i64 k), (.string T), (.string ⟨#[]⟩), (.string ⟨#[]⟩), (.slice none 0 0)], .agg #[(.slice aB nB cB), (.int .i64 (p : Int)), (.bool false)]]) (by simp [results, Tryz.results106, go_sem, o0, o1, o2, o3, o4, b0, b1, b2]) rfl ⟨verbN k T ⟨#[]⟩, _, _, _, _, rfl, verbN_on k T ⟨#[]⟩ _ HTZ.out (Nat.zero_le _) (by rcases HK.out with h | h <;> omega) (by rcases HK.out with h | h <;> omega), rfl, HFL.out.base (by omega), hnB, (fun V hV => by cases hV), HFB.out⟩
    · obtain rfl : B = B2 := HX2.out _ rfl
      rw [Option.isSome_some] at *
      have HRD : Hid (Rd' numT (.adv k T.data.toList B) ((pks ts).drop q) x r) := Lib.hid (by rw [HEQ.out, ← HE1.out]; exact hrd)
      clear hrd
      go_wp2_with fail
      clear g0 g1 g2 fg0 fg1 fg2
      have HBx := HB3
      have HLx := HL3
      have HRx := HR3
      have HSx := HS3
      have HN1 := HN2
      have HG1 := HG3
      generalize ((w2.setCell ⟨W0.heap.size + 1, 0, none⟩ (.slice aB nB cB)).setCell ⟨W0.heap.size + 1, 1, none⟩ (.int .i64 (q : Int))).setCell ⟨W0.heap.size + 1, 2, none⟩ (.bool true) = w3 at *
      have K5 := KK.out w3 HBx.out q
      generalize hz : kd0 ((pks ts).drop q) = kk at *
      have HKZ := Lib.hid hz
      replace K5 := Lib.hid K5
      have n0 := HN1.out.p0
      have n1 := HN1.out.p1
      have n2 := HN1.out.p2
      have n3 := HN1.out.p3
      have n4 := HN1.out.p4
      have g0 := HG1.out.p0
      have g1 := HG1.out.p1
      have g2 := HG1.out.p2
      have r0 := HRx.out.p0
      have r1 := HRx.out.p1
      have r2 := HRx.out.p2
      have r3 := HRx.out.p3
      have r4 := HRx.out.p4
      have z0 := HSx.out.p0
      have z1 := HSx.out.p1
      have z2 := HSx.out.p2
      have fr0 := HRx.out.f 0
      have fr1 := HRx.out.f 1
      have fr2 := HRx.out.f 2
      have fr3 := HRx.out.f 3
      have fr4 := HRx.out.f 4
      have fz0 := HSx.out.f 0
      have fz1 := HSx.out.f 1
      have fz2 := HSx.out.f 2
      clear hz
      by_cases h5 : kk = 5
      · subst h5
        obtain ⟨t5, ht5⟩ : ∃ t5, t5 = tx0 ((pks ts).drop q) := ⟨_, rfl⟩
        have HT5 := Lib.hid ht5
        have K6 := Lib.hid (fun w (hb : Below W.heap.size W w) => (by rw [ht5]; exact KT.out w hb q : Calls Tryz.prog 85 #[.slice a n c, .int .i64 q] w (PureEnd (.string (tx t5)) w)))
        have hal := advs_len HK.out
        have HAL := Lib.hid (show A.size = (advs k).length by rw [← HA.out]; exact Array.length_toList.symm)
        have hA4 : A.size ≤ 4 := by rw [HAL.out]; exact hal.1
        clear ht5 hal
        refine K5.out.mono ?_
        rintro e w1 ⟨rfl, rfl⟩
        rw [HZ.out.1] at n0 n1 n2 n3 n4 g0 g1 g2 ⊢
        have HN2 := Lib.hid (show Bk 37 w3 (W.heap.size + 1 + 1) [.int .i64 k, .string T, .string ⟨#[]⟩, .string ⟨#[]⟩, .slice none 0 0] by rw [← HZ.out.1]; exact HN1.out)
        have HG2 := Lib.hid (show Bk 87 w3 (W.heap.size + 1 + 1 + 1) [.slice aB nB cB, .int .i64 q, .bool true] by rw [← HZ.out.1]; exact HG1.out)
        go_wp2_with fail
        clear n0 n1 n2 n3 n4 g0 g1 g2 r0 r1 r2 r3 r4 z0 z1 z2 fr0 fr1 fr2 fr3 fr4 fz0 fz1 fz2
        go_loopw [12] (fun iv wr => ∃ j : Nat, iv = .int .i64 j ∧ j ≤ A.size ∧ Hid (∀ j' (h : j' < (advs k).length), j' < j → t5 ≠ [(advs k)[j']]) ∧ Hid (Bk 37 wr (W.heap.size + 1 + 1) [.int .i64 k, .string T, .string ⟨#[]⟩, .string ⟨#[]⟩, .slice none 0 0]) ∧ Hid (Bk 87 wr (W.heap.size + 1 + 1 + 1) [.slice aB nB cB, .int .i64 q, .bool true]) ∧ Hid (Bk 37 wr W.heap.size [.int .i64 0, .string ⟨#[]⟩, .string ⟨#[]⟩, .string ⟨#[]⟩, .slice none 0 0]) ∧ Hid (Bk 87 wr (W.heap.size + 1) [.slice none 0 0, .int .i64 0, .bool false]) ∧ Hid (Below W.heap.size W wr) ∧ Hid (Nl bB wr aB nB cB B)) (fun iv _ => A.size - (intOf iv).toNat)
        case atStart => exact ⟨0, rfl, by omega, Lib.hid (fun j' _ h => by omega), HN2, HG2, HRx, HSx, HBx, HLx⟩
        case round =>
          clear HN2 HG2 HRx HSx HBx HLx HN1 HG1 K5
          obtain ⟨j, rfl, hj, HALL, HN1, HG1, HRx, HSx, HBx, HLx⟩ := hrel
          by_cases hlt : j < A.size
          · have e2 : (j : Int) < (A.size : Int) := by omega
            have hjm : j < (advs k).length := by rw [← HAL.out]; exact hlt
            have HEX := Lib.hid (advs_of HK.out HA.out hjm)
            have HEC := Lib.hid (tx_one t5 (advs k)[j])
            have HMEM := Lib.hid (List.getElem_mem hjm : (advs k)[j] ∈ advs k)
            obtain ⟨ch, hch⟩ : ∃ ch, ch = (advs k)[j] := ⟨_, rfl⟩
            rw [← hch] at HEX HEC HMEM
            have HCH := Lib.hid hch
            clear hch
            obtain ⟨C, hC⟩ : ∃ C, C = tx [ch] := ⟨_, rfl⟩
            obtain ⟨T5, hT5⟩ : ∃ T5, T5 = tx t5 := ⟨_, rfl⟩
            rw [← hC] at HEX HEC
            rw [← hT5] at HEC K6
            have HC := Lib.hid hC
            have HTT := Lib.hid hT5
            clear hC hT5
            have hex := HEX.out
            have wj : IntKind.i64.wrap ((j : Int) + 1) = (j : Int) + 1 := wrn (by omega) (by omega)
            have g1 := HG1.out.p1
            have hTz := maxLen_le HTZ.out
            by_cases hec : t5 = [ch]
            · have ec : (T5.toList == C.toList) = true := by rw [HEC.out]; exact decide_eq_true hec
              go_wp2_with fail
              go_quiet ((go_at_call 85; exact quiet_pure (K6.out _ (below_drewN HBx.out _))))
              have HN2 := HN1.out.drewN nq
              have HG2 := HG1.out.drewN nq
              have HR2 := HRx.out.drewN nq
              have HS2 := HSx.out.drewN nq
              have HB2 := below_drewN HBx.out nq
              have HL2 := HLx.out.below (below_drewN (Below.refl _ wr) nq)
              generalize wr.drewN nq = w2 at *
              clear g1 ec HN1 HG1 HRx HSx HBx HLx
              have HN3 := Lib.hid ((HN2.set 2 (.string C)).setOther (p := ⟨W.heap.size + 1 + 1 + 1, 1, none⟩) (show W.heap.size + 1 + 1 ≠ W.heap.size + 1 + 1 + 1 by omega) (.int .i64 ((q : Int) + 1)))
              have HG3 := Lib.hid ((HG2.setOther (p := ⟨W.heap.size + 1 + 1, 2, none⟩) (show W.heap.size + 1 + 1 + 1 ≠ W.heap.size + 1 + 1 by omega) (.string C)).set 1 (.int .i64 ((q : Int) + 1)))
              have HRx := Lib.hid ((HR2.setOther (p := ⟨W.heap.size + 1 + 1, 2, none⟩) (show W.heap.size ≠ W.heap.size + 1 + 1 by omega) (.string C)).setOther (p := ⟨W.heap.size + 1 + 1 + 1, 1, none⟩) (show W.heap.size ≠ W.heap.size + 1 + 1 + 1 by omega) (.int .i64 ((q : Int) + 1)))
              have HSx := Lib.hid ((HS2.setOther (p := ⟨W.heap.size + 1 + 1, 2, none⟩) (show W.heap.size + 1 ≠ W.heap.size + 1 + 1 by omega) (.string C)).setOther (p := ⟨W.heap.size + 1 + 1 + 1, 1, none⟩) (show W.heap.size + 1 ≠ W.heap.size + 1 + 1 + 1 by omega) (.int .i64 ((q : Int) + 1)))
              have HBx := Lib.hid ((HB2.setCell (p := ⟨W.heap.size + 1 + 1, 2, none⟩) (show W.heap.size ≤ W.heap.size + 1 + 1 by omega) (.string C)).setCell (p := ⟨W.heap.size + 1 + 1 + 1, 1, none⟩) (show W.heap.size ≤ W.heap.size + 1 + 1 + 1 by omega) (.int .i64 ((q : Int) + 1)))
              have HLx := Lib.hid ((HL2.set (p := ⟨W.heap.size + 1 + 1, 2, none⟩) (by simp only; omega) (.string C)).set (p := ⟨W.heap.size + 1 + 1 + 1, 1, none⟩) (by simp only; omega) (.int .i64 ((q : Int) + 1)))
              have n2 := HN2.p2
              have fn2 := HN2.f 2
              have g1 := HG2.p1
              have fg1 := HG2.f 1
              clear HN2 HG2 HR2 HS2 HB2 HL2
              have wq : IntKind.i64.wrap ((q : Int) + 1) = (q : Int) + 1 := wrn (by omega) (by omega)
              go_wp2_with fail
              clear n2 fn2 g1 fg1
              generalize (w2.setCell ⟨W.heap.size + 1 + 1, 2, none⟩ (.string C)).setCell ⟨W.heap.size + 1 + 1 + 1, 1, none⟩ (.int .i64 ((q : Int) + 1)) = w3 at *
              have n0 := HN3.out.p0
              have n1 := HN3.out.p1
              have n2 := HN3.out.p2
              have n3 := HN3.out.p3
              have n4 := HN3.out.p4
              have g0 := HG3.out.p0
              have g1 := HG3.out.p1
              have g2 := HG3.out.p2
              have r0 := HRx.out.p0
              have r1 := HRx.out.p1
              have r2 := HRx.out.p2
              have r3 := HRx.out.p3
              have r4 := HRx.out.p4
              have z0 := HSx.out.p0
              have z1 := HSx.out.p1
              have z2 := HSx.out.p2
              have fr0 := HRx.out.f 0
              have fr1 := HRx.out.f 1
              have fr2 := HRx.out.f 2
              have fr3 := HRx.out.f 3
              have fr4 := HRx.out.f 4
              have fz0 := HSx.out.f 0
              have fz1 := HSx.out.f 1
              have fz2 := HSx.out.f 2
              obtain ⟨hxs, hrl⟩ : x = some (⟨k, T.data.toList, [ch], [], []⟩ :: B) ∧ r = ((pks ts).drop q).tail := by
                rcases adv_cases HRD.out with ⟨h1, _⟩ | ⟨_, c9, h1, h2, h3, h4⟩ | ⟨_, h1, _⟩
                · exact absurd HKZ.out h1
                · rw [← HT5.out, hec] at h2
                  injection h2 with h2
                  subst h2
                  exact ⟨h3, h4⟩
                · rw [← HT5.out] at h1
                  exact absurd hec (h1 _ HMEM.out)
              have hq2 : q < n := by
                rcases Nat.lt_or_ge q n with h9 | h9
                · exact h9
                · have := HKZ.out
                  rw [List.drop_eq_nil_of_le (by rw [HL.out]; exact h9)] at this
                  exact absurd this (by decide)
              have hpq : p = q + 1 := by rw [HP.out, hrl, List.length_tail, List.length_drop, HL.out]; omega
              subst hpq hxs
              have HCL := Lib.hid (show C.data.toList = [ch] by rw [HC.out]; rfl)
              clear hec hrl hq2 wj hex
              go_region
              have hFR := (((((((HRx.out.set 0 (.int .i64 k)).set 1 (.string T)).set 2 (.string C)).set 3 (.string ⟨#[]⟩)).set 4 (.slice none 0 0)).setOther (p := ⟨W.heap.size + 1, 0, none⟩) (show W.heap.size ≠ W.heap.size + 1 by omega) (.slice aB nB cB)).setOther (p := ⟨W.heap.size + 1, 1, none⟩) (show W.heap.size ≠ W.heap.size + 1 by omega) (.int .i64 ((q : Int) + 1))).setOther (p := ⟨W.heap.size + 1, 2, none⟩) (show W.heap.size ≠ W.heap.size + 1 by omega) (.bool true)
              have hFS := (((((((HSx.out.setOther (p := ⟨W.heap.size, 0, none⟩) (show W.heap.size + 1 ≠ W.heap.size by omega) (.int .i64 k)).setOther (p := ⟨W.heap.size, 1, none⟩) (show W.heap.size + 1 ≠ W.heap.size by omega) (.string T)).setOther (p := ⟨W.heap.size, 2, none⟩) (show W.heap.size + 1 ≠ W.heap.size by omega) (.string C)).setOther (p := ⟨W.heap.size, 3, none⟩) (show W.heap.size + 1 ≠ W.heap.size by omega) (.string ⟨#[]⟩)).setOther (p := ⟨W.heap.size, 4, none⟩) (show W.heap.size + 1 ≠ W.heap.size by omega) (.slice none 0 0)).set 0 (.slice aB nB cB)).set 1 (.int .i64 ((q : Int) + 1))).set 2 (.bool true)
              have hFB := (((((((HBx.out.setCell (p := ⟨W.heap.size, 0, none⟩) (Nat.le_refl _) (.int .i64 k)).setCell (p := ⟨W.heap.size, 1, none⟩) (Nat.le_refl _) (.string T)).setCell (p := ⟨W.heap.size, 2, none⟩) (Nat.le_refl _) (.string C)).setCell (p := ⟨W.heap.size, 3, none⟩) (Nat.le_refl _) (.string ⟨#[]⟩)).setCell (p := ⟨W.heap.size, 4, none⟩) (Nat.le_refl _) (.slice none 0 0)).setCell (p := ⟨W.heap.size + 1, 0, none⟩) (Nat.le_succ _) (.slice aB nB cB)).setCell (p := ⟨W.heap.size + 1, 1, none⟩) (Nat.le_succ _) (.int .i64 ((q : Int) + 1))).setCell (p := ⟨W.heap.size + 1, 2, none⟩) (Nat.le_succ _) (.bool true)
              have hFL := (((((((HLx.out.set (p := ⟨W.heap.size, 0, none⟩) (by simp only; omega) (.int .i64 k)).set (p := ⟨W.heap.size, 1, none⟩) (by simp only; omega) (.string T)).set (p := ⟨W.heap.size, 2, none⟩) (by simp only; omega) (.string C)).set (p := ⟨W.heap.size, 3, none⟩) (by simp only; omega) (.string ⟨#[]⟩)).set (p := ⟨W.heap.size, 4, none⟩) (by simp only; omega) (.slice none 0 0)).set (p := ⟨W.heap.size + 1, 0, none⟩) (by simp only; omega) (.slice aB nB cB)).set (p := ⟨W.heap.size + 1, 1, none⟩) (by simp only; omega) (.int .i64 ((q : Int) + 1))).set (p := ⟨W.heap.size + 1, 2, none⟩) (by simp only; omega) (.bool true)
              replace hFR := hFR.drew
              replace hFS := hFS.drew
              replace hFB := hFB.drew
              replace hFL := hFL.drew
              have o0 := hFR.p0
              have o1 := hFR.p1
              have o2 := hFR.p2
              have o3 := hFR.p3
              have o4 := hFR.p4
              have b0 := hFS.p0
              have b1 := hFS.p1
              have b2 := hFS.p2
              have HFB := Lib.hid hFB
              have HFL := Lib.hid hFL
              clear hFR hFS hFB hFL
              clear fr0 fr1 fr2 fr3 fr4 fz0 fz1 fz2 r0 r1 r2 r3 r4 z0 z1 z2
              generalize ((((((((w3.setCell ⟨W.heap.size, 0, none⟩ (.int .i64 k)).setCell ⟨W.heap.size, 1, none⟩ (.string T)).setCell ⟨W.heap.size, 2, none⟩ (.string C)).setCell ⟨W.heap.size, 3, none⟩ (.string ⟨#[]⟩)).setCell ⟨W.heap.size, 4, none⟩ (.slice none 0 0)).setCell ⟨W.heap.size + 1, 0, none⟩ (.slice aB nB cB)).setCell ⟨W.heap.size + 1, 1, none⟩ (.int .i64 ((q : Int) + 1))).setCell ⟨W.heap.size + 1, 2, none⟩ (.bool true)).drew = wz at *
              go_wp2_with fail
              exact bodyPost_ret (v := .tuple #[.agg #[(.int .i64 k), (.string T), (.string C), (.string ⟨#[]⟩), (.slice none 0 0)], .agg #[(.slice aB nB cB), (.int .i64 ((q : Int) + 1)), (.bool true)]]) (by simp [results, Tryz.results106, go_sem, o0, o1, o2, o3, o4, b0, b1, b2]) rfl ⟨verbN k T C, _, _, _, _, rfl, verbN_on k T C _ HTZ.out (by show C.data.toList.length ≤ maxLen; rw [HCL.out]; unfold maxLen; simp) (by rcases HK.out with h | h <;> omega) (by rcases HK.out with h | h <;> omega), rfl, HFL.out.base (by omega), hnB, (fun V hV => by cases hV; show _ = (⟨k, T.data.toList, C.data.toList, [], []⟩ : Tn) :: B; rw [HCL.out]), HFB.out⟩
            · have ec : (T5.toList == C.toList) = false := by rw [HEC.out]; exact decide_eq_false hec
              go_wp2_with fail
              go_quiet ((go_at_call 85; exact quiet_pure (K6.out _ (below_drewN HBx.out _))))
              clear ec hex g1
              go_wp2_with fail
              refine ⟨⟨j + 1, by congr 1 <;> omega, by omega, Lib.hid (fun j' h h2 => ?_), Lib.hid (HN1.out.drewN nq), Lib.hid (HG1.out.drewN nq), Lib.hid (HRx.out.drewN nq), Lib.hid (HSx.out.drewN nq), Lib.hid (below_drewN HBx.out nq), Lib.hid (HLx.out.below (below_drewN (Below.refl _ wr) nq))⟩, by simp [intOf]; omega⟩
              by_cases hjj : j' < j
              · exact HALL.out j' h hjj
              · obtain rfl : j' = j := by omega
                rw [← HCH.out]; exact hec
          · have e2 : ¬ (j : Int) < (A.size : Int) := by omega
            obtain ⟨hxs, hrl⟩ : x = none ∧ r = (pks ts).drop q := by
              rcases adv_cases HRD.out with ⟨h1, _⟩ | ⟨_, c9, h1, h2, _⟩ | ⟨_, _, h3, h4⟩
              · exact absurd HKZ.out h1
              · obtain ⟨j', hj', e9⟩ := List.getElem_of_mem h1
                exact absurd (by rw [HT5.out, h2, e9]) (HALL.out j' hj' (by rw [← HAL.out] at hj'; omega))
              · exact ⟨h3, h4⟩
            have hpq : p = q := by rw [HP.out, hrl, List.length_drop, HL.out]; omega
            subst hpq hxs
            have n0 := HN1.out.p0
            have n1 := HN1.out.p1
            have n2 := HN1.out.p2
            have n3 := HN1.out.p3
            have n4 := HN1.out.p4
            have g0 := HG1.out.p0
            have g1 := HG1.out.p1
            have g2 := HG1.out.p2
            have r0 := HRx.out.p0
            have r1 := HRx.out.p1
            have r2 := HRx.out.p2
            have r3 := HRx.out.p3
            have r4 := HRx.out.p4
            have z0 := HSx.out.p0
            have z1 := HSx.out.p1
            have z2 := HSx.out.p2
            have fr0 := HRx.out.f 0
            have fr1 := HRx.out.f 1
            have fr2 := HRx.out.f 2
            have fr3 := HRx.out.f 3
            have fr4 := HRx.out.f 4
            have fz0 := HSx.out.f 0
            have fz1 := HSx.out.f 1
            have fz2 := HSx.out.f 2
            clear hrl hlt
            go_wp2_with fail
            go_region
            have hFR := (((((((HRx.out.set 0 (.int .i64 k)).set 1 (.string T)).set 2 (.string ⟨#[]⟩)).set 3 (.string ⟨#[]⟩)).set 4 (.slice none 0 0)).setOther (p := ⟨W.heap.size + 1, 0, none⟩) (show W.heap.size ≠ W.heap.size + 1 by omega) (.slice none 0 0)).setOther (p := ⟨W.heap.size + 1, 1, none⟩) (show W.heap.size ≠ W.heap.size + 1 by omega) (.int .i64 (p : Int))).setOther (p := ⟨W.heap.size + 1, 2, none⟩) (show W.heap.size ≠ W.heap.size + 1 by omega) (.bool false)
            have hFS := (((((((HSx.out.setOther (p := ⟨W.heap.size, 0, none⟩) (show W.heap.size + 1 ≠ W.heap.size by omega) (.int .i64 k)).setOther (p := ⟨W.heap.size, 1, none⟩) (show W.heap.size + 1 ≠ W.heap.size by omega) (.string T)).setOther (p := ⟨W.heap.size, 2, none⟩) (show W.heap.size + 1 ≠ W.heap.size by omega) (.string ⟨#[]⟩)).setOther (p := ⟨W.heap.size, 3, none⟩) (show W.heap.size + 1 ≠ W.heap.size by omega) (.string ⟨#[]⟩)).setOther (p := ⟨W.heap.size, 4, none⟩) (show W.heap.size + 1 ≠ W.heap.size by omega) (.slice none 0 0)).set 0 (.slice none 0 0)).set 1 (.int .i64 (p : Int))).set 2 (.bool false)
            have hFB := (((((((HBx.out.setCell (p := ⟨W.heap.size, 0, none⟩) (Nat.le_refl _) (.int .i64 k)).setCell (p := ⟨W.heap.size, 1, none⟩) (Nat.le_refl _) (.string T)).setCell (p := ⟨W.heap.size, 2, none⟩) (Nat.le_refl _) (.string ⟨#[]⟩)).setCell (p := ⟨W.heap.size, 3, none⟩) (Nat.le_refl _) (.string ⟨#[]⟩)).setCell (p := ⟨W.heap.size, 4, none⟩) (Nat.le_refl _) (.slice none 0 0)).setCell (p := ⟨W.heap.size + 1, 0, none⟩) (Nat.le_succ _) (.slice none 0 0)).setCell (p := ⟨W.heap.size + 1, 1, none⟩) (Nat.le_succ _) (.int .i64 (p : Int))).setCell (p := ⟨W.heap.size + 1, 2, none⟩) (Nat.le_succ _) (.bool false)
            have hFL := (((((((HLx.out.set (p := ⟨W.heap.size, 0, none⟩) (by simp only; omega) (.int .i64 k)).set (p := ⟨W.heap.size, 1, none⟩) (by simp only; omega) (.string T)).set (p := ⟨W.heap.size, 2, none⟩) (by simp only; omega) (.string ⟨#[]⟩)).set (p := ⟨W.heap.size, 3, none⟩) (by simp only; omega) (.string ⟨#[]⟩)).set (p := ⟨W.heap.size, 4, none⟩) (by simp only; omega) (.slice none 0 0)).set (p := ⟨W.heap.size + 1, 0, none⟩) (by simp only; omega) (.slice none 0 0)).set (p := ⟨W.heap.size + 1, 1, none⟩) (by simp only; omega) (.int .i64 (p : Int))).set (p := ⟨W.heap.size + 1, 2, none⟩) (by simp only; omega) (.bool false)
            replace hFR := hFR.drew
            replace hFS := hFS.drew
            replace hFB := hFB.drew
            replace hFL := hFL.drew
            have o0 := hFR.p0
            have o1 := hFR.p1
            have o2 := hFR.p2
            have o3 := hFR.p3
            have o4 := hFR.p4
            have b0 := hFS.p0
            have b1 := hFS.p1
            have b2 := hFS.p2
            have HFB := Lib.hid hFB
            have HFL := Lib.hid hFL
            clear hFR hFS hFB hFL
            clear fr0 fr1 fr2 fr3 fr4 fz0 fz1 fz2 r0 r1 r2 r3 r4 z0 z1 z2
            generalize ((((((((wr.setCell ⟨W.heap.size, 0, none⟩ (.int .i64 k)).setCell ⟨W.heap.size, 1, none⟩ (.string T)).setCell ⟨W.heap.size, 2, none⟩ (.string ⟨#[]⟩)).setCell ⟨W.heap.size, 3, none⟩ (.string ⟨#[]⟩)).setCell ⟨W.heap.size, 4, none⟩ (.slice none 0 0)).setCell ⟨W.heap.size + 1, 0, none⟩ (.slice none 0 0)).setCell ⟨W.heap.size + 1, 1, none⟩ (.int .i64 (p : Int))).setCell ⟨W.heap.size + 1, 2, none⟩ (.bool false)).drew = wz at *
            go_wp2_with fail
            exact bodyPost_ret (v := .tuple #[.agg #[(.int .i64 k), (.string T), (.string ⟨#[]⟩), (.string ⟨#[]⟩), (.slice none 0 0)], .agg #[(.slice none 0 0), (.int .i64 (p : Int)), (.bool false)]]) (by simp [results, Tryz.results106, go_sem, o0, o1, o2, o3, o4, b0, b1, b2]) rfl ⟨verbN k T ⟨#[]⟩, _, _, _, [], rfl, verbN_on k T ⟨#[]⟩ _ HTZ.out (Nat.zero_le _) (by rcases HK.out with h | h <;> omega) (by rcases HK.out with h | h <;> omega), rfl, Nl.nil _ _, by omega, (fun V hV => by cases hV), HFB.out⟩
      · have e5 : (kk == 5) = false := beq_eq_false_iff_ne.2 h5
        obtain ⟨hxs, hrl⟩ : x = some (⟨k, T.data.toList, [], [], []⟩ :: B) ∧ r = (pks ts).drop q := by
          rcases adv_cases HRD.out with ⟨_, h1, h2⟩ | ⟨h1, _⟩ | ⟨h1, _⟩
          · exact ⟨h1, h2⟩
          · exact absurd (HKZ.out ▸ h1) h5
          · exact absurd (HKZ.out ▸ h1) h5
        have hpq : p = q := by rw [HP.out, hrl, List.length_drop, HL.out]; omega
        subst hpq hxs
        refine K5.out.mono ?_
        rintro e w1 ⟨rfl, rfl⟩
        rw [HZ.out.1] at n0 n1 n2 n3 n4 g0 g1 g2 ⊢
        go_wp2_with fail
        go_region
        have hFR := (((((((HRx.out.set 0 (.int .i64 k)).set 1 (.string T)).set 2 (.string ⟨#[]⟩)).set 3 (.string ⟨#[]⟩)).set 4 (.slice none 0 0)).setOther (p := ⟨W.heap.size + 1, 0, none⟩) (show W.heap.size ≠ W.heap.size + 1 by omega) (.slice aB nB cB)).setOther (p := ⟨W.heap.size + 1, 1, none⟩) (show W.heap.size ≠ W.heap.size + 1 by omega) (.int .i64 (p : Int))).setOther (p := ⟨W.heap.size + 1, 2, none⟩) (show W.heap.size ≠ W.heap.size + 1 by omega) (.bool true)
        have hFS := (((((((HSx.out.setOther (p := ⟨W.heap.size, 0, none⟩) (show W.heap.size + 1 ≠ W.heap.size by omega) (.int .i64 k)).setOther (p := ⟨W.heap.size, 1, none⟩) (show W.heap.size + 1 ≠ W.heap.size by omega) (.string T)).setOther (p := ⟨W.heap.size, 2, none⟩) (show W.heap.size + 1 ≠ W.heap.size by omega) (.string ⟨#[]⟩)).setOther (p := ⟨W.heap.size, 3, none⟩) (show W.heap.size + 1 ≠ W.heap.size by omega) (.string ⟨#[]⟩)).setOther (p := ⟨W.heap.size, 4, none⟩) (show W.heap.size + 1 ≠ W.heap.size by omega) (.slice none 0 0)).set 0 (.slice aB nB cB)).set 1 (.int .i64 (p : Int))).set 2 (.bool true)
        have hFB := (((((((HBx.out.setCell (p := ⟨W.heap.size, 0, none⟩) (Nat.le_refl _) (.int .i64 k)).setCell (p := ⟨W.heap.size, 1, none⟩) (Nat.le_refl _) (.string T)).setCell (p := ⟨W.heap.size, 2, none⟩) (Nat.le_refl _) (.string ⟨#[]⟩)).setCell (p := ⟨W.heap.size, 3, none⟩) (Nat.le_refl _) (.string ⟨#[]⟩)).setCell (p := ⟨W.heap.size, 4, none⟩) (Nat.le_refl _) (.slice none 0 0)).setCell (p := ⟨W.heap.size + 1, 0, none⟩) (Nat.le_succ _) (.slice aB nB cB)).setCell (p := ⟨W.heap.size + 1, 1, none⟩) (Nat.le_succ _) (.int .i64 (p : Int))).setCell (p := ⟨W.heap.size + 1, 2, none⟩) (Nat.le_succ _) (.bool true)
        have hFL := (((((((HLx.out.set (p := ⟨W.heap.size, 0, none⟩) (by simp only; omega) (.int .i64 k)).set (p := ⟨W.heap.size, 1, none⟩) (by simp only; omega) (.string T)).set (p := ⟨W.heap.size, 2, none⟩) (by simp only; omega) (.string ⟨#[]⟩)).set (p := ⟨W.heap.size, 3, none⟩) (by simp only; omega) (.string ⟨#[]⟩)).set (p := ⟨W.heap.size, 4, none⟩) (by simp only; omega) (.slice none 0 0)).set (p := ⟨W.heap.size + 1, 0, none⟩) (by simp only; omega) (.slice aB nB cB)).set (p := ⟨W.heap.size + 1, 1, none⟩) (by simp only; omega) (.int .i64 (p : Int))).set (p := ⟨W.heap.size + 1, 2, none⟩) (by simp only; omega) (.bool true)
        replace hFR := hFR.drew
        replace hFS := hFS.drew
        replace hFB := hFB.drew
        replace hFL := hFL.drew
        have o0 := hFR.p0
        have o1 := hFR.p1
        have o2 := hFR.p2
        have o3 := hFR.p3
        have o4 := hFR.p4
        have b0 := hFS.p0
        have b1 := hFS.p1
        have b2 := hFS.p2
        have HFB := Lib.hid hFB
        have HFL := Lib.hid hFL
        clear hFR hFS hFB hFL
        clear fr0 fr1 fr2 fr3 fr4 fz0 fz1 fz2 r0 r1 r2 r3 r4 z0 z1 z2
        generalize ((((((((w3.setCell ⟨W.heap.size, 0, none⟩ (.int .i64 k)).setCell ⟨W.heap.size, 1, none⟩ (.string T)).setCell ⟨W.heap.size, 2, none⟩ (.string ⟨#[]⟩)).setCell ⟨W.heap.size, 3, none⟩ (.string ⟨#[]⟩)).setCell ⟨W.heap.size, 4, none⟩ (.slice none 0 0)).setCell ⟨W.heap.size + 1, 0, none⟩ (.slice aB nB cB)).setCell ⟨W.heap.size + 1, 1, none⟩ (.int .i64 (p : Int))).setCell ⟨W.heap.size + 1, 2, none⟩ (.bool true)).drew = wz at *
        go_wp2_with fail
        exact bodyPost_ret (v := .tuple #[.agg #[(.int .i64 k), (.string T), (.string ⟨#[]⟩), (.string ⟨#[]⟩), (.slice none 0 0)], .agg #[(.slice aB nB cB), (.int .i64 (p : Int)), (.bool true)]]) (by simp [results, Tryz.results106, go_sem, o0, o1, o2, o3, o4, b0, b1, b2]) rfl ⟨verbN k T ⟨#[]⟩, _, _, _, _, rfl, verbN_on k T ⟨#[]⟩ _ HTZ.out (Nat.zero_le _) (by rcases HK.out with h | h <;> omega) (by rcases HK.out with h | h <;> omega), rfl, HFL.out.base (by omega), hnB, (fun V hV => by cases hV; rfl), HFB.out⟩
end Go.Proofs.YtljkmdmbndjngaaGreat

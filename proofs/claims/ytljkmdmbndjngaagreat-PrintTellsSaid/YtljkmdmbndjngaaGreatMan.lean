import Derived.Test.YtljkmdmbndjngaaGreatMam
import Derived.Test.YtljkmdmbndjngaaGreatMal
import Derived.Test.YtljkmdmbndjngaaGreatMai
import Derived.Test.YtljkmdmbndjngaaGreatMab
/-
  Each tree in memory that may be is printed in some way.
-/
namespace Go.Proofs.YtljkmdmbndjngaaGreat
set_option linter.unusedVariables false
set_option linter.unusedSimpArgs false

theorem prt_ps {s : ByteArray} {k : Int} (h : prt s k = true) : ∃ q : Pk, Ps q ∧ q.k = k ∧ q.t = s.data.toList := by
  unfold prt at h
  by_cases hz : s.size ≤ 256
  · rw [if_pos hz] at h
    have hr := lx_run s
    cases he : lxE s with
    | some _ => rw [he] at h; simp at h
    | none =>
      rw [he] at h hr
      cases hts : lxT s with
      | nil => rw [hts] at h; simp at h
      | cons t r =>
        cases r with
        | cons t2 r => rw [hts] at h; simp at h
        | nil =>
          rw [hts] at h hr
          have h : (decide ((t.kind : Int) = k) && ((tx t.text).toList == s.toList)) = true := h
          rw [Bool.and_eq_true, decide_eq_true_eq, beq_iff_eq, str_tl, str_tl, tx_list] at h
          have g := (hr.each t (by simp)).1
          exact ⟨⟨t.kind, t.text, 0⟩, ⟨t.kind, rfl, g⟩, h.1, h.2⟩
  · rw [if_neg hz] at h; cases h
theorem emp_to {s : ByteArray} (h : emp s = true) : s.data.toList = [] := by
  unfold emp at h
  rw [str_tl] at h
  exact List.isEmpty_iff.1 h
theorem adv_to {s : ByteArray} {l : List UInt8} (h : advB s l = true) : s.data.toList = [] ∨ ∃ c ∈ l, s.data.toList = [c] := by
  unfold advB at h
  rw [Bool.or_eq_true] at h
  rcases h with h | h
  · exact .inl (List.isEmpty_iff.1 h)
  · obtain ⟨c, hc, g⟩ := List.any_eq_true.1 h
    exact .inr ⟨c, hc, by simpa using g⟩
theorem verb_to {v : ByteArray} (h : verbB v = true) : v.data.toList = [123] ∨ ∃ q : Pk, Ps q ∧ (q.k = 3 ∨ q.k = 4) ∧ v.data.toList = q.t := by
  unfold verbB at h
  rw [Bool.or_eq_true, Bool.or_eq_true, beq_iff_eq, str_tl] at h
  rcases h with h | h | h
  · exact .inl h
  · obtain ⟨q, hq, hk, e⟩ := prt_ps h; exact .inr ⟨q, hq, .inr hk, e.symm⟩
  · obtain ⟨q, hq, hk, e⟩ := prt_ps h; exact .inr ⟨q, hq, .inl hk, e.symm⟩
theorem dig_cls : ∀ c : UInt8, (48 ≤ c.toNat ∧ c.toNat ≤ 57) → cls c = 1 ∧ (moreL 1).contains c = true ∧ c ≠ 95 ∧ c ≠ 45 := all_u8 (by decide +kernel)
theorem may_fig {l : List UInt8} (h : mayL l = true) : AllDig (figs l) ∧ figs l ≠ [] := by
  unfold mayL at h
  simp only [Bool.and_eq_true, decide_eq_true_eq] at h
  exact ⟨allDigB.1 h.1.2, fun h2 => by rw [h2] at h; simp at h⟩
/-- A number as a part. -/
theorem lit_part {l : List UInt8} (h : mayL l = true) : ∃ c t, swapL l = c :: t ∧ cls c = 1 ∧ (∀ x ∈ t, (moreL 1).contains x = true) ∧ numB (c :: t) = true ∧ numT (c :: t) = l := by
  obtain ⟨hd, hne⟩ := may_fig h
  cases l with
  | nil => exact absurd h (by decide)
  | cons c r =>
    by_cases hc : c = 45
    · subst hc
      rw [figs_neg] at hd hne
      refine ⟨95, r, rfl, by decide, fun x hx => (dig_cls x (hd x hx)).2.1, ?_, ?_⟩
      · show (!((95 :: r).head? == some 45) && mayL (45 :: r)) = true
        rw [h]; rfl
      · unfold numT numB
        rw [show swapN (95 :: r) = 45 :: r from rfl, h]; rfl
    · have hf : figs (c :: r) = c :: r := figs_pos (fun h2 => hc (Option.some.inj h2))
      rw [hf] at hd
      obtain ⟨h1, -, h3, -⟩ := dig_cls c (hd c List.mem_cons_self)
      have hs : swapL (c :: r) = c :: r := if_neg hc
      have hn : swapN (c :: r) = c :: r := if_neg h3
      have hb : numB (c :: r) = true := by
        unfold numB
        rw [hn, h, show ((c :: r).head? == some 45) = false from beq_false_of_ne (fun h2 => hc (Option.some.inj h2))]; rfl
      refine ⟨c, r, hs, h1, fun x hx => (dig_cls x (hd x (List.mem_cons_of_mem _ hx))).2.1, hb, ?_⟩
      unfold numT
      rw [hb, hn]; rfl
theorem num_part {l : List UInt8} (h : mayL l = true) : ∃ q : Pk, Ps q ∧ q.k = 1 ∧ l = numT q.t := by
  obtain ⟨c, t, e, hc, ht, hn, hb⟩ := lit_part h
  refine ⟨⟨1, c :: t, 0⟩, ⟨1, rfl, ?_⟩, rfl, hb.symm⟩
  have g := Run.part (N := numB) (r := []) (p := 0) (ts := []) (e := none) hc (by decide) (by decide) ht (.nil 1) (fun _ => hn) (.nil _)
  rw [List.append_nil] at g
  exact g
theorem tn_nok {d : Nd} (h : okN d = true) (hh : hdN d.k = false) : Nok numT Ps (tnOf d) := by
  unfold okN at h
  show Nok numT Ps ⟨d.k, d.v.data.toList, d.a.data.toList, d.x.data.toList, d.ns.map (·.data.toList)⟩
  have h34 : ∀ k : Int, k = 3 ∨ k = 4 → ∀ {v a : List UInt8}, (v = [123] ∨ ∃ q : Pk, Ps q ∧ (q.k = 3 ∨ q.k = 4) ∧ v = q.t) → (a = [] ∨ ∃ c ∈ advs k, a = [c]) → Nok numT Ps ⟨k, v, a, [], []⟩ := by
    intro k hk v a hv ha
    rcases hv with rfl | ⟨q, hq, h34, rfl⟩
    · exact .body hk ha
    · exact .one hk hq h34 ha
  by_cases h1 : d.k = 1
  · rw [if_pos h1] at h
    simp only [Bool.and_eq_true] at h
    obtain ⟨hn, hv, ha, hx⟩ := h
    rw [emp_to hv, emp_to ha, emp_to hx, h1]
    unfold numsB at hn
    simp only [Bool.and_eq_true, decide_eq_true_eq] at hn
    refine .lit (by rw [List.length_map]; omega) (by rw [List.length_map]; omega) fun s hs => ?_
    obtain ⟨b, hb, rfl⟩ := List.mem_map.1 hs
    exact num_part (List.all_eq_true.1 (show (d.ns.all fun s => mayL s.data.toList) = true from hn.2.2) b hb)
  · rw [if_neg h1] at h
    by_cases h2 : 0 < d.ns.length
    · rw [if_pos h2] at h; cases h
    · rw [if_neg h2] at h
      have hns : d.ns = [] := List.length_eq_zero_iff.1 (by omega)
      rw [hns]
      by_cases h3 : d.k = 3
      · rw [if_pos h3] at h
        simp only [Bool.and_eq_true] at h
        rw [emp_to h.1, h3]
        exact h34 3 (.inl rfl) (verb_to h.2.1) (adv_to h.2.2)
      · rw [if_neg h3] at h
        by_cases h4 : d.k = 4
        · rw [if_pos h4] at h
          simp only [Bool.and_eq_true] at h
          rw [emp_to h.1, h4]
          exact h34 4 (.inr rfl) (verb_to h.2.1) (adv_to h.2.2)
        · rw [if_neg h4] at h
          by_cases h5 : (!(emp d.v && emp d.a)) = true
          · rw [if_pos h5] at h; cases h
          · rw [if_neg h5] at h
            have h5 : emp d.v = true ∧ emp d.a = true := by simpa using h5
            rw [emp_to h5.1, emp_to h5.2]
            by_cases h6 : d.k = 2 ∨ d.k = 5 ∨ d.k = 6
            · rw [if_pos h6] at h
              obtain ⟨q, hq, hk, e⟩ := prt_ps h
              have : d.k = 2 := by
                unfold hdN at hh
                rcases h6 with h6 | h6 | h6
                · exact h6
                · rw [h6] at hh; cases hh
                · rw [h6] at hh; cases hh
              rw [this, ← e]
              exact .name hq hk
            · rw [if_neg h6] at h
              by_cases h7 : d.k = 7
              · rw [h7] at hh; cases hh
              · rw [if_neg h7] at h
                by_cases h8 : d.k = 8
                · rw [if_pos h8] at h
                  rw [emp_to h, h8]
                  exact .index
                · rw [if_neg h8] at h; cases h
theorem tn_hok {d : Nd} (h : okN d = true) (hh : hdN d.k = true) : Hok Ps (tnOf d) := by
  unfold okN at h
  show Hok Ps ⟨d.k, d.v.data.toList, d.a.data.toList, d.x.data.toList, d.ns.map (·.data.toList)⟩
  have hk : 5 ≤ d.k ∧ d.k ≤ 7 := by unfold hdN at hh; simpa using hh
  rw [if_neg (by omega)] at h
  by_cases h2 : 0 < d.ns.length
  · rw [if_pos h2] at h; cases h
  · rw [if_neg h2, if_neg (by omega), if_neg (by omega)] at h
    have hns : d.ns = [] := List.length_eq_zero_iff.1 (by omega)
    rw [hns]
    by_cases h5 : (!(emp d.v && emp d.a)) = true
    · rw [if_pos h5] at h; cases h
    · rw [if_neg h5] at h
      have h5 : emp d.v = true ∧ emp d.a = true := by simpa using h5
      rw [emp_to h5.1, emp_to h5.2]
      by_cases h7 : d.k = 7
      · rw [if_neg (by omega), if_pos h7] at h
        obtain ⟨q, hq, hk2, e⟩ := prt_ps h
        rw [h7, ← e]
        exact .define hq hk2
      · rw [if_pos (by omega)] at h
        obtain ⟨q, hq, hk2, e⟩ := prt_ps h
        rw [← e]
        rcases (show d.k = 5 ∨ d.k = 6 by omega) with h6 | h6
        · rw [h6]; exact .assign hq hk2
        · rw [h6]; exact .amend hq hk2
/-- A row of nodes that may be: how it is printed. -/
theorem may_printed {f : Nat → Nd} {n : Nat} (h : mayP f n) : ∃ s, PrL numB numT (tnF f n) s := by
  obtain ⟨d, hd, _, hok⟩ := h
  have hD : Dp (tnF f n) 1 d := by
    unfold Dp
    rw [← ksF_tn, tnF_len]
    exact hd
  obtain ⟨m, Y, k, d1, e, _, _⟩ := hD.head
  have hat : ∀ i, i < n → (tnF f n)[i]? = some (tnOf (f i)) := fun i hi => tnF_at hi
  have hn : 0 < n := by
    have := tnF_len f n
    rw [e, List.length_cons] at this
    omega
  rw [e] at hD hat ⊢
  have e0 : m = tnOf (f 0) := by have := hat 0 hn; simpa using this
  refine printed_ex (P := Ps) (fun _ h => h) hD ?_ fun t ht => ?_
  · rw [e0]
    cases hh : hdN (f 0).k with
    | false => exact .inl (tn_nok (hok 0 hn).1 hh)
    | true => exact .inr (tn_hok (hok 0 hn).1 hh)
  · obtain ⟨i, hi, ei⟩ := List.getElem_of_mem ht
    have hl : (m :: Y).length = n := by rw [← e, tnF_len]
    rw [List.length_cons] at hl
    have g := hat (i + 1) (by omega)
    rw [List.getElem?_cons_succ, List.getElem?_eq_getElem hi, ei] at g
    injection g with g
    rw [g]
    exact tn_nok (hok (i + 1) (by omega)).1 ((hok (i + 1) (by omega)).2 (by omega))
/-- A number's part, from the number. -/
theorem lit_num {t : List UInt8} (h : numB t = true) : litT (numT t) = t := by
  have hb := h
  unfold numB at h
  rw [Bool.and_eq_true] at h
  obtain ⟨h1, h2⟩ := h
  unfold numT litT
  rw [if_pos hb, if_pos h2]
  cases t with
  | nil => exact absurd h2 (by decide)
  | cons c r =>
    by_cases h3 : c = 95
    · subst h3; rfl
    · have hn : swapN (c :: r) = c :: r := if_neg h3
      rw [hn]
      refine if_neg fun h4 => ?_
      rw [h4] at h1
      exact absurd h1 (by simp)
end Go.Proofs.YtljkmdmbndjngaaGreat
/-
  The printer's lit: the numbers of a node as parts, joined.
-/
namespace Go.Proofs.YtljkmdmbndjngaaGreat
set_option linter.unusedVariables false
set_option linter.unusedSimpArgs false
open Go.RowKit Go.Maps

/-- The texts of a list, as a row. -/
def fT (ss : List (List UInt8)) (j : Nat) : Rt := ⟨0, tx (ss.getD j []), 0⟩
theorem fT_jl (ss : List (List UInt8)) : jl (fT ss) ss.length = ss := by
  unfold jl xsF
  rw [List.map_map]
  refine List.ext_getElem (by simp) fun i h1 h2 => ?_
  have h2 : i < ss.length := by simpa using h2
  simp [fT, tx_list, List.getD, h2]
theorem num_len {s : List UInt8} (h : numB s = true) : s.length ≤ 101 ∧ (numT s).length ≤ 101 := by
  have e : numT s = swapN s := if_pos h
  have hl : (swapN s).length = s.length := by
    cases s with
    | nil => rfl
    | cons c r => show (if c = 95 then 45 :: r else c :: r).length = _; split <;> rfl
  unfold numB at h
  rw [Bool.and_eq_true] at h
  have h2 := h.2
  unfold mayL at h2
  simp only [Bool.and_eq_true, decide_eq_true_eq] at h2
  have h3 : (figs (swapN s)).length ≤ 100 := h2.1.1.2
  have h4 : (swapN s).length ≤ (figs (swapN s)).length + 1 := by
    unfold figs Lib.trimPrefix
    split
    · simp; omega
    · omega
  rw [e]
  omega
set_option maxRecDepth 10000 in
set_option maxHeartbeats 3200000 in
theorem plit_is {a : Option Addr} {n c : Nat} {b : Nat} (dk : Int) (dv da dx : ByteArray) (dg : Option Addr) (dc : Nat) (ss : List (List UInt8)) (W : World) (v : Value) (h0 : 0 < ss.length) (h1 : ss.length ≤ 100) (hN : ∀ s ∈ ss, numB s = true) (hst : St W dg ss.length (ss.map fun s => tx (numT s))) (hdc : ss.length ≤ dc) (hcm : dc ≤ maxLen) :
    Calls Tryz.prog 21 #[Pv a n c b, .agg #[.int .i64 dk, .string dv, .string da, .string dx, .slice dg ss.length dc], v] W (StB (tx (joinT ss)) W) := by
  have HZ := boxes W a n c b dk dv da dx dg ss.length dc _ rfl
  obtain ⟨gb, off, rfl, hc⟩ := hst.2 h0
  have HC := Lib.hid (fun j (hj : j < ss.length) => show W.cell? ⟨gb, off + j, none⟩ = some (.string (tx (numT (ss.getD j [])))) by
    rw [hc j hj]
    simp [List.getD, hj])
  have hgl : gb < W.heap.size := World.block_lt_of_cell? W _ (hc 0 h0)
  have KL := Lib.hid (fun j (hj : j < ss.length) w => (show Calls Tryz.prog 47 #[.string (tx (numT (ss.getD j [])))] w (fun e w' => e = .returned (.tuple #[.string (fT ss j).x, .bool (mayL (numT (ss.getD j [])))]) ∧ w = w') from by
    have hm : ss.getD j [] ∈ ss := by
      have : ss.getD j [] = ss[j] := by simp [List.getD, hj]
      rw [this]; exact List.getElem_mem hj
    have g := Literal_is (numT (ss.getD j [])) (by have := (num_len (hN _ hm)).2; omega) w
    rw [lit_num (hN _ hm)] at g
    exact g))
  have HL := Lib.hid (show (joinT (jl (fT ss) ss.length)).length ≤ 140737488355328 by
    rw [fT_jl]
    have g := joinT_most (B := 101) fun s hs => (num_len (hN s hs)).1
    omega)
  have HJ := Lib.hid (fT_jl ss)
  obtain ⟨m, hm⟩ : ∃ m, m = ss.length := ⟨_, rfl⟩
  rw [← hm] at h0 h1 hdc HZ HC KL HL HJ ⊢
  clear hc hst hN hm
  generalize fT ss = fs at *
  unfold Pv
  go_enter Tryz.func21, Tryz.ntmps21
  go_upto_region 1 with fail
  generalize (W.alloc _).alloc _ = wz at *
  obtain ⟨hP, hD, hB⟩ := HZ
  have d4 := hD.c4
  have ld := hD.lt
  have hgz : gb < wz.heap.size := Nat.lt_of_lt_of_le hgl hB.size
  have HCz := Lib.hid (fun j (hj : j < m) => (Below.cell (p := ⟨gb, off + j, none⟩) hB hgl).trans (HC.out j hj))
  have hmk := run_mks m (by omega) wz
  have hS := Sr.made wz m
  have hb0 : Below wz.heap.size wz (wz.alloc (.cells (madeCells #[.string ⟨#[]⟩] m) 9)) := (Below.refl _ _).alloc (Nat.le_refl _) _
  have d4a := (Below.cell (p := ⟨W.heap.size + 1, 4, none⟩) hb0 ld).trans d4
  have HB := Lib.hid hB
  clear hP hD hB HC
  go_wp2_with fail
  clear d4 d4a
  go_loopw [17] (fun iv wr => ∃ k : Nat, iv = .int .i64 k ∧ k ≤ m ∧ Sr wr wz.heap.size m (fun j => if j < k then (fs j).x else ⟨#[]⟩) ∧ Below wz.heap.size wz wr) (fun iv _ => m - (intOf iv).toNat)
  case atStart => exact ⟨0, rfl, by omega, hS, hb0⟩
  case round =>
    obtain ⟨k, rfl, hk, hs, hb⟩ := hrel
    clear hmk hS hb0
    by_cases hlt : k < m
    · have e2 : (k : Int) < (m : Int) := by omega
      have c1 := (Below.cell (p := ⟨gb, off + k, none⟩) hb hgz).trans (HCz.out k hlt)
      have fz := hs.frozen k
      have ck := hs.cell hlt
      have hlt2 := hs.lt
      have hs2 := hs.set k (fs k).x (G := fun j => if j < k + 1 then (fs j).x else ⟨#[]⟩) (fun j hj => by
        by_cases h1 : j = k
        · subst h1; rw [if_pos rfl, if_pos (by omega)]
        · rw [if_neg h1]
          by_cases h2 : j < k
          · rw [if_pos h2, if_pos (by omega)]
          · rw [if_neg h2, if_neg (by omega)])
      have hb2 : Below wz.heap.size wz (wr.setCell ⟨wz.heap.size, k, none⟩ (.string (fs k).x)) := hb.setCell (Nat.le_refl _) _
      have HH := Lib.hid (And.intro hs2 hb2)
      have KK := Lib.hid (KL.out k hlt)
      clear hs2 hb2
      generalize tx (numT (ss.getD k [])) = tk at *
      generalize mayL (numT (ss.getD k [])) = mk at *
      go_wp2_with fail
      refine (KK.out _).mono ?_
      rintro e w1 ⟨rfl, rfl⟩
      go_wp2_with fail
      refine ⟨⟨k + 1, by go_num, by omega, HH.out.1, HH.out.2⟩, by simp [intOf]; omega⟩
    · have e2 : ¬ (k : Int) < (m : Int) := by omega
      obtain rfl : k = m := by omega
      have KJ := Tryz.strings_Join wz.heap.size 0 k (xsF fs k) ⟨#[32]⟩ wr (fun j x hx => by
        obtain ⟨hj, rfl⟩ := xsF_get hx
        rw [Nat.zero_add, hs.cell hj, if_pos hj]) hs.lt (by rw [xsF_len]; omega) (by rw [xsF_len]; exact Nat.le_refl _) (by
          show (Lib.join (jl fs k) [32]).length ≤ _
          rw [join_is]; exact HL.out)
      rw [xsF_len] at KJ
      replace KJ := Lib.hid KJ
      have HT := Lib.hid (show (⟨(Lib.join ((xsF fs k).map (·.data.toList)) (⟨#[32]⟩ : ByteArray).data.toList).toArray⟩ : ByteArray) = tx (joinT ss) by
        rw [← HJ.out, ← join_is]; rfl)
      rw [HT.out] at KJ
      go_wp2_with fail
      refine KJ.out.mono ?_
      rintro e w1 ⟨rfl, hq⟩
      go_wp2_with fail
      go_ret
      exact ⟨rfl, HB.out.trans ((hb.trans (hq.mono hb.size)).mono HB.out.size)⟩
end Go.Proofs.YtljkmdmbndjngaaGreat
/-
  The printer prints each tree as it is told plainly.
-/
namespace Go.Proofs.YtljkmdmbndjngaaGreat
set_option linter.unusedVariables false
set_option linter.unusedSimpArgs false
open Go.RowKit Go.Maps

/-- The nodes' words are no longer than a line. -/
def Sz (f : Nat → Nd) (n : Nat) : Prop := ∀ j, j < n → (f j).v.size ≤ 256 ∧ (f j).a.size ≤ 256 ∧ (f j).x.size ≤ 256
theorem Pt.size {N : List UInt8 → Bool} {M : List UInt8 → List UInt8} {L : List Tn} {p : Nat} {s : List UInt8} (h : Pt N M L p s) : s.length ≤ 20000000000 := by
  cases h with
  | mk hn he hu hl hk hf hz => exact hz
theorem tn_some {f : Nat → Nd} {n p : Nat} {d : Tn} (h : (tnF f n)[p]? = some d) : p < n ∧ d = tnOf (f p) := by
  have hp := (List.getElem?_eq_some_iff.1 h).1
  rw [tnF_len] at hp
  rw [tnF_at hp] at h
  exact ⟨hp, (Option.some.inj h).symm⟩
theorem tx_of {s : ByteArray} {l : List UInt8} (h : s.data.toList = l) : s = tx l := by rw [← h]; exact (tx_back s).symm
theorem wrB_tx (d : Nd) (t : List UInt8) : wrB d.k (tx t) = tx (wrT (tnOf d) t) := by
  unfold wrB wrT
  show (if d.k = 3 ∨ d.k = 4 then _ else _) = tx (if d.k = 3 ∨ d.k = 4 then _ else _)
  split
  · rw [show (⟨#[40]⟩ : ByteArray) = tx [40] from rfl, show (⟨#[41]⟩ : ByteArray) = tx [41] from rfl, tx_cat, tx_cat]; rfl
  · rfl
theorem wrB_size {k : Int} {t : ByteArray} (h : t.size ≤ 20000000000) : (wrB k t).size ≤ 20000001000 := by
  unfold wrB
  split
  · rw [ByteArray.size_append, ByteArray.size_append, show (⟨#[40]⟩ : ByteArray).size = 1 from rfl, show (⟨#[41]⟩ : ByteArray).size = 1 from rfl]; omega
  · omega
theorem un_place {f : Nat → Nd} {n p e : Nat} {d : Tn} (h : (tnF f n)[p]? = some d) (he : eN ((tnF f n).map kdT) 1 p = some e) : unI (ksF f n) p = un ((tnF f n).map kdT) (kdT d).toNat (p + 1) := by
  unfold unI
  rw [ksF_tn, enI_nat, he]
  show un _ (((tnF f n).map kdT).getD (p : Int).toNat 0).toNat ((p : Int).toNat + 1) = _
  rw [Int.toNat_natCast, List.getD, List.getElem?_map, h]; rfl
/-- A verb, however it is told. -/
theorem pverb_is {a : Option Addr} {n c : Nat} {f : Nat → Nd} {b p : Nat} {w : List UInt8} {o : Option (List UInt8)} {d : Tn} (hd : d = tnOf (f p)) (hp : p < n) (hz : Sz f n) (hv : Vx d o w) (u : Nat)
    (K : ∀ t, o = some t → t.length ≤ 20000000000 ∧ ∀ W, Hy a n c f b W → Calls Tryz.prog 12 #[Pv a n c b, .int .i64 (u : Int)] W (StB (tx t) W)) (W : World) (h : Hy a n c f b W) :
    Calls Tryz.prog 49 #[Pv a n c b, (f p).val, .int .i64 (u : Int)] W (StB (tx w) W) := by
  obtain ⟨z1, z2, z3⟩ := hz p hp
  unfold Nd.val
  cases hv with
  | @one j k v a' w hv =>
    injection hd with e1 e2 e3
    have hr := lex_vo hv
    have hne := vo_ne hv
    rw [e2] at hr hne
    refine verb_one _ _ _ _ _ _ _ _ W j _ ?_ hr hne z1 (by omega)
    rcases vo_kind hv with ⟨rfl, rfl⟩ | ⟨rfl, rfl⟩
    · refine .inl ⟨rfl, ?_⟩
      rw [tx_of e2.symm, tx_of e3.symm, show (⟨#[32]⟩ : ByteArray) = tx [32] from rfl, tx_cat, tx_cat, tx_cat]
      simp
    · refine .inr ⟨rfl, ?_⟩
      rw [tx_of e2.symm, tx_of e3.symm, tx_cat]
  | @body k a' t =>
    injection hd with e1 e2 e3
    obtain ⟨hl, K⟩ := K t rfl
    rw [tx_of e2.symm, show tx [123] = (⟨#[123]⟩ : ByteArray) from rfl]
    have g := verb_body (dk := (f p).k) (da := (f p).a) (dx := (f p).x) (dg := (f p).g) (dm := (f p).m) (dc := (f p).c) u (tx t) W h (by omega) (by rw [tx_size]; exact hl) K
    rw [tx_of e3.symm, show (⟨#[123]⟩ : ByteArray) = tx [123] from rfl, show (⟨#[125]⟩ : ByteArray) = tx [125] from rfl, tx_cat, tx_cat, tx_cat] at g
    simp only [List.singleton_append, List.append_assoc, List.cons_append, List.nil_append] at g
    rw [← tx_of e3.symm] at g
    exact g
theorem vx_size {f : Nat → Nd} {n p : Nat} {w : List UInt8} {o : Option (List UInt8)} {d : Tn} (hd : d = tnOf (f p)) (hp : p < n) (hz : Sz f n) (hv : Vx d o w) (K : ∀ t, o = some t → t.length ≤ 20000000000) : (tx w).size ≤ 20000001000 := by
  obtain ⟨z1, z2, z3⟩ := hz p hp
  rw [tx_size]
  cases hv with
  | @one j k v a' w hv =>
    injection hd with e1 e2 e3
    have l2 : a'.length = (f p).a.size := by rw [e3]; exact Array.length_toList
    have l1 : v.length = (f p).v.size := by rw [e2]; exact Array.length_toList
    rcases vo_kind hv with ⟨rfl, rfl⟩ | ⟨rfl, rfl⟩
    · simp; omega
    · simp; omega
  | @body k a' t =>
    injection hd with e1 e2 e3
    have l2 : a'.length = (f p).a.size := by rw [e3]; exact Array.length_toList
    have := K t rfl
    simp; omega
set_option maxHeartbeats 1600000 in
theorem ptree_is {a : Option Addr} {n c : Nat} {f : Nat → Nd} {b p : Nat} {s : List UInt8} (hz : Sz f n) (h : Pt numB numT (tnF f n) p s) : ∀ W, Hy a n c f b W → Calls Tryz.prog 12 #[Pv a n c b, .int .i64 (p : Int)] W (StB (tx s) W) := by
  induction h with
  | @mk p e d us ts s hn he hu hl hk hf hs ih =>
    intro W hW
    obtain ⟨hp, hd⟩ := tn_some hn
    have hU := (un_place hn he).trans hu
    obtain ⟨z1, z2, z3⟩ := hz p hp
    have sz : ∀ (j u : Nat) (t : List UInt8), us[j]? = some u → ts[j]? = some t → (tx t).size ≤ 20000000000 := fun j u t h1 h2 => (hk j u t h1 h2).size
    have sz2 : ∀ {t : List UInt8}, (tx t).size ≤ 20000000000 → (tx t).size ≤ 20000001000 := fun h => by omega
    have tm : ∀ (j u : Nat) (t : List UInt8) (m : Tn), us[j]? = some u → ts[j]? = some t → (tnF f n)[u]? = some m → (∀ W, Hy a n c f b W → Calls Tryz.prog 50 #[Pv a n c b, .int .i64 (u : Int)] W (StB (tx (wrT m t)) W)) ∧ (tx (wrT m t)).size ≤ 20000001000 := fun j u t m h1 h2 h3 => by
      obtain ⟨hq, rfl⟩ := tn_some h3
      have e := wrB_tx (f u) t
      exact ⟨fun W hW => e ▸ pterm_is u (tx t) W hW hq (sz j u t h1 h2) (ih j u t h1 h2), e ▸ wrB_size (sz j u t h1 h2)⟩
    cases hf with
    | @lit ss h0 h1 h =>
      injection hd with e1 e2 e3 e4 e5
      refine tree_gen 21 (tx (joinT ss)) [] p W hW hp (by rw [← e1]; decide) (by rw [← e1]; simp [FL]) hU fun w a' c' hw hpl h3 h4 => ?_
      have ho := hw.nq.on p hp
      have hst := ho.st
      have en : (f p).ns = ss.map fun s => tx (numT s) := by
        refine texts_inj ?_
        rw [← e5, List.map_map]
        rfl
      have em : (f p).m = ss.length := by rw [← ho.nl, en, List.length_map]
      rw [en, em] at hst
      unfold Nd.val
      rw [em]
      exact plit_is _ _ _ _ _ _ ss w _ h0 h1 (fun s hs => (h s hs).is) hst (by rw [← em]; exact ho.mc) ho.cm
    | @name x =>
      injection hd with e1 e2 e3 e4 e5
      refine tree_gen 22 _ [] p W hW hp (by rw [← e1]; decide) (by rw [← e1]; simp [FL]) hU fun w a' c' hw hpl h3 h4 => ?_
      rw [← tx_of e4.symm]
      exact name_is _ _ _ _ _ _ _ w _
    | @monad d q w t hk3 hv =>
      have e1 : (f p).k = 3 := by rw [← hk3, hd]; rfl
      have g := tree_gen (a := a) (n := n) (c := c) (f := f) (b := b) 23 (tx w ++ tx t) [q] p W hW hp (by rw [e1]; decide) (by rw [e1]; simp [FL]) hU fun w' a' c' hw hpl h3 h4 =>
        monad1_is (f p).k (f p).v (f p).a (f p).x (f p).g (f p).m (f p).c q (tx w) (tx t) w' hw a' c' hpl h3 h4 (by omega) (pverb_is hd hp hz hv q (fun t h => by cases h)) (vx_size hd hp hz hv fun t h => by cases h) (ih 0 q t rfl rfl) (sz2 (sz 0 q t rfl rfl))
      rw [tx_cat] at g
      exact g
    | @monadB d u q bb w t hk3 hv =>
      have e1 : (f p).k = 3 := by rw [← hk3, hd]; rfl
      have g := tree_gen (a := a) (n := n) (c := c) (f := f) (b := b) 23 (tx w ++ tx t) [u, q] p W hW hp (by rw [e1]; decide) (by rw [e1]; simp [FL]) hU fun w' a' c' hw hpl h3 h4 =>
        monad2_is (f p).k (f p).v (f p).a (f p).x (f p).g (f p).m (f p).c u q (tx w) (tx t) w' hw a' c' hpl h3 h4 (by omega) (pverb_is hd hp hz hv u (fun t h => by cases h; exact ⟨sz 0 u bb rfl rfl, ih 0 u bb rfl rfl⟩)) (vx_size hd hp hz hv fun t h => by cases h; exact sz 0 u bb rfl rfl) (ih 1 q t rfl rfl) (sz2 (sz 1 q t rfl rfl))
      rw [tx_cat] at g
      exact g
    | @dyad d m l q w tl t hk4 hv hm =>
      have e1 : (f p).k = 4 := by rw [← hk4, hd]; rfl
      obtain ⟨T1, T2⟩ := tm 0 l tl m rfl rfl hm
      have g := tree_gen (a := a) (n := n) (c := c) (f := f) (b := b) 24 (tx (wrT m tl) ++ tx w ++ tx t) [l, q] p W hW hp (by rw [e1]; decide) (by rw [e1]; simp [FL]) hU fun w' a' c' hw hpl h3 h4 =>
        dyad2_is (f p).k (f p).v (f p).a (f p).x (f p).g (f p).m (f p).c l q (tx (wrT m tl)) (tx w) (tx t) w' hw a' c' hpl h3 h4 (by omega) T1 T2 (pverb_is hd hp hz hv l (fun t h => by cases h)) (vx_size hd hp hz hv fun t h => by cases h) (ih 1 q t rfl rfl) (sz2 (sz 1 q t rfl rfl))
      rw [tx_cat, tx_cat, List.append_assoc] at g
      exact g
    | @dyadB d m u l q bb w tl t hk4 hv hm =>
      have e1 : (f p).k = 4 := by rw [← hk4, hd]; rfl
      obtain ⟨T1, T2⟩ := tm 1 l tl m rfl rfl hm
      have g := tree_gen (a := a) (n := n) (c := c) (f := f) (b := b) 24 (tx (wrT m tl) ++ tx w ++ tx t) [u, l, q] p W hW hp (by rw [e1]; decide) (by rw [e1]; simp [FL]) hU fun w' a' c' hw hpl h3 h4 =>
        dyad3_is (f p).k (f p).v (f p).a (f p).x (f p).g (f p).m (f p).c u l q (tx (wrT m tl)) (tx w) (tx t) w' hw a' c' hpl h3 h4 (by omega) T1 T2 (pverb_is hd hp hz hv u (fun t h => by cases h; exact ⟨sz 0 u bb rfl rfl, ih 0 u bb rfl rfl⟩)) (vx_size hd hp hz hv fun t h => by cases h; exact sz 0 u bb rfl rfl) (ih 2 q t rfl rfl) (sz2 (sz 2 q t rfl rfl))
      rw [tx_cat, tx_cat, List.append_assoc] at g
      exact g
    | @assign x t q =>
      injection hd with e1 e2 e3 e4 e5
      have g := tree_gen (a := a) (n := n) (c := c) (f := f) (b := b) 25 ((f p).x ++ (⟨#[58]⟩ : ByteArray) ++ tx t) [q] p W hW hp (by rw [← e1]; decide) (by rw [← e1]; simp [FL]) hU fun w' a' c' hw hpl h3 h4 =>
        assign_is (f p).k (f p).v (f p).a (f p).x (f p).g (f p).m (f p).c q (tx t) w' hw a' c' hpl h3 h4 (by omega) (ih 0 q t rfl rfl) (sz2 (sz 0 q t rfl rfl))
      rw [tx_of e4.symm, show (⟨#[58]⟩ : ByteArray) = tx [58] from rfl, tx_cat, tx_cat, List.append_assoc] at g
      exact g
    | @amend x i t u q =>
      injection hd with e1 e2 e3 e4 e5
      have g := tree_gen (a := a) (n := n) (c := c) (f := f) (b := b) 26 ((f p).x ++ (⟨#[91]⟩ : ByteArray) ++ tx i ++ (⟨#[93, 58]⟩ : ByteArray) ++ tx t) [u, q] p W hW hp (by rw [← e1]; decide) (by rw [← e1]; simp [FL]) hU fun w' a' c' hw hpl h3 h4 =>
        amend_is (f p).k (f p).v (f p).a (f p).x (f p).g (f p).m (f p).c u q (tx i) (tx t) w' hw a' c' hpl h3 h4 (by omega) (ih 0 u i rfl rfl) (sz2 (sz 0 u i rfl rfl)) (ih 1 q t rfl rfl) (sz2 (sz 1 q t rfl rfl))
      rw [tx_of e4.symm, show (⟨#[91]⟩ : ByteArray) = tx [91] from rfl, show (⟨#[93, 58]⟩ : ByteArray) = tx [93, 58] from rfl, tx_cat, tx_cat, tx_cat, tx_cat] at g
      simpa using g
    | @define x t q =>
      injection hd with e1 e2 e3 e4 e5
      have g := tree_gen (a := a) (n := n) (c := c) (f := f) (b := b) 27 ((f p).x ++ (⟨#[58, 123]⟩ : ByteArray) ++ tx t ++ (⟨#[125]⟩ : ByteArray)) [q] p W hW hp (by rw [← e1]; decide) (by rw [← e1]; simp [FL]) hU fun w' a' c' hw hpl h3 h4 =>
        define_is (f p).k (f p).v (f p).a (f p).x (f p).g (f p).m (f p).c q (tx t) w' hw a' c' hpl h3 h4 (by omega) (ih 0 q t rfl rfl) (sz2 (sz 0 q t rfl rfl))
      rw [tx_of e4.symm, show (⟨#[58, 123]⟩ : ByteArray) = tx [58, 123] from rfl, show (⟨#[125]⟩ : ByteArray) = tx [125] from rfl, tx_cat, tx_cat, tx_cat] at g
      simpa using g
    | @index m l q tl t hm =>
      injection hd with e1 e2 e3 e4 e5
      obtain ⟨T1, T2⟩ := tm 0 l tl m rfl rfl hm
      have g := tree_gen (a := a) (n := n) (c := c) (f := f) (b := b) 28 (tx (wrT m tl) ++ (⟨#[91]⟩ : ByteArray) ++ tx t ++ (⟨#[93]⟩ : ByteArray)) [l, q] p W hW hp (by rw [← e1]; decide) (by rw [← e1]; simp [FL]) hU fun w' a' c' hw hpl h3 h4 =>
        index_is (f p).k (f p).v (f p).a (f p).x (f p).g (f p).m (f p).c l q (tx (wrT m tl)) (tx t) w' hw a' c' hpl h3 h4 (by omega) T1 T2 (ih 1 q t rfl rfl) (sz2 (sz 1 q t rfl rfl))
      rw [show (⟨#[91]⟩ : ByteArray) = tx [91] from rfl, show (⟨#[93]⟩ : ByteArray) = tx [93] from rfl, tx_cat, tx_cat, tx_cat] at g
      simpa using g
end Go.Proofs.YtljkmdmbndjngaaGreat
/-
  Print: what the program tells of a list that may be, and of one that may not.
-/
namespace Go.Proofs.YtljkmdmbndjngaaGreat
set_option linter.unusedVariables false
set_option linter.unusedSimpArgs false
open Go.RowKit Go.Maps

theorem emp_size {s : ByteArray} (h : emp s = true) : s.size ≤ 256 := by
  have e := emp_to h
  have : s.data.toList.length = s.size := Array.length_toList
  rw [e] at this
  simp at this; omega
theorem prt_size {s : ByteArray} {k : Int} (h : prt s k = true) : s.size ≤ 256 := by
  unfold prt at h
  split at h
  · assumption
  · cases h
theorem verb_size {s : ByteArray} (h : verbB s = true) : s.size ≤ 256 := by
  unfold verbB at h
  rw [Bool.or_eq_true, Bool.or_eq_true, beq_iff_eq, str_tl] at h
  rcases h with h | h | h
  · have : s.data.toList.length = s.size := Array.length_toList
    rw [h] at this
    simp at this; omega
  · exact prt_size h
  · exact prt_size h
theorem advB_size {s : ByteArray} {l : List UInt8} (h : advB s l = true) : s.size ≤ 256 := by
  have : s.data.toList.length = s.size := Array.length_toList
  rcases adv_to h with e | ⟨c, _, e⟩
  · rw [e] at this; simp at this; omega
  · rw [e] at this; simp at this; omega
theorem ok_size {d : Nd} (h : okN d = true) : d.v.size ≤ 256 ∧ d.a.size ≤ 256 ∧ d.x.size ≤ 256 := by
  unfold okN at h
  split at h
  · simp only [Bool.and_eq_true] at h
    exact ⟨emp_size h.2.1, emp_size h.2.2.1, emp_size h.2.2.2⟩
  split at h
  · cases h
  split at h
  · simp only [Bool.and_eq_true] at h
    exact ⟨verb_size h.2.1, advB_size h.2.2, emp_size h.1⟩
  split at h
  · simp only [Bool.and_eq_true] at h
    exact ⟨verb_size h.2.1, advB_size h.2.2, emp_size h.1⟩
  split at h
  · cases h
  · rename_i h5
    have h5 : emp d.v = true ∧ emp d.a = true := by simpa using h5
    refine ⟨emp_size h5.1, emp_size h5.2, ?_⟩
    split at h
    · exact prt_size h
    split at h
    · exact prt_size h
    split at h
    · exact emp_size h
    · cases h
theorem may_sz {f : Nat → Nd} {n : Nat} (h : mayP f n) : Sz f n := by
  obtain ⟨d, _, _, hok⟩ := h
  exact fun j hj => ok_size (hok j hj).1
open Classical in
/-- What is printed of a tree. -/
noncomputable def prT (X : List Tn) : List UInt8 := if h : ∃ s, PrL numB numT X s then h.choose else []
open Classical in
theorem prT_is {X : List Tn} (h : ∃ s, PrL numB numT X s) : PrL numB numT X (prT X) := by
  unfold prT
  rw [dif_pos h]
  exact h.choose_spec
theorem may_prT {f : Nat → Nd} {n : Nat} (h : mayP f n) : PrL numB numT (tnF f n) (prT (tnF f n)) := prT_is (may_printed h)
theorem may_pt {f : Nat → Nd} {n : Nat} (h : mayP f n) (hn : n ≤ 1000000) {s : List UInt8} (hs : PrL numB numT (tnF f n) s) : Pt numB numT (tnF f n) 0 s := by
  refine (hs.at_place (fun s hs => by have := (num_len hs).1; omega) (by rw [tnF_len]; exact hn) fun d hd => ?_).1
  obtain ⟨i, hi, e⟩ := List.getElem_of_mem hd
  rw [tnF_len] at hi
  have g := tnF_at (f := f) hi
  rw [List.getElem?_eq_getElem (by rw [tnF_len]; exact hi), e] at g
  injection g with g
  rw [g]
  obtain ⟨z1, z2, z3⟩ := may_sz h i hi
  have l1 : (f i).v.data.toList.length = (f i).v.size := Array.length_toList
  have l2 : (f i).a.data.toList.length = (f i).a.size := Array.length_toList
  have l3 : (f i).x.data.toList.length = (f i).x.size := Array.length_toList
  exact ⟨by show (f i).v.data.toList.length ≤ 300; omega, by show (f i).a.data.toList.length ≤ 300; omega, by show (f i).x.data.toList.length ≤ 300; omega⟩
/-- What Print tells. -/
def PnEnd (t : ByteArray) (q : Int) (W : World) (e : Ending) (W' : World) : Prop := e = .returned (.tuple #[.string t, .int .i64 q]) ∧ Below W.heap.size W W'
set_option maxHeartbeats 1600000 in
theorem Print_no (a : Option Addr) (n c : Nat) (f : Nat → Nd) (W : World) (h : Nq W a n f) (hnc : n ≤ c) (hc : c ≤ maxLen) (hn : n ≤ 1000000) (hm : ¬ mayP f n) :
    Calls Tryz.prog 6 #[.slice a n c] W (PnEnd ⟨#[]⟩ 1 W) := by
  have KM := TMay_is a n c f W h hnc hc hn
  rw [mayB_no hm] at KM
  replace KM := Lib.hid KM
  clear hm
  go_enter Tryz.func6, Tryz.ntmps6
  go_wp2_with fail
  refine KM.out.mono ?_
  rintro e w1 ⟨rfl, hb⟩
  go_wp2_with fail
  go_ret2
  exact ⟨rfl, hb⟩
set_option maxHeartbeats 1600000 in
theorem Print_yes (a : Option Addr) (n c : Nat) (f : Nat → Nd) (W : World) (h : Nq W a n f) (hnc : n ≤ c) (hc : c ≤ maxLen) (hn : n ≤ 1000000) (hm : mayP f n) {s : List UInt8} (hs : PrL numB numT (tnF f n) s) :
    Calls Tryz.prog 6 #[.slice a n c] W (PnEnd (tx s) 0 W) := by
  have KM := TMay_is a n c f W h hnc hc hn
  rw [mayB_yes.2 hm] at KM
  replace KM := Lib.hid KM
  have KT := Lib.hid (fun b W hW => ptree_is (a := a) (c := c) (b := b) (may_sz hm) (may_pt hm hn hs) W hW)
  have KP := Lib.hid prints_is
  have H := Lib.hid h
  clear hm h hs
  go_enter Tryz.func6, Tryz.ntmps6
  go_wp2_with fail
  refine KM.out.mono ?_
  rintro e w1 ⟨rfl, hb⟩
  go_wp2_with fail
  refine (KP.out _).mono ?_
  rintro e w2 ⟨b, rfl, hbl, hT, hb2⟩
  have hbb := hb.trans (hb2.mono hb.size)
  have hq := H.out.below hbb
  have hP := Bp.new w2 a n c b
  have p0 := hP.c0
  have p1 := hP.c1
  have hal := box_below w2 (.cells #[.slice a n c, .map (some b)] 41)
  have HY := Lib.hid (Hy.mk (hq.below hal) (hT.below hal) hn hnc hc)
  have HB := Lib.hid (hbb.trans (hal.mono hbb.size))
  clear hT hb2 hb hbb hq hP hal hbl
  go_wp2_with fail
  refine (KT.out b _ HY.out).mono ?_
  rintro e w3 ⟨rfl, hb3⟩
  go_wp2_with fail
  go_ret2
  exact ⟨rfl, HB.out.trans (hb3.mono HB.out.size)⟩
end Go.Proofs.YtljkmdmbndjngaaGreat
/-
  The reference's readers of parts: kind, text, mark, verbal; boxes.
-/
namespace Go.Proofs.YtljkmdmbndjngaaGreat
set_option linter.unusedVariables false
set_option linter.unusedSimpArgs false
open Go.RowKit

/-- A block that holds these. -/
def Bk (t : TypeId) (W : World) (g : Nat) (cs : List Value) : Prop := W.heap[g]? = some (.cells cs.toArray t (0, 0))
section
variable {t : TypeId} {W W' : World} {g : Nat} {cs : List Value}
theorem Bk.lt (h : Bk t W g cs) : g < W.heap.size := (Array.getElem?_eq_some_iff.1 h).1
theorem Bk.c (h : Bk t W g cs) (i : Nat) : W.cell? ⟨g, i, none⟩ = cs[i]? := by rw [cell_of_row _ _ i _ _ _ h]; simp
theorem Bk.f (h : Bk t W g cs) (i : Nat) : W.frozen? ⟨g, i, none⟩ = false := frozen_of_row _ _ i _ _ h
theorem Bk.below (h : Bk t W g cs) {B : Nat} (hb : Below B W W') (hg : g < B) : Bk t W' g cs := (hb.block g hg).trans h
theorem Bk.on (h : Bk t W g cs) (hb : Below W.heap.size W W') : Bk t W' g cs := h.below hb h.lt
theorem Bk.alloc (h : Bk t W g cs) (o : Obj) : Bk t (W.alloc o) g cs := (Below.heap_alloc W o g h.lt).trans h
theorem Bk.new (t : TypeId) (W : World) (cs : List Value) : Bk t (W.alloc (.cells cs.toArray t)) W.heap.size cs := heap_alloc_new W _
theorem Bk.new' (t : TypeId) (W : World) {g : Nat} (hg : g = W.heap.size) (cs : List Value) : Bk t (W.alloc (.cells cs.toArray t)) g cs := by rw [hg]; exact heap_alloc_new W _
theorem Bk.set (h : Bk t W g cs) (i : Nat) (u : Value) : Bk t (W.setCell ⟨g, i, none⟩ u) g (cs.set i u) := by
  unfold Bk at h ⊢
  simp [World.setCell, Array.getElem?_modify, h]
theorem Bk.setOther (h : Bk t W g cs) {p : Addr} (hp : g ≠ p.block) (u : Value) : Bk t (W.setCell p u) g cs := (Below.heap_setCell W p u g hp).trans h
theorem Bk.drewN (h : Bk t W g cs) (q : Nat) : Bk t (W.drewN q) g cs := h
theorem Bk.drew (h : Bk t W g cs) : Bk t W.drew g cs := h
theorem Bk.p0 {u0 : Value} {l : List Value} (h : Bk t W g (u0 :: l)) : W.cell? ⟨g, 0, none⟩ = some u0 := h.c 0
theorem Bk.p1 {u0 u1 : Value} {l : List Value} (h : Bk t W g (u0 :: u1 :: l)) : W.cell? ⟨g, 1, none⟩ = some u1 := h.c 1
theorem Bk.p2 {u0 u1 u2 : Value} {l : List Value} (h : Bk t W g (u0 :: u1 :: u2 :: l)) : W.cell? ⟨g, 2, none⟩ = some u2 := h.c 2
theorem Bk.p3 {u0 u1 u2 u3 : Value} {l : List Value} (h : Bk t W g (u0 :: u1 :: u2 :: u3 :: l)) : W.cell? ⟨g, 3, none⟩ = some u3 := h.c 3
theorem Bk.p4 {u0 u1 u2 u3 u4 : Value} {l : List Value} (h : Bk t W g (u0 :: u1 :: u2 :: u3 :: u4 :: l)) : W.cell? ⟨g, 4, none⟩ = some u4 := h.c 4
theorem Bk.p5 {u0 u1 u2 u3 u4 u5 : Value} {l : List Value} (h : Bk t W g (u0 :: u1 :: u2 :: u3 :: u4 :: u5 :: l)) : W.cell? ⟨g, 5, none⟩ = some u5 := h.c 5
theorem Bk.p6 {u0 u1 u2 u3 u4 u5 u6 : Value} {l : List Value} (h : Bk t W g (u0 :: u1 :: u2 :: u3 :: u4 :: u5 :: u6 :: l)) : W.cell? ⟨g, 6, none⟩ = some u6 := h.c 6
end
def PureEnd (v : Value) (W : World) (e : Ending) (W' : World) : Prop := e = .returned v ∧ W = W'
def kd0 : List Pk → Int
  | [] => 0
  | q :: _ => q.k
def tx0 : List Pk → List UInt8
  | [] => []
  | q :: _ => q.t
def mkB (l : List Pk) (m : List UInt8) : Bool := decide (kd0 l = 6) && decide (tx0 l = m)
def vbB (l : List Pk) : Bool := decide (kd0 l = 3) || decide (kd0 l = 4) || mkB l [123]
theorem mkB_yes {l : List Pk} {c : UInt8} : mkB l [c] = true ↔ isMk c l := by
  unfold mkB
  rw [Bool.and_eq_true, decide_eq_true_iff, decide_eq_true_iff]
  cases l with
  | nil => exact ⟨fun h => absurd h.1 (by decide), fun h => h.elim⟩
  | cons q r => exact Iff.rfl
theorem mkB_no {l : List Pk} {c : UInt8} (h : ¬ isMk c l) : mkB l [c] = false := by
  cases hb : mkB l [c] with
  | false => rfl
  | true => exact absurd (mkB_yes.1 hb) h
theorem vbB_yes {l : List Pk} : vbB l = true ↔ isVb l := by
  unfold vbB
  rw [Bool.or_eq_true, Bool.or_eq_true, decide_eq_true_iff, decide_eq_true_iff, mkB_yes, or_assoc]
  cases l with
  | nil => exact ⟨fun h => by rcases h with h | h | h; cases h; cases h; exact h, fun h => h.elim⟩
  | cons q r => exact Iff.rfl
theorem vbB_no {l : List Pk} (h : ¬ isVb l) : vbB l = false := by
  cases hb : vbB l with
  | false => rfl
  | true => exact absurd (vbB_yes.1 hb) h
theorem kd0_yes {l : List Pk} {k : Int} (hk : k ≠ 0) : kd0 l = k ↔ isK k l := by
  cases l with
  | nil => exact ⟨fun h => absurd h.symm hk, fun h => h.elim⟩
  | cons q r => exact Iff.rfl
/-- The parts of a line, as the grammar reads them. -/
def pks (ts : List Tk) : List Pk := ts.map Tk.pk
theorem pks_len (ts : List Tk) : (pks ts).length = ts.length := by simp [pks]
theorem pks_at {ts : List Tk} {i : Nat} {t : Tk} (h : ts[i]? = some t) : (pks ts).drop i = t.pk :: (pks ts).drop (i + 1) := by
  have h2 : (pks ts)[i]? = some t.pk := by unfold pks; rw [List.getElem?_map, h]; rfl
  obtain ⟨hl, e⟩ := List.getElem?_eq_some_iff.1 h2
  rw [List.drop_eq_getElem_cons hl, e]
theorem pks_out {ts : List Tk} {i : Nat} (h : ts.length ≤ i) : (pks ts).drop i = [] := List.drop_eq_nil_of_le (by rw [pks_len]; exact h)

section
variable (ts : List Tk) (a : Option Addr) (n c : Nat) (W : World) (h : Qs W a n (rtk ts)) (hn : n = ts.length) (hm : n ≤ 1000000)
include h hn hm
theorem rkind_is (i : Nat) : Calls Tryz.prog 81 #[.slice a n c, .int .i64 i] W (PureEnd (.int .i64 (kd0 ((pks ts).drop i))) W) := by
  by_cases hi : i < n
  · obtain ⟨t, ht⟩ : ∃ t, ts[i]? = some t := ⟨_, List.getElem?_eq_getElem (by omega)⟩
    rw [pks_at ht]
    obtain ⟨b, off, rfl, hc⟩ := h (by omega)
    have ck := (hc i hi).1
    rw [rtk_at ht] at ck
    have e2 : ¬ (n : Int) ≤ (i : Int) := by omega
    clear hc h
    go_enter Tryz.func81, Tryz.ntmps81
    go_wp2_with fail
    go_ret
    exact ⟨rfl, rfl⟩
  · rw [pks_out (by omega)]
    have e2 : (n : Int) ≤ (i : Int) := by omega
    clear h
    go_enter Tryz.func81, Tryz.ntmps81
    go_wp2_with fail
    go_ret
    exact ⟨rfl, rfl⟩
theorem rtext_is (i : Nat) : Calls Tryz.prog 85 #[.slice a n c, .int .i64 i] W (PureEnd (.string (tx (tx0 ((pks ts).drop i)))) W) := by
  by_cases hi : i < n
  · obtain ⟨t, ht⟩ : ∃ t, ts[i]? = some t := ⟨_, List.getElem?_eq_getElem (by omega)⟩
    rw [pks_at ht]
    obtain ⟨b, off, rfl, hc⟩ := h (by omega)
    have ck := (hc i hi).2.1
    rw [rtk_at ht] at ck
    have e2 : ¬ (n : Int) ≤ (i : Int) := by omega
    clear hc h
    go_enter Tryz.func85, Tryz.ntmps85
    go_wp2_with fail
    go_ret
    exact ⟨rfl, rfl⟩
  · rw [pks_out (by omega)]
    have e2 : (n : Int) ≤ (i : Int) := by omega
    clear h
    go_enter Tryz.func85, Tryz.ntmps85
    go_wp2_with fail
    go_ret
    exact ⟨rfl, rfl⟩
theorem rmark_is (i : Nat) (m : ByteArray) : Calls Tryz.prog 82 #[.slice a n c, .int .i64 i, .string m] W (PureEnd (.bool (mkB ((pks ts).drop i) m.data.toList)) W) := by
  have K1 := Lib.hid (rkind_is ts a n c W h hn hm i)
  have K2 := Lib.hid (rtext_is ts a n c W h hn hm i)
  clear h hn hm
  generalize (pks ts).drop i = l at *
  unfold mkB
  generalize kd0 l = k at *
  generalize tx0 l = t at *
  by_cases h6 : k = 6
  · subst h6
    by_cases he : t = m.data.toList
    · subst he
      go_enter Tryz.func82, Tryz.ntmps82
      go_wp2_with fail
      refine K1.out.mono ?_
      rintro e w1 ⟨rfl, rfl⟩
      go_wp2_with fail
      refine K2.out.mono ?_
      rintro e w1 ⟨rfl, rfl⟩
      go_wp2_with fail
      go_ret
      exact ⟨by show Ending.returned (Value.bool ((tx m.data.toList).toList == m.toList)) = _; rw [str_tl, str_tl, tx_list]; simp, rfl⟩
    · have e1 : ((tx t).toList == m.toList) = false := by
        rw [str_tl, str_tl, tx_list]
        exact beq_eq_false_iff_ne.2 he
      go_enter Tryz.func82, Tryz.ntmps82
      go_wp2_with fail
      refine K1.out.mono ?_
      rintro e w1 ⟨rfl, rfl⟩
      go_wp2_with fail
      refine K2.out.mono ?_
      rintro e w1 ⟨rfl, rfl⟩
      go_wp2_with fail
      go_ret
      exact ⟨by rw [decide_eq_false he]; rfl, rfl⟩
  · have e0 : (k == 6) = false := beq_eq_false_iff_ne.2 h6
    go_enter Tryz.func82, Tryz.ntmps82
    go_wp2_with fail
    refine K1.out.mono ?_
    rintro e w1 ⟨rfl, rfl⟩
    go_wp2_with fail
    go_ret
    exact ⟨by rw [decide_eq_false h6]; rfl, rfl⟩
theorem rverbal_is (i : Nat) : Calls Tryz.prog 104 #[.slice a n c, .int .i64 i] W (PureEnd (.bool (vbB ((pks ts).drop i))) W) := by
  have K1 := Lib.hid (rkind_is ts a n c W h hn hm i)
  have K2 := Lib.hid (rmark_is ts a n c W h hn hm i ⟨#[123]⟩)
  clear h hn hm
  generalize (pks ts).drop i = l at *
  unfold vbB
  rw [show (ByteArray.mk #[123]).data.toList = [123] from rfl] at K2
  generalize kd0 l = k at *
  generalize mkB l [123] = b at *
  by_cases h3 : k = 3
  · subst h3
    go_enter Tryz.func104, Tryz.ntmps104
    go_wp2_with fail
    refine K1.out.mono ?_
    rintro e w1 ⟨rfl, rfl⟩
    go_wp2_with fail
    go_ret
    exact ⟨by simp, rfl⟩
  have e3 : (k == 3) = false := beq_eq_false_iff_ne.2 h3
  by_cases h4 : k = 4
  · subst h4
    go_enter Tryz.func104, Tryz.ntmps104
    go_wp2_with fail
    refine K1.out.mono ?_
    rintro e w1 ⟨rfl, rfl⟩
    go_wp2_with fail
    refine K1.out.mono ?_
    rintro e w1 ⟨rfl, rfl⟩
    go_wp2_with fail
    go_ret
    exact ⟨by simp, rfl⟩
  have e4 : (k == 4) = false := beq_eq_false_iff_ne.2 h4
  go_enter Tryz.func104, Tryz.ntmps104
  go_wp2_with fail
  refine K1.out.mono ?_
  rintro e w1 ⟨rfl, rfl⟩
  go_wp2_with fail
  refine K1.out.mono ?_
  rintro e w1 ⟨rfl, rfl⟩
  go_wp2_with fail
  refine K2.out.mono ?_
  rintro e w1 ⟨rfl, rfl⟩
  go_wp2_with fail
  go_ret
  exact ⟨by simp [h3, h4], rfl⟩
end
end Go.Proofs.YtljkmdmbndjngaaGreat
/-
  The reference's wrap and verb.
-/
namespace Go.Proofs.YtljkmdmbndjngaaGreat
set_option linter.unusedVariables false
set_option linter.unusedSimpArgs false
open Go.RowKit Go.Maps

theorem cls_word : ∀ c : UInt8, cls c = 3 → 65 ≤ c.toNat ∧ c.toNat ≤ 90 := all_u8 (by decide +kernel)
theorem cls_sign : ∀ c : UInt8, cls c = 4 → c.toNat < 65 ∨ 90 < c.toNat := all_u8 (by decide +kernel)
set_option maxRecDepth 10000 in
set_option maxHeartbeats 1600000 in
theorem rwrap_is {a : Option Addr} {n c : Nat} {f : Nat → Nd} (p : Nat) (t : ByteArray) (W : World) (h : Nq W a n f) (hnc : n ≤ c) (hcm : c ≤ maxLen) (hn : n ≤ 1000000) (hp : p < n) (zt : t.size ≤ 20000000000) :
    Calls Tryz.prog 36 #[.slice a n c, .int .i64 (p : Int), .string t] W (StB (wrB (f p).k t) W) := by
  have q0 : ¬ (9223372036854775807 < 1 + t.size) := by omega
  have q1 : ¬ (9223372036854775807 < 1 + t.size + 1) := by omega
  have q2 : ¬ (9223372036854775807 ≤ 1 + t.size) := by omega
  obtain ⟨gb, off, rfl, hc⟩ := h.ld (by omega)
  have c0 := (hc p hp).c0
  clear hc h
  unfold wrB
  generalize (f p).k = dk at *
  by_cases h3 : dk = 3
  · subst h3
    rw [if_pos (.inl rfl)]
    go_enter Tryz.func36, Tryz.ntmps36
    go_wp2_with fail
    go_ret
    exact ⟨rfl, Below.refl _ _⟩
  · by_cases h4 : dk = 4
    · subst h4
      rw [if_pos (.inr rfl)]
      go_enter Tryz.func36, Tryz.ntmps36
      go_wp2_with fail
      go_ret
      exact ⟨rfl, Below.refl _ _⟩
    · rw [if_neg (by rintro (h | h); exact h3 h; exact h4 h)]
      have e3 : (dk == 3) = false := beq_eq_false_iff_ne.2 h3
      have e4 : (dk == 4) = false := beq_eq_false_iff_ne.2 h4
      clear h3 h4
      go_enter Tryz.func36, Tryz.ntmps36
      go_wp2_with fail
      go_ret
      exact ⟨rfl, Below.refl _ _⟩
set_option maxRecDepth 10000 in
set_option maxHeartbeats 3200000 in
theorem rverb_one (dk : Int) (dv da dx : ByteArray) (dg : Option Addr) (dm dc : Nat) (body : ByteArray) (W : World) (R : ByteArray) (hp : 0 < dv.size)
    (hj : ((65 ≤ (dv[0]'hp).toNat ∧ (dv[0]'hp).toNat ≤ 90) ∧ R = (⟨#[32]⟩ : ByteArray) ++ dv ++ ⟨#[32]⟩ ++ da) ∨ (((dv[0]'hp).toNat < 65 ∨ 90 < (dv[0]'hp).toNat) ∧ R = dv ++ da)) (hv : dv.data.toList ≠ [123]) (zv : dv.size ≤ 256) (za : da.size ≤ 300) :
    Calls Tryz.prog 35 #[.agg #[.int .i64 dk, .string dv, .string da, .string dx, .slice dg dm dc], .string body] W (StB R W) := by
  have hD := Bd.new W dk dv da dx dg dm dc
  have hB := box_below W (.cells #[.int .i64 dk, .string dv, .string da, .string dx, .slice dg dm dc] 37)
  have d1 := hD.c1
  have d2 := hD.c2
  have hne : (dv.toList == [123]) = false := by
    rw [str_tl]
    exact beq_eq_false_iff_ne.2 hv
  have hn2 : ¬ dv.toList = [123] := by rw [str_tl]; exact hv
  have q0 : ¬ (9223372036854775807 < 1 + dv.size) := by omega
  have q1 : ¬ (9223372036854775807 < 1 + dv.size + 1) := by omega
  have q2 : ¬ (9223372036854775807 ≤ 1 + dv.size) := by omega
  have q3 : ¬ (9223372036854775807 < 1 + dv.size + 1 + da.size) := by omega
  have q4 : ¬ (9223372036854775807 < dv.size + da.size) := by omega
  have HB := Lib.hid hB
  clear hD hB hv
  have key : ((65 : Int) ≤ ((dv[0]'hp).toNat : Int) ∧ ((dv[0]'hp).toNat : Int) ≤ 90 ∧ R = (⟨#[32]⟩ : ByteArray) ++ dv ++ ⟨#[32]⟩ ++ da) ∨ (¬ (65 : Int) ≤ ((dv[0]'hp).toNat : Int) ∧ R = dv ++ da) ∨ ((65 : Int) ≤ ((dv[0]'hp).toNat : Int) ∧ ¬ ((dv[0]'hp).toNat : Int) ≤ 90 ∧ R = dv ++ da) := by
    rcases hj with ⟨h, e⟩ | ⟨h, e⟩
    · exact .inl ⟨by omega, by omega, e⟩
    · by_cases h65 : (dv[0]'hp).toNat < 65
      · exact .inr (.inl ⟨by omega, e⟩)
      · exact .inr (.inr ⟨by omega, by omega, e⟩)
  clear hj
  rcases key with ⟨k1, k2, rfl⟩ | ⟨k1, rfl⟩ | ⟨k1, k2, rfl⟩
  all_goals
    go_enter Tryz.func35, Tryz.ntmps35
    go_wp2_with fail
    go_ret
    exact ⟨rfl, HB.out⟩
set_option maxRecDepth 10000 in
set_option maxHeartbeats 3200000 in
theorem rverb_body (dk : Int) (da dx : ByteArray) (dg : Option Addr) (dm dc : Nat) (t : ByteArray) (W : World) (za : da.size ≤ 300) (zt : t.size ≤ 20000000000) :
    Calls Tryz.prog 35 #[.agg #[.int .i64 dk, .string ⟨#[123]⟩, .string da, .string dx, .slice dg dm dc], .string t] W (StB ((⟨#[123]⟩ : ByteArray) ++ t ++ ⟨#[125]⟩ ++ da) W) := by
  have hD := Bd.new W dk ⟨#[123]⟩ da dx dg dm dc
  have hB := box_below W (.cells #[.int .i64 dk, .string ⟨#[123]⟩, .string da, .string dx, .slice dg dm dc] 37)
  have d1 := hD.c1
  have d2 := hD.c2
  have q0 : ¬ (9223372036854775807 < 1 + t.size) := by omega
  have q1 : ¬ (9223372036854775807 < 1 + t.size + 1) := by omega
  have q2 : ¬ (9223372036854775807 ≤ 1 + t.size) := by omega
  have q3 : ¬ (9223372036854775807 < 1 + t.size + 1 + da.size) := by omega
  have HB := Lib.hid hB
  clear hD hB
  go_enter Tryz.func35, Tryz.ntmps35
  go_wp2_with fail
  go_ret
  exact ⟨rfl, HB.out⟩
/-- A verb, however it is told. -/
theorem rverb10_is {f : Nat → Nd} {n p : Nat} {w : List UInt8} {o : Option (List UInt8)} {d : Tn} (hd : d = tnOf (f p)) (hp : p < n) (hz : Sz f n) (hv : Vx d o w) (body : ByteArray) (K : ∀ t, o = some t → t.length ≤ 20000000000 ∧ body = tx t) (W : World) :
    Calls Tryz.prog 35 #[(f p).val, .string body] W (StB (tx w) W) := by
  obtain ⟨z1, z2, z3⟩ := hz p hp
  unfold Nd.val
  cases hv with
  | @one j k v a' w hv =>
    injection hd with e1 e2 e3
    have hne := vo_ne hv
    rw [e2] at hne
    have hvs := tx_of e2.symm
    have hpos : 0 < (f p).v.size := by
      rw [hvs, tx_size]
      cases hv <;> simp
    have key : ∀ (c : UInt8) (r : List UInt8), v = c :: r → (f p).v[0]'hpos = c := fun c r e => by
      refine get_list hpos ?_
      rw [← e2, e]; rfl
    refine rverb_one _ _ _ _ _ _ _ _ W _ hpos ?_ hne z1 (by omega)
    have hvs2 := tx_of e3.symm
    cases hv with
    | @sign c h =>
      refine .inr ⟨?_, by rw [hvs, hvs2, tx_cat]⟩
      have g := key c [] rfl
      rw [g]
      exact cls_sign c h
    | @word c t h ht =>
      refine .inl ⟨?_, by rw [hvs, hvs2, show (⟨#[32]⟩ : ByteArray) = tx [32] from rfl, tx_cat, tx_cat, tx_cat]; simp⟩
      have g := key c t rfl
      rw [g]
      exact cls_word c h
  | @body k a' t =>
    injection hd with e1 e2 e3
    obtain ⟨hl, rfl⟩ := K t rfl
    rw [tx_of e2.symm, show tx [123] = (⟨#[123]⟩ : ByteArray) from rfl]
    have g := rverb_body (dk := (f p).k) (da := (f p).a) (dx := (f p).x) (dg := (f p).g) (dm := (f p).m) (dc := (f p).c) (tx t) W (by omega) (by rw [tx_size]; exact hl)
    rw [tx_of e3.symm, show (⟨#[123]⟩ : ByteArray) = tx [123] from rfl, show (⟨#[125]⟩ : ByteArray) = tx [125] from rfl, tx_cat, tx_cat, tx_cat] at g
    simp only [List.singleton_append, List.append_assoc, List.cons_append, List.nil_append] at g
    rw [← tx_of e3.symm] at g
    exact g
end Go.Proofs.YtljkmdmbndjngaaGreat

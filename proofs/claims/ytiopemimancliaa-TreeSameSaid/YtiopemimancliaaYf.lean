/-
  How deep a tree is: of the program.
-/
import Derived.Test.YtiopemimancliaaYe
import Derived.Laws.OwnMore
import Derived.BigQuiet
namespace Go.Proofs.Ytiopemimancliaa
open Go.RowKit

set_option maxHeartbeats 1600000 in
theorem rSameI_is (a b : Option Addr) (c d : Nat) (l : List Nat) (W : World) (h1 : Pl W a l) (h2 : Pl W b l) (hl : l.length ≤ 1000000) :
    Calls Try.prog 13 #[.slice a l.length c, .slice b l.length d] W (ValEnd (.bool true) W) := by
  have H1 := Lib.hid h1
  have H2 := Lib.hid h2
  obtain ⟨n, hn⟩ : ∃ n, n = l.length := ⟨_, rfl⟩
  rw [← hn] at hl ⊢
  have HN := Lib.hid hn
  clear h1 h2 hn
  go_enter Try.func13, Try.ntmps13
  go_wp2_with fail
  go_loopw [5] (fun i wr => ∃ q : Nat, i = .int .i64 q ∧ q ≤ n ∧ Below W.heap.size W wr) (fun i _ => n - (intOf i).toNat)
  case atStart => exact ⟨0, rfl, by omega, Below.refl _ _⟩
  case round =>
    obtain ⟨q, rfl, hq, hb⟩ := hrel
    by_cases hlt : q < n
    · have e2 : (q : Int) < (n : Int) := by omega
      obtain ⟨b1, o1, rfl, hc1⟩ := H1.out (by rw [← HN.out]; omega)
      obtain ⟨b2, o2, rfl, hc2⟩ := H2.out (by rw [← HN.out]; omega)
      obtain ⟨x, hx⟩ : ∃ x, l[q]? = some x := ⟨_, List.getElem?_eq_getElem (by rw [← HN.out]; exact hlt)⟩
      have k1 := hc1 q x hx
      have k2 := hc2 q x hx
      have hk1 := (hb.cell (World.block_lt_of_cell? W _ k1)).trans k1
      have hk2 := (hb.cell (World.block_lt_of_cell? W _ k2)).trans k2
      clear hc1 hc2 k1 k2 hx
      go_wp2_with fail
      go_quiet (fail)
      go_wp2_with fail
      go_roundw
      case rel => exact ⟨q + 1, by go_num, by omega, below_drewN hb _⟩
      case measure => simp [intOf]; omega
    · have e2 : ¬ (q : Int) < (n : Int) := by omega
      go_wp2_with fail
      go_ret
      exact ⟨rfl, hb⟩
/-- Numbers in a row. -/
def vi (l : List Int) : List Value := l.map (Value.int .i64)
def szOf : Value → Nat
  | .slice _ n _ => n
  | _ => 0
theorem vi_len (l : List Int) : (vi l).length = l.length := by simp [vi]
/-- A row of numbers that is not empty: its block. -/
theorem own_vi {w : World} {base n : Nat} {v : Value} {l : List Int} (h : w.ownsRow base 3 1 v n (vi l)) (hn : 0 < n) : ∃ g cap, v = .slice (some ⟨g, 0, none⟩) n cap ∧ base ≤ g ∧ n ≤ cap ∧ cap ≤ maxLen ∧ l.length = n ∧ (∀ j x, l[j]? = some x → w.cell? ⟨g, j, none⟩ = some (.int .i64 x)) ∧ ∀ j, w.frozen? ⟨g, j, none⟩ = false := by
  have hl : l.length = n := by have := h.1; rw [vi_len, Nat.mul_one] at this; exact this
  rcases h.2 with ⟨_, h0⟩ | ⟨g, cap, cur, rfl, h0, hg, h1, h2, h3, h4⟩
  · omega
  · refine ⟨g, cap, rfl, h0, h1, h2, hl, fun j x hj => ?_, fun j => h.frozenAt j⟩
    rw [h.cellAt j (by have := (List.getElem?_eq_some_iff.1 hj).1; omega)]
    simp [vi, hj]
theorem own_any {w : World} {base n e s : Nat} {v : Value} {xs : List Value} (h : w.ownsRow base e s v n xs) : ∃ a c, v = .slice a n c := by
  rcases h.2 with ⟨rfl, rfl⟩ | ⟨g, cap, _, rfl, _⟩
  · exact ⟨_, _, rfl⟩
  · exact ⟨_, _, rfl⟩
theorem own_take {w : World} {base n k g cap : Nat} {xs : List Value} (h : w.ownsRow base 3 1 (.slice (some ⟨g, 0, none⟩) n cap) n xs) (hk : k ≤ n) : w.ownsRow base 3 1 (.slice (some ⟨g, 0, none⟩) k cap) k (xs.take k) := by
  have hl := h.1
  rcases h.2 with ⟨h0, _⟩ | ⟨g', cap', cur, hv, h0, hg, h1, h2, h3, h4⟩
  · cases h0
  · injection hv with hv hn hc
    injection hv with hv
    injection hv with hv
    subst hv hc
    refine ⟨by rw [List.length_take]; omega, .inr ⟨_, _, cur, rfl, h0, hg, by omega, h2, h3, ?_⟩⟩
    rw [← h4, List.take_take, Nat.min_eq_left (by omega), Nat.mul_one]
set_option maxHeartbeats 3200000 in
theorem Depth_none (a : Option Addr) (n c : Nat) (f : Nat → Nd) (W : World) (h : Nq W a n f) (hn : n ≤ 1000000) (he : eN (ksF f n) 1 0 = none) :
    Calls Try.prog 16 #[.slice a n c] W (ValEnd (.int .i64 0) W) := by
  have KE := End_in a n c f 0 W h hn (by omega)
  rw [he] at KE
  replace KE := Lib.hid KE
  clear he
  go_enter Try.func16, Try.ntmps16
  go_wp2_with fail
  refine KE.out.mono ?_
  rintro e w1 ⟨rfl, hb⟩
  unfold endV
  go_wp2_with fail
  go_ret
  exact ⟨rfl, hb⟩
set_option maxHeartbeats 3200000 in
theorem Depth_some (a : Option Addr) (n c : Nat) (f : Nat → Nd) (e D : Nat) (W : World) (h : Nq W a n f) (hnc : n ≤ c) (hc : c ≤ maxLen) (hn : n ≤ 1000000) (he : Fd (ksF f n) 0 1 e D) :
    Calls Try.prog 16 #[.slice a n c] W (ValEnd (.int .i64 (D : Int)) W) := by
  have KE := End_in a n c f 0 W h hn (by omega)
  rw [he.ends] at KE
  replace KE := Lib.hid KE
  have hD := he.deep
  have hle := he.le
  have hen := hle.2 (by omega)
  rw [ks_len] at hen
  have hs := Lib.hid (Fin.start he)
  have H := Lib.hid h
  obtain ⟨gb, off, rfl, hcs⟩ := h.ld (by omega)
  have HC := Lib.hid hcs
  have KK := Lib.hid (fun j w => Kids_is (f j).k (f j).v (f j).a (f j).x (f j).g (f j).m (f j).c w)
  clear h hcs he
  go_enter Try.func16, Try.ntmps16
  go_wp2_with fail
  refine KE.out.mono ?_
  rintro e' w1 ⟨rfl, hb⟩
  unfold endV
  clear KE
  go_wp2_with fail
  go_loopw [5, 6, 20] (fun dv av kv wr => ∃ (i x m d : Nat) (r : List Nat), dv = .int .i64 x ∧ kv = .int .i64 i ∧ i ≤ e ∧ Fin (ksF f n) (m :: r) i e d ∧ D = max x d ∧ r.length ≤ x ∧ (r = [] ∨ 1 ≤ m) ∧ wr.ownsRow W.heap.size 3 1 av r.length (vi (mm (m :: r))) ∧ Below W.heap.size W wr) (fun _ _ kv _ => e - (intOf kv).toNat)
  case atStart => exact ⟨0, 0, 1, D, [], rfl, rfl, by omega, hs.out, by omega, by simp, .inl rfl, ⟨rfl, .inl ⟨rfl, rfl⟩⟩, hb⟩
  case round =>
    clear hb hs
    obtain ⟨i, x, m, d, r, rfl, rfl, hi, hF, hx, hr, hm, ho, hb⟩ := hrel
    by_cases hlt : i < e
    · have e2 : (i : Int) < (e : Int) := by omega
      obtain ⟨m, rfl⟩ := hF.more hm hlt
      obtain ⟨k, hk, hF2, hrd, _⟩ := hF.push
      rw [ks_at (by omega)] at hk
      injection hk with hk
      have HK := Lib.hid (fun w => hk ▸ KK.out i w)
      obtain ⟨c0, c1, c2, c3, c4⟩ := (HC.out i (by omega)).below hb (HC.out i (by omega)).lt
      have HF := Lib.hid hF2
      have hsz := hb.size
      have hB := Bd.new wr (f i).k (f i).v (f i).a (f i).x (f i).g (f i).m (f i).c
      have b0 := hB.c0
      have b1 := hB.c1
      have b2 := hB.c2
      have b3 := hB.c3
      have b4 := hB.c4
      have hb2 := Lib.hid (hb.alloc hsz (.cells #[.int .i64 (f i).k, .string (f i).v, .string (f i).a, .string (f i).x, .slice (f i).g (f i).m (f i).c] 25))
      have HO := Lib.hid (ho.alloc (.cells #[.int .i64 (f i).k, .string (f i).v, .string (f i).a, .string (f i).x, .slice (f i).g (f i).m (f i).c] 25))
      clear hk hF hF2 hB hb ho hm hsz KK
      go_wp2_with fail
      refine (HK.out _).mono ?_
      rintro e' w2 ⟨rfl, hb1⟩
      have ho := own_below5 HO.out hb1
      have hb := hb2.out.trans (hb1.mono hb2.out.size)
      have hsz := hb.size
      clear b0 b1 b2 b3 b4 c0 c1 c2 c3 c4 hb1 hb2 HO HK
      obtain ⟨i0, hi0, hz0, hz1, hz2⟩ := info_parts infoI
      go_wp2_with (at_builtin; refine wpList_append_own _ rfl (.tmp 24) (.tmp 27) 32 rfl W.heap.size 3 i0 (.int .i64 0) 1 8 Try.underlying32 hi0 hz0 hz1 hz2 rfl (by decide) _ _ _ rfl (ho.alloc _) ⟨w2.heap.size, 0, none⟩ 1 1 [.int .i64 (k : Int)] rfl rfl ?c1 ?c2 ?c3 ?c4 ?c5 ?_)
      case c1 =>
        intro j u hj
        rw [Go.WideShapes.add_plain, Nat.zero_add, cell_of_row _ _ _ _ _ _ (heap_alloc_new w2 _), ← hj, ← Array.getElem?_toList]
      case c2 => intro u hu; simp at hu; rcases hu with rfl; rfl
      case c3 => unfold maxLen; omega
      case c4 => omega
      case c5 => simp; omega
      intro v' w3 hown' hgrow hnn'
      have hb' : Below W.heap.size W w3 := (hb.alloc hsz _).grown hgrow (by simp; omega) (fun k hk => (ho.lt k hk).1)
      have hrow : w3.ownsRow W.heap.size 3 1 v' (r.length + 1) (vi (mm (k :: m :: r))) := by
        rw [mm_push]
        unfold vi at hown' ⊢
        rw [List.map_append]
        exact hown'
      clear hgrow ho hb hnn' hown' hsz
      obtain ⟨g, cap, rfl, hg, hcap, hcm, hlen, hcell, hfz⟩ := own_vi hrow (by omega)
      obtain ⟨x2, hx2⟩ : ∃ x2 : Nat, x2 = max x (r.length + 1) := ⟨_, rfl⟩
      have HF3 := Lib.hid HF.out
      have HO3 := Lib.hid hrow
      clear hcell hfz hlen hrow HF
      go_wp2_with fail
      all_goals
        go_loopw [6] (fun av wr => ∃ (t d' : Nat) (r' : List Nat), Fin (ksF f n) (t :: r') (i + 1) e d' ∧ D = max x2 d' ∧ r'.length ≤ x2 ∧ wr.ownsRow W.heap.size 3 1 av r'.length (vi (mm (t :: r'))) ∧ Below W.heap.size W wr) (fun av _ => szOf av)
        case atStart => exact ⟨k, d, m :: r, HF3.out, by omega, by simp; omega, HO3.out, hb'⟩
        case round =>
          clear hb' HF3 HO3 hrd hx hr
          obtain ⟨t, d', r', hF, hx', hr', ho, hb⟩ := hrel
          rcases r' with _ | ⟨m', r'⟩
          · obtain ⟨a', c', rfl⟩ := own_any ho
            have HF := Lib.hid hF
            have HO := Lib.hid ho
            clear hF ho
            go_wp2_with fail
            refine ⟨⟨i + 1, x2, t, d', [], by congr 1; omega, by go_num, by omega, HF.out, hx', by simp, .inl rfl, HO.out, hb⟩, by simp [intOf]; omega⟩
          · obtain ⟨q, hq⟩ : ∃ q, q = r'.length := ⟨_, rfl⟩
            have hl : (m' :: r').length = q + 1 := by rw [hq]; rfl
            rw [hl] at ho hr'
            obtain ⟨g2, cap2, rfl, hg2, hcap2, hcm2, hlen2, hcell2, hfz2⟩ := own_vi ho (by omega)
            have ctop := hcell2 q (t : Int) (by rw [hq]; exact mm_top t m' r')
            by_cases ht : t = 0
            · subst ht
              obtain ⟨d2, hF2, hx3⟩ := hF.pop (x := x2) (by rw [hl]; omega) hx'
              have hm2 := hF2.head_le
              have htk := own_take ho (k := q) (by omega)
              rw [show (vi (mm (0 :: m' :: r'))).take q = vi (pl (m' :: r')).reverse by unfold vi; rw [← List.map_take, hq, mm_take]] at htk
              have HF := Lib.hid hF2
              have HX := Lib.hid hx3
              rcases r' with _ | ⟨a, r'⟩
              · obtain rfl : q = 0 := hq
                have HO := Lib.hid htk
                clear hF ho hcell2 hfz2 hl hF2 hx3 hm2 htk hx'
                go_wp2_with fail
                refine ⟨⟨m', d2, [], HF.out, HX.out, by simp, HO.out, hb⟩, by simp [szOf]⟩
              · obtain ⟨p, hp⟩ : ∃ p, p = r'.length := ⟨_, rfl⟩
                obtain rfl : q = p + 1 := by rw [hq, hp]; rfl
                obtain ⟨hp1, hp2⟩ := pl_last m' a r'
                rw [← hp] at hp1 hp2
                obtain ⟨g3, cap3, hv, -, -, -, -, hcell3, -⟩ := own_vi htk (by omega)
                cases hv
                have cp := hcell3 p _ hp1
                have fp := htk.frozenAt p
                have hst := (htk.stored p (.int .i64 (m' : Int))).1
                rw [show (vi (pl (m' :: a :: r')).reverse).set p (.int .i64 (m' : Int)) = vi (mm (m' :: a :: r')) by unfold vi; rw [← hp2, List.map_set]] at hst
                have HO := Lib.hid hst
                have hb3 : Below W.heap.size W (wr.setCell ⟨g2, p, none⟩ (.int .i64 (m' : Int))) := hb.setCell hg2 _
                have HP := Lib.hid hp
                have w5 : IntKind.i64.wrap (m' : Int) = (m' : Int) := wrn (by omega) (by omega)
                have w7 : IntKind.i64.wrap (p : Int) = (p : Int) := wrn (by omega) (by omega)
                have w6 : IntKind.i64.wrap ((p : Int) + 1) = (p : Int) + 1 := wrn (by omega) (by omega)
                clear hF ho hcell2 hfz2 hl hF2 hx3 hm2 htk hx' hcell3 hp1 hp2 hst hp hq
                go_wp2_with fail
                refine ⟨⟨m', d2, a :: r', HF.out, HX.out, by rw [show (a :: r').length = p + 1 by rw [HP.out]; rfl]; omega, by rw [show (a :: r').length = p + 1 by rw [HP.out]; rfl]; exact HO.out, hb3⟩, by simp [szOf]⟩
            · have e3 : ((t : Int) == 0) = false := beq_eq_false_iff_ne.2 (by omega)
              have HF := Lib.hid hF
              have HO := Lib.hid ho
              have HQ := Lib.hid hq
              clear hF ho hcell2 hfz2 hl hq
              go_wp2_with fail
              refine ⟨⟨i + 1, x2, t, d', m' :: r', by congr 1; omega, by go_num, by omega, HF.out, hx', by rw [show (m' :: r').length = q + 1 by rw [HQ.out]; rfl]; omega, .inr (by omega), by rw [show (m' :: r').length = q + 1 by rw [HQ.out]; rfl]; exact HO.out, hb⟩, by simp [intOf]; omega⟩
    · have e2 : ¬ (i : Int) < (e : Int) := by omega
      obtain rfl : i = e := by omega
      have h0 := hF.done hm
      subst h0
      obtain rfl : D = x := by omega
      clear hF ho hx hr hD
      go_wp2_with fail
      go_ret
      exact ⟨rfl, hb⟩
end Go.Proofs.Ytiopemimancliaa

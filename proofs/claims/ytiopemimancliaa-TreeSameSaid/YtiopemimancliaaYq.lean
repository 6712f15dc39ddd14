/-
  Node, of the program; a tree of one number.
-/
import Derived.Test.YtiopemimancliaaYp
namespace Go.Proofs.Ytiopemimancliaa
open Go.RowKit

set_option maxHeartbeats 6400000 in
theorem Node_is (d : Nd) (ka : Option Addr) (K kc : Nat) (k : Nat → Kd) (W : World) (hd : d.on W) (hk : ∀ i, i < K → Nq W (k i).a (k i).n (k i).f)
    (hkc : 0 < K → ∃ b off, ka = some ⟨b, off, none⟩ ∧ ∀ i, i < K → W.cell? ⟨b, off + i, none⟩ = some (.slice (k i).a (k i).n (k i).c))
    (hK : K ≤ 1000) (hM : nM k K ≤ 1000000) (hz : ∀ j, j < nM k K → (nF d k K j).m * 16 ≤ 140737488355328) :
    Calls Try.prog 22 #[d.val, .slice ka K kc] W (NodeEnd (nF d k K) (nM k K) W) := by
  have HON := Lib.hid (fun w (hb : Below W.heap.size W w) => nF_on (hd.below hb) K (fun q hq => (hk q hq).below hb))
  have HD := Lib.hid hd
  have HK := Lib.hid hk
  have HKC := Lib.hid hkc
  have HZ := Lib.hid hz
  have hbox := box_below W (.cells #[.int .i64 d.k, .string d.v, .string d.a, .string d.x, .slice d.g d.m d.c] 25)
  have hA := Bd.new W d.k d.v d.a d.x d.g d.m d.c
  have a0 := hA.c0
  have a1 := hA.c1
  have a2 := hA.c2
  have a3 := hA.c3
  have a4 := hA.c4
  have hrow := World.ownsRow_lit (base := W.heap.size) (e := 25) (size := 5) (W.alloc (.cells #[.int .i64 d.k, .string d.v, .string d.a, .string d.x, .slice d.g d.m d.c] 25)) #[.int .i64 d.k, .string d.v, .string d.a, .string d.x, .slice d.g d.m d.c] 1 hbox.size (by unfold maxLen; omega) rfl
  rw [show (W.alloc (.cells #[.int .i64 d.k, .string d.v, .string d.a, .string d.x, .slice d.g d.m d.c] 25)).heap.size = W.heap.size + 1 by simp] at hrow
  have hb0 := hbox.alloc hbox.size (.cells #[.int .i64 d.k, .string d.v, .string d.a, .string d.x, .slice d.g d.m d.c] 25)
  have HR := Lib.hid hrow
  have HB := Lib.hid hb0
  clear hd hk hkc hz hbox hA hrow hb0
  show Calls _ _ #[.agg #[.int .i64 d.k, .string d.v, .string d.a, .string d.x, .slice d.g d.m d.c], .slice ka K kc] W _
  go_enter Try.func22, Try.ntmps22
  go_wp2_with fail
  go_loopw [5, 13] (fun lv iv wr => ∃ i : Nat, iv = .int .i64 i ∧ i ≤ K ∧ wr.ownsRow W.heap.size 25 5 lv (nM k i) (nvs (nF d k i) (nM k i)) ∧ Below W.heap.size W wr) (fun _ iv _ => K - (intOf iv).toNat)
  case atStart => exact ⟨0, rfl, by omega, HR.out, HB.out⟩
  case round =>
    obtain ⟨i, rfl, hi, ho, hb⟩ := hrel
    clear a0 a1 a2 a3 a4
    by_cases hlt : i < K
    · have e2 : (i : Int) < (K : Int) := by omega
      have hm1 := nM_le (k := k) (show i + 1 ≤ K by omega)
      have hM1 : nM k (i + 1) = nM k i + (k i).n := rfl
      obtain ⟨b, off, rfl, hc⟩ := HKC.out (by omega)
      have ci := (hb.cell (World.block_lt_of_cell? W _ (hc i hlt))).trans (hc i hlt)
      have hq := (HK.out i hlt).below hb
      have HNV := Lib.hid (nvs_ap (nF d k i) (nM k i) (k i).f (k i).n)
      have HF := Lib.hid (show nF d k (i + 1) = ap (nF d k i) (nM k i) (k i).f from rfl)
      clear hc
      have hsz := hb.size
      obtain ⟨i0, hi0, hz0, hz1, hz2⟩ := info_parts infoN
      go_wp2_with (at_builtin; refine wpList_append_all rfl (.tmp 17) (.tmp 18) 22 rfl W.heap.size 25 i0 (.agg #[.int .i64 0, .string ⟨#[]⟩, .string ⟨#[]⟩, .string ⟨#[]⟩, .slice none 0 0]) 5 80 Try.underlying22 hi0 hz0 hz1 hz2 rfl (by decide) _ _ _ rfl ho (k i).a (k i).n (k i).c (nvs (k i).f (k i).n) rfl (nvs_len _ _) ?c1 hq.cells (nvs_one _ _) ?c2 ?c3 hsz ?_)
      case c1 =>
        intro ha
        rcases Nat.eq_zero_or_pos (k i).n with h0 | h0
        · exact h0
        · obtain ⟨_, _, e, _⟩ := hq.ld h0
          rw [ha] at e; cases e
      case c2 => unfold maxLen; omega
      case c3 => omega
      intro v' w3 hown' hgrow
      have hb' : Below W.heap.size W w3 := hb.grown hgrow hsz (fun k hk => (ho.lt k hk).1)
      rw [← HNV.out, ← HF.out] at hown'
      have HO := Lib.hid hown'
      clear hgrow ho hb hown' hq ci hsz
      go_wp2_with fail
      refine ⟨⟨i + 1, by go_num, by omega, HO.out, hb'⟩, by simp [intOf]; omega⟩
    · have e2 : ¬ (i : Int) < (K : Int) := by omega
      obtain rfl : i = K := by omega
      have hon := HON.out _ hb
      obtain ⟨F, hF⟩ : ∃ F, F = nF d k i := ⟨_, rfl⟩
      have hM0 : 1 ≤ nM k i := nM_le (k := k) (Nat.zero_le i)
      rw [← hF] at ho hon
      have HFF := Lib.hid hF
      have HZ2 := Lib.hid (show ∀ j, j < nM k i → (F j).m * 16 ≤ 140737488355328 by rw [hF]; exact HZ.out)
      obtain ⟨M, hMM⟩ : ∃ M, M = nM k i := ⟨_, rfl⟩
      rw [← hMM] at ho hon HZ2 hM hM0
      have HMM := Lib.hid hMM
      obtain ⟨a, c, hv, _, hcm, hld⟩ := own_lds ho
      subst hv
      obtain ⟨g, off, rfl, hg, _⟩ := hld hM0
      obtain ⟨off0, hoff⟩ : off = 0 ∧ True := by
        rcases ho.2 with ⟨h0, _⟩ | ⟨g', cap', cur, h0, _⟩
        · cases h0
        · cases h0; exact ⟨rfl, trivial⟩
      subst off0
      have HON2 := Lib.hid hon
      have HO := Lib.hid ho
      clear hF hMM hld hon ho HON HZ HK HKC HR HB HD hoff
      go_wp2_with fail
      go_loopw [23] (fun iv wr => ∃ (q : Nat) (G : Nat → Nd), iv = .int .i64 q ∧ q ≤ M ∧ wr.ownsRow W.heap.size 25 5 (.slice (some ⟨g, 0, none⟩) M c) M (nvs G M) ∧ (∀ j, j < M → (G j).on wr) ∧ (∀ j, j < M → smN (G j) (F j) = true ∧ (G j).m = (F j).m) ∧ Below W.heap.size W wr ∧ ∀ j, j < q → Sb wr (G j)) (fun iv _ => M - (intOf iv).toNat)
      case atStart => exact ⟨0, F, rfl, by omega, HO.out, HON2.out, fun j hj => ⟨smN_self _, rfl⟩, hb, fun j hj => by omega⟩
      case round =>
        clear hb
        obtain ⟨q, G, rfl, hq, ho, hon, hsm, hb, hsb⟩ := hrel
        have HSB := Lib.hid hsb
        clear hsb
        by_cases hlt2 : q < M
        · have e3 : (q : Int) < (M : Int) := by omega
          have cq := (ho.cellAt (q * 5 + 4) (by omega)).trans (nvs_get G M q 4 hlt2 (by omega))
          replace cq : wr.cell? ⟨g, q * 5 + 4, none⟩ = some (.slice (G q).g (G q).m (G q).c) := cq
          have onq := hon q hlt2
          have hmq := HZ2.out q hlt2
          rw [← (hsm q hlt2).2] at hmq
          have hcA := onq.st.cells
          have hlen : (valsS (G q).ns).length = (G q).m * 1 := by unfold valsS; rw [List.length_map, Nat.mul_one]; exact onq.nl
          have hAn : (G q).g = none → (G q).m = 0 := by
            intro ha
            rcases Nat.eq_zero_or_pos (G q).m with h0 | h0
            · exact h0
            · obtain ⟨_, _, e, _⟩ := onq.st.2 h0
              rw [ha] at e; cases e
          have hmx : (G q).m ≤ maxLen := Nat.le_trans onq.mc onq.cm
          have hsz := hb.size
          have HNS := Lib.hid (nvs_set G)
          have HON3 := Lib.hid hon
          have HSM := Lib.hid hsm
          clear hon hsm
          obtain ⟨dq, hdq⟩ : ∃ dq, dq = G q := ⟨_, rfl⟩
          rw [← hdq] at cq onq hmq hcA hlen hAn hmx
          have HDQ := Lib.hid hdq
          clear hdq
          obtain ⟨i0, hi0, hz0, hz1, hz2⟩ := info_parts infoS
          go_wp2_with (at_builtin; refine wpList_append_all rfl (.const (.slice none 0 0)) (.tmp 32) 23 rfl W.heap.size 9 i0 (.string ⟨#[]⟩) 1 16 Try.underlying23 hi0 hz0 hz1 hz2 rfl (by decide) _ 0 [] rfl (World.ownsRow_nil _ _ _ _) dq.g dq.m dq.c (valsS dq.ns) rfl hlen hAn hcA (valsS_one _) ?c1 ?c2 hsz ?_)
          case c1 => omega
          case c2 => omega
          intro v' w3 hown' hgrow
          obtain ⟨a', c', rfl, hc1, hc2, hst⟩ := own_st hown'
          have hnew : dq.m = 0 ∨ ∃ b off cur fr, a' = some ⟨b, off, none⟩ ∧ w3.heap[b]? = some (Obj.cells cur 9 fr) := by
            rcases hown'.2 with ⟨_, h0⟩ | ⟨g', cap', cur', h1, _, h2, _⟩
            · exact .inl h0
            · injection h1 with h1 _ _
              exact .inr ⟨g', 0, cur', _, h1, h2⟩
          have hgn : ∃ cur fr, w3.heap[g]? = some (Obj.cells cur 25 fr) := by
            have ho9 := own_below5 ho ((Below.refl _ wr).grown hgrow (Nat.le_refl _) (fun k hk => by cases hk))
            rcases ho9.2 with ⟨h0, _⟩ | ⟨g', cap', cur', h1, _, h2, _⟩
            · cases h0
            · cases h1
              exact ⟨cur', _, h2⟩
          have keep : ∀ d : Nd, Sb w3 d → ∀ u, Sb (w3.setCell ⟨g, q * 5 + 4, none⟩ u) d := by
            intro d hd u
            rcases hd with h | ⟨b, off, cur, fr, h1, h2⟩
            · exact .inl h
            · refine .inr ⟨b, off, cur, fr, h1, (Below.heap_setCell w3 ⟨g, q * 5 + 4, none⟩ u b ?_).trans h2⟩
              intro e
              have e : b = g := e
              subst e
              obtain ⟨cur2, fr2, h3⟩ := hgn
              rw [h2] at h3
              cases h3
          have hbq : Below wr.heap.size wr w3 := (Below.refl _ wr).grown hgrow (Nat.le_refl _) (fun k hk => by cases hk)
          have hb' := hb.trans (hbq.mono hb.size)
          have ho3 := own_below5 ho hbq
          have cq3 := (hbq.cell (p := ⟨g, q * 5 + 4, none⟩) (World.block_lt_of_cell? wr _ cq)).trans cq
          have fq3 := ho3.frozenAt (q * 5 + 4)
          have hst4 := (ho3.stored (q * 5 + 4) (.slice a' dq.m c')).1
          have hb4 : Below W.heap.size W (w3.setCell ⟨g, q * 5 + 4, none⟩ (.slice a' dq.m c')) := hb'.setCell hg _
          have HFIN := Lib.hid (show (w3.setCell ⟨g, q * 5 + 4, none⟩ (.slice a' dq.m c')).ownsRow W.heap.size 25 5 (.slice (some ⟨g, 0, none⟩) M c) M (nvs (upd G q ((G q).mv a' c')) M) ∧ (∀ j, j < M → (upd G q ((G q).mv a' c') j).on (w3.setCell ⟨g, q * 5 + 4, none⟩ (.slice a' dq.m c'))) ∧ (∀ j, j < M → smN (upd G q ((G q).mv a' c') j) (F j) = true ∧ (upd G q ((G q).mv a' c') j).m = (F j).m) ∧ ∀ j, j < q + 1 → Sb (w3.setCell ⟨g, q * 5 + 4, none⟩ (.slice a' dq.m c')) (upd G q ((G q).mv a' c') j) by
            rw [HDQ.out] at hst4 hst hc1 onq cq3 hnew ⊢
            refine ⟨?_, fun j hj => ?_, fun j hj => ?_, fun j hj => ?_⟩
            · rw [← HNS.out a' c' M q hlt2]; exact hst4
            · by_cases hjq : j = q
              · subst hjq
                rw [upd_same]
                exact { st := hst.set cq3 _, mc := hc1, cm := hc2, k0 := onq.k0, k1 := onq.k1, vz := onq.vz, az := onq.az, xz := onq.xz, nz := onq.nz }
              · rw [upd_other _ _ hjq]
                exact ((HON3.out j hj).below hbq).set cq3 _
            · by_cases hjq : j = q
              · subst hjq
                rw [upd_same]
                exact HSM.out j hj
              · rw [upd_other _ _ hjq]
                exact HSM.out j hj
            · refine keep _ ?_ _
              by_cases hjq : j = q
              · subst hjq
                rw [upd_same]
                exact hnew
              · rw [upd_other _ _ hjq]
                exact (HSB.out j (by omega)).below hbq)
          have HB4 := Lib.hid hb4
          clear hnew hgn keep hgrow ho hb hown' hbq hb' ho3 hst4 hst hcA hlen hAn onq hsz hb4 cq
          go_wp2_with fail
          refine ⟨⟨q + 1, _, by go_num, by omega, HFIN.out.1, HFIN.out.2.1, HFIN.out.2.2.1, HB4.out, HFIN.out.2.2.2⟩, by simp [intOf]; omega⟩
        · have e3 : ¬ (q : Int) < (M : Int) := by omega
          have HO4 := Lib.hid ho
          have HON4 := Lib.hid hon
          have HSM := Lib.hid hsm
          clear ho hon hsm
          go_wp2_with fail
          go_ret
          exact ⟨_, G, rfl, by rw [← HMM.out]; exact HO4.out, by rw [← HMM.out]; exact HON4.out, by rw [← HMM.out, ← HFF.out]; exact fun j hj => (HSM.out j hj).1, hb, by rw [← HMM.out]; exact fun j hj => HSB.out j (by omega)⟩
end Go.Proofs.Ytiopemimancliaa

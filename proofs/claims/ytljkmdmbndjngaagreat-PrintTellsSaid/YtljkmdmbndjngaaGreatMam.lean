import Derived.Test.YtljkmdmbndjngaaGreatMal
import Derived.Test.YtljkmdmbndjngaaGreatMab
import Derived.Shelf.Strings.OnBuilder
import Derived.Test.YtljkmdmbndjngaaGreatProg
import Derived.Test.YtljkmdmbndjngaaGreatMag
import Derived.Test.YtljkmdmbndjngaaGreatMai
import Derived.Deep.OwnRows
import Derived.Deep.QuietTactic
import Derived.BigQuiet
import Derived.Test.YtljkmdmbndjngaaGreatMaf
import Derived.Test.YtljkmdmbndjngaaGreatMac
/-
  Node, of the program; a tree of one number.
-/
namespace Go.Proofs.YtljkmdmbndjngaaGreat
set_option linter.unusedVariables false
set_option linter.unusedSimpArgs false
open Go.RowKit

set_option maxHeartbeats 6400000 in
theorem Node_is (d : Nd) (ka : Option Addr) (K kc : Nat) (k : Nat → Kd) (W : World) (hd : d.on W) (hk : ∀ i, i < K → Nq W (k i).a (k i).n (k i).f)
    (hkc : 0 < K → ∃ b off, ka = some ⟨b, off, none⟩ ∧ ∀ i, i < K → W.cell? ⟨b, off + i, none⟩ = some (.slice (k i).a (k i).n (k i).c))
    (hK : K ≤ 1000) (hM : nM k K ≤ 1000000) (hz : ∀ j, j < nM k K → (nF d k K j).m * 16 ≤ 140737488355328) :
    Calls Tryz.prog 112 #[d.val, .slice ka K kc] W (NodeEnd (nF d k K) (nM k K) W) := by
  have HON := Lib.hid (fun w (hb : Below W.heap.size W w) => nF_on (hd.below hb) K (fun q hq => (hk q hq).below hb))
  have HD := Lib.hid hd
  have HK := Lib.hid hk
  have HKC := Lib.hid hkc
  have HZ := Lib.hid hz
  have hbox := box_below W (.cells #[.int .i64 d.k, .string d.v, .string d.a, .string d.x, .slice d.g d.m d.c] 37)
  have hA := Bd.new W d.k d.v d.a d.x d.g d.m d.c
  have a0 := hA.c0
  have a1 := hA.c1
  have a2 := hA.c2
  have a3 := hA.c3
  have a4 := hA.c4
  have hrow := World.ownsRow_lit (base := W.heap.size) (e := 37) (size := 5) (W.alloc (.cells #[.int .i64 d.k, .string d.v, .string d.a, .string d.x, .slice d.g d.m d.c] 37)) #[.int .i64 d.k, .string d.v, .string d.a, .string d.x, .slice d.g d.m d.c] 1 hbox.size (by unfold maxLen; omega) rfl
  rw [show (W.alloc (.cells #[.int .i64 d.k, .string d.v, .string d.a, .string d.x, .slice d.g d.m d.c] 37)).heap.size = W.heap.size + 1 by simp] at hrow
  have hb0 := hbox.alloc hbox.size (.cells #[.int .i64 d.k, .string d.v, .string d.a, .string d.x, .slice d.g d.m d.c] 37)
  have HR := Lib.hid hrow
  have HB := Lib.hid hb0
  clear hd hk hkc hz hbox hA hrow hb0
  show Calls _ _ #[.agg #[.int .i64 d.k, .string d.v, .string d.a, .string d.x, .slice d.g d.m d.c], .slice ka K kc] W _
  go_enter Tryz.func112, Tryz.ntmps112
  go_wp2_with fail
  go_loopw [5, 13] (fun lv iv wr => ∃ i : Nat, iv = .int .i64 i ∧ i ≤ K ∧ wr.ownsRow W.heap.size 37 5 lv (nM k i) (nvs (nF d k i) (nM k i)) ∧ Below W.heap.size W wr) (fun _ iv _ => K - (intOf iv).toNat)
  case atStart => exact ⟨0, rfl, by omega, HR.out, HB.out⟩
  case round =>
    obtain ⟨i, rfl, hi, ho, hb⟩ := hrel
    clear a0 a1 a2 a3 a4
    by_cases hlt : i < K
    · have e2 : (i : Int) < (K : Int) := by omega
      have hm1 := nM_le (k := k) (show i + 1 ≤ K by omega)
      have hM1 : nM k (i + 1) = nM k i + (k i).n := rfl
      obtain ⟨b, off, rfl, hc⟩ := HKC.out (by omega)
      have ci := (hb.cell (World.block_lt_of_cell? W _ (hc i hlt))).trans (hc i hlt)
      have hq := (HK.out i hlt).below hb
      have HNV := Lib.hid (nvs_ap (nF d k i) (nM k i) (k i).f (k i).n)
      have HF := Lib.hid (show nF d k (i + 1) = ap (nF d k i) (nM k i) (k i).f from rfl)
      clear hc
      have hsz := hb.size
      obtain ⟨i0, hi0, hz0, hz1, hz2⟩ := info_parts infoN
      go_wp2_with (at_builtin; refine wpList_append_all rfl (.tmp 17) (.tmp 18) 22 rfl W.heap.size 37 i0 (.agg #[.int .i64 0, .string ⟨#[]⟩, .string ⟨#[]⟩, .string ⟨#[]⟩, .slice none 0 0]) 5 80 Tryz.underlying22 hi0 hz0 hz1 hz2 rfl (by decide) _ _ _ rfl ho (k i).a (k i).n (k i).c (nvs (k i).f (k i).n) rfl (nvs_len _ _) ?c1 hq.cells (nvs_one _ _) ?c2 ?c3 hsz ?_)
      case c1 =>
        intro ha
        rcases Nat.eq_zero_or_pos (k i).n with h0 | h0
        · exact h0
        · obtain ⟨_, _, e, _⟩ := hq.ld h0
          rw [ha] at e; cases e
      case c2 => unfold maxLen; omega
      case c3 => omega
      intro v' w3 hown' hgrow
      have hb' : Below W.heap.size W w3 := hb.grown hgrow hsz (fun k hk => (ho.lt k hk).1)
      rw [← HNV.out, ← HF.out] at hown'
      have HO := Lib.hid hown'
      clear hgrow ho hb hown' hq ci hsz
      go_wp2_with fail
      refine ⟨⟨i + 1, by go_num, by omega, HO.out, hb'⟩, by simp [intOf]; omega⟩
    · have e2 : ¬ (i : Int) < (K : Int) := by omega
      obtain rfl : i = K := by omega
      have hon := HON.out _ hb
      obtain ⟨F, hF⟩ : ∃ F, F = nF d k i := ⟨_, rfl⟩
      have hM0 : 1 ≤ nM k i := nM_le (k := k) (Nat.zero_le i)
      rw [← hF] at ho hon
      have HFF := Lib.hid hF
      have HZ2 := Lib.hid (show ∀ j, j < nM k i → (F j).m * 16 ≤ 140737488355328 by rw [hF]; exact HZ.out)
      obtain ⟨M, hMM⟩ : ∃ M, M = nM k i := ⟨_, rfl⟩
      rw [← hMM] at ho hon HZ2 hM hM0
      have HMM := Lib.hid hMM
      obtain ⟨a, c, hv, _, hcm, hld⟩ := own_lds ho
      subst hv
      obtain ⟨g, off, rfl, hg, _⟩ := hld hM0
      obtain ⟨off0, hoff⟩ : off = 0 ∧ True := by
        rcases ho.2 with ⟨h0, _⟩ | ⟨g', cap', cur, h0, _⟩
        · cases h0
        · cases h0; exact ⟨rfl, trivial⟩
      subst off0
      have HON2 := Lib.hid hon
      have HO := Lib.hid ho
      clear hF hMM hld hon ho HON HZ HK HKC HR HB HD hoff
      go_wp2_with fail
      go_loopw [23] (fun iv wr => ∃ (q : Nat) (G : Nat → Nd), iv = .int .i64 q ∧ q ≤ M ∧ wr.ownsRow W.heap.size 37 5 (.slice (some ⟨g, 0, none⟩) M c) M (nvs G M) ∧ (∀ j, j < M → (G j).on wr) ∧ (∀ j, j < M → smN (G j) (F j) = true ∧ (G j).m = (F j).m) ∧ Below W.heap.size W wr ∧ ∀ j, j < q → Sb wr (G j)) (fun iv _ => M - (intOf iv).toNat)
      case atStart => exact ⟨0, F, rfl, by omega, HO.out, HON2.out, fun j hj => ⟨smN_self _, rfl⟩, hb, fun j hj => by omega⟩
      case round =>
        clear hb
        obtain ⟨q, G, rfl, hq, ho, hon, hsm, hb, hsb⟩ := hrel
        have HSB := Lib.hid hsb
        clear hsb
        by_cases hlt2 : q < M
        · have e3 : (q : Int) < (M : Int) := by omega
          have cq := (ho.cellAt (q * 5 + 4) (by omega)).trans (nvs_get G M q 4 hlt2 (by omega))
          replace cq : wr.cell? ⟨g, q * 5 + 4, none⟩ = some (.slice (G q).g (G q).m (G q).c) := cq
          have onq := hon q hlt2
          have hmq := HZ2.out q hlt2
          rw [← (hsm q hlt2).2] at hmq
          have hcA := onq.st.cells
          have hlen : (valsS (G q).ns).length = (G q).m * 1 := by unfold valsS; rw [List.length_map, Nat.mul_one]; exact onq.nl
          have hAn : (G q).g = none → (G q).m = 0 := by
            intro ha
            rcases Nat.eq_zero_or_pos (G q).m with h0 | h0
            · exact h0
            · obtain ⟨_, _, e, _⟩ := onq.st.2 h0
              rw [ha] at e; cases e
          have hmx : (G q).m ≤ maxLen := Nat.le_trans onq.mc onq.cm
          have hsz := hb.size
          have HNS := Lib.hid (nvs_set G)
          have HON3 := Lib.hid hon
          have HSM := Lib.hid hsm
          clear hon hsm
          obtain ⟨dq, hdq⟩ : ∃ dq, dq = G q := ⟨_, rfl⟩
          rw [← hdq] at cq onq hmq hcA hlen hAn hmx
          have HDQ := Lib.hid hdq
          clear hdq
          obtain ⟨i0, hi0, hz0, hz1, hz2⟩ := info_parts infoS
          go_wp2_with (at_builtin; refine wpList_append_all rfl (.const (.slice none 0 0)) (.tmp 32) 35 rfl W.heap.size 9 i0 (.string ⟨#[]⟩) 1 16 Tryz.underlying35 hi0 hz0 hz1 hz2 rfl (by decide) _ 0 [] rfl (World.ownsRow_nil _ _ _ _) dq.g dq.m dq.c (valsS dq.ns) rfl hlen hAn hcA (valsS_one _) ?c1 ?c2 hsz ?_)
          case c1 => omega
          case c2 => omega
          intro v' w3 hown' hgrow
          obtain ⟨a', c', rfl, hc1, hc2, hst⟩ := own_st hown'
          have hnew : dq.m = 0 ∨ ∃ b off cur fr, a' = some ⟨b, off, none⟩ ∧ w3.heap[b]? = some (Obj.cells cur 9 fr) := by
            rcases hown'.2 with ⟨_, h0⟩ | ⟨g', cap', cur', h1, _, h2, _⟩
            · exact .inl h0
            · injection h1 with h1 _ _
              exact .inr ⟨g', 0, cur', _, h1, h2⟩
          have hgn : ∃ cur fr, w3.heap[g]? = some (Obj.cells cur 37 fr) := by
            have ho9 := own_below5 ho ((Below.refl _ wr).grown hgrow (Nat.le_refl _) (fun k hk => by cases hk))
            rcases ho9.2 with ⟨h0, _⟩ | ⟨g', cap', cur', h1, _, h2, _⟩
            · cases h0
            · cases h1
              exact ⟨cur', _, h2⟩
          have keep : ∀ d : Nd, Sb w3 d → ∀ u, Sb (w3.setCell ⟨g, q * 5 + 4, none⟩ u) d := by
            intro d hd u
            rcases hd with h | ⟨b, off, cur, fr, h1, h2⟩
            · exact .inl h
            · refine .inr ⟨b, off, cur, fr, h1, (Below.heap_setCell w3 ⟨g, q * 5 + 4, none⟩ u b ?_).trans h2⟩
              intro e
              have e : b = g := e
              subst e
              obtain ⟨cur2, fr2, h3⟩ := hgn
              rw [h2] at h3
              cases h3
          have hbq : Below wr.heap.size wr w3 := (Below.refl _ wr).grown hgrow (Nat.le_refl _) (fun k hk => by cases hk)
          have hb' := hb.trans (hbq.mono hb.size)
          have ho3 := own_below5 ho hbq
          have cq3 := (hbq.cell (p := ⟨g, q * 5 + 4, none⟩) (World.block_lt_of_cell? wr _ cq)).trans cq
          have fq3 := ho3.frozenAt (q * 5 + 4)
          have hst4 := (ho3.stored (q * 5 + 4) (.slice a' dq.m c')).1
          have hb4 : Below W.heap.size W (w3.setCell ⟨g, q * 5 + 4, none⟩ (.slice a' dq.m c')) := hb'.setCell hg _
          have HFIN := Lib.hid (show (w3.setCell ⟨g, q * 5 + 4, none⟩ (.slice a' dq.m c')).ownsRow W.heap.size 37 5 (.slice (some ⟨g, 0, none⟩) M c) M (nvs (upd G q ((G q).mv a' c')) M) ∧ (∀ j, j < M → (upd G q ((G q).mv a' c') j).on (w3.setCell ⟨g, q * 5 + 4, none⟩ (.slice a' dq.m c'))) ∧ (∀ j, j < M → smN (upd G q ((G q).mv a' c') j) (F j) = true ∧ (upd G q ((G q).mv a' c') j).m = (F j).m) ∧ ∀ j, j < q + 1 → Sb (w3.setCell ⟨g, q * 5 + 4, none⟩ (.slice a' dq.m c')) (upd G q ((G q).mv a' c') j) by
            rw [HDQ.out] at hst4 hst hc1 onq cq3 hnew ⊢
            refine ⟨?_, fun j hj => ?_, fun j hj => ?_, fun j hj => ?_⟩
            · rw [← HNS.out a' c' M q hlt2]; exact hst4
            · by_cases hjq : j = q
              · subst hjq
                rw [upd_same]
                exact { st := hst.set cq3 _, mc := hc1, cm := hc2, k0 := onq.k0, k1 := onq.k1, vz := onq.vz, az := onq.az, xz := onq.xz, nz := onq.nz }
              · rw [upd_other _ _ hjq]
                exact ((HON3.out j hj).below hbq).set cq3 _
            · by_cases hjq : j = q
              · subst hjq
                rw [upd_same]
                exact HSM.out j hj
              · rw [upd_other _ _ hjq]
                exact HSM.out j hj
            · refine keep _ ?_ _
              by_cases hjq : j = q
              · subst hjq
                rw [upd_same]
                exact hnew
              · rw [upd_other _ _ hjq]
                exact (HSB.out j (by omega)).below hbq)
          have HB4 := Lib.hid hb4
          clear hnew hgn keep hgrow ho hb hown' hbq hb' ho3 hst4 hst hcA hlen hAn onq hsz hb4 cq
          go_wp2_with fail
          refine ⟨⟨q + 1, _, by go_num, by omega, HFIN.out.1, HFIN.out.2.1, HFIN.out.2.2.1, HB4.out, HFIN.out.2.2.2⟩, by simp [intOf]; omega⟩
        · have e3 : ¬ (q : Int) < (M : Int) := by omega
          have HO4 := Lib.hid ho
          have HON4 := Lib.hid hon
          have HSM := Lib.hid hsm
          clear ho hon hsm
          go_wp2_with fail
          go_ret
          exact ⟨_, G, rfl, by rw [← HMM.out]; exact HO4.out, by rw [← HMM.out]; exact HON4.out, by rw [← HMM.out, ← HFF.out]; exact fun j hj => (HSM.out j hj).1, hb, by rw [← HMM.out]; exact fun j hj => HSB.out j (by omega)⟩
end Go.Proofs.YtljkmdmbndjngaaGreat
/-
  Whether two lists have the same nodes: of the program, and of the reference; few nodes.
-/
namespace Go.Proofs.YtljkmdmbndjngaaGreat
set_option linter.unusedVariables false
set_option linter.unusedSimpArgs false
open Go.RowKit

/-- The first n nodes of both are the same. -/
def sameL (f g : Nat → Nd) (n : Nat) : Bool := (List.range n).all fun j => smN (f j) (g j)
theorem sameL_yes {f g : Nat → Nd} {n : Nat} : sameL f g n = true ↔ ∀ j, j < n → smN (f j) (g j) = true := by
  unfold sameL
  rw [List.all_eq_true]
  exact ⟨fun h j hj => h j (List.mem_range.2 hj), fun h j hj => h j (List.mem_range.1 hj)⟩
theorem sameL_no {f g : Nat → Nd} {n j : Nat} (hj : j < n) (h : smN (f j) (g j) = false) : sameL f g n = false := by
  cases hs : sameL f g n with
  | false => rfl
  | true => rw [sameL_yes.1 hs j hj] at h; cases h
theorem tl_eq {s t : ByteArray} (h : s.toList = t.toList) : s = t := bytes_ext (by rw [str_tl, str_tl] at h; exact h)
theorem smN_yes {d e : Nd} : smN d e = true ↔ d.k = e.k ∧ d.v = e.v ∧ d.a = e.a ∧ d.x = e.x ∧ d.ns = e.ns := by
  unfold smN
  simp only [Bool.and_eq_true, decide_eq_true_iff]
  constructor
  · rintro ⟨h1, h2, h3, h4, h5⟩
    exact ⟨h1, tl_eq h2, tl_eq h3, tl_eq h4, h5⟩
  · rintro ⟨h1, h2, h3, h4, h5⟩
    exact ⟨h1, by rw [h2], by rw [h3], by rw [h4], h5⟩
theorem smN_no {d e : Nd} (h : ¬ (d.k = e.k ∧ d.v = e.v ∧ d.a = e.a ∧ d.x = e.x ∧ d.ns = e.ns)) : smN d e = false := by
  cases hs : smN d e with
  | false => rfl
  | true => exact absurd (smN_yes.1 hs) h
end Go.Proofs.YtljkmdmbndjngaaGreat
/-
  Few nodes; a tree of one number; the document's example.
-/
namespace Go.Proofs.YtljkmdmbndjngaaGreat
set_option linter.unusedVariables false
set_option linter.unusedSimpArgs false
open Go.RowKit

def FewEnd (f : Nat → Nd) (n : Nat) (W : World) (e : Ending) (W' : World) : Prop := ∃ r : Bool, e = .returned (.bool r) ∧ (r = true → n ≤ 80 ∧ ∀ j, j < n → (f j).m ≤ 120) ∧ Below W.heap.size W W'
set_option maxHeartbeats 3200000 in
theorem Few_is (a : Option Addr) (n c : Nat) (f : Nat → Nd) (W : World) (h : Nq W a n f) (hn : n ≤ 9223372036854775807) :
    Calls Tryz.prog 5 #[.slice a n c] W (FewEnd f n W) := by
  have H := Lib.hid h
  clear h
  go_enter Tryz.func5, Tryz.ntmps5
  go_wp2_with fail
  go_loopw [3] (fun iv wr => ∃ i : Nat, iv = .int .i64 i ∧ i ≤ n ∧ i ≤ 81 ∧ (∀ j, j < i → (f j).m ≤ 120) ∧ Below W.heap.size W wr) (fun iv _ => n - (intOf iv).toNat)
  case atStart => exact ⟨0, rfl, by omega, by omega, fun j hj => by omega, Below.refl _ _⟩
  case round =>
    obtain ⟨i, rfl, hi, hi2, hall, hb⟩ := hrel
    have HA := Lib.hid hall
    clear hall
    by_cases hlt : i < n
    · have e2 : (i : Int) < (n : Int) := by omega
      by_cases h81 : i < 81
      · have e3 : (i : Int) < 81 := by omega
        obtain ⟨ga, oa, rfl, hca⟩ := H.out.ld (by omega)
        have la := (hca i hlt).below hb (hca i hlt).lt
        have oA := (H.out.on i hlt).below hb
        have HNA := Lib.hid (fun (h : (f i).m ≤ 120) j (hj : j < i + 1) => show (f j).m ≤ 120 by
          by_cases hij : j < i
          · exact HA.out j hij
          · obtain rfl : j = i := by omega
            exact h)
        clear hca
        generalize f i = df at *
        obtain ⟨dk, dv, da, dx, dp, dm, dc, dn⟩ := df
        obtain ⟨c0, c1, c2, c3, c4⟩ := la
        simp only at c0 c1 c2 c3 c4 HNA
        have q1 : dm ≤ 9223372036854775807 := maxLen_le (Nat.le_trans oA.mc oA.cm)
        have z1 := maxLen_le oA.vz
        have z2 := maxLen_le oA.az
        have z3 := maxLen_le oA.xz
        simp only at z1 z2 z3
        have HOA := Lib.hid oA
        clear oA
        by_cases hv : 120 < dv.size
        · have e4 : (120 : Int) < (dv.size : Int) := by omega
          go_wp2_with fail
          go_ret
          exact ⟨false, rfl, (fun h => by cases h), hb⟩
        have e4 : ¬ (120 : Int) < (dv.size : Int) := by omega
        by_cases ha : 120 < da.size
        · have e5 : (120 : Int) < (da.size : Int) := by omega
          go_wp2_with fail
          go_ret
          exact ⟨false, rfl, (fun h => by cases h), hb⟩
        have e5 : ¬ (120 : Int) < (da.size : Int) := by omega
        by_cases hx : 120 < dx.size
        · have e6 : (120 : Int) < (dx.size : Int) := by omega
          go_wp2_with fail
          go_ret
          exact ⟨false, rfl, (fun h => by cases h), hb⟩
        have e6 : ¬ (120 : Int) < (dx.size : Int) := by omega
        by_cases hm : 120 < dm
        · have e7 : (120 : Int) < (dm : Int) := by omega
          go_wp2_with fail
          go_ret
          exact ⟨false, rfl, (fun h => by cases h), hb⟩
        have e7 : ¬ (120 : Int) < (dm : Int) := by omega
        clear hv ha hx
        go_wp2_with fail
        go_loopw [4] (fun kv w2 => ∃ q : Nat, kv = .int .i64 q ∧ q ≤ dm ∧ w2 = wr) (fun kv _ => dm - (intOf kv).toNat)
        case atStart => exact ⟨0, rfl, by omega, rfl⟩
        case round =>
          obtain ⟨q, rfl, hq, rfl⟩ := hrel
          clear c0 c1 c2 c3
          by_cases hqm : q < dm
          · have f2 : (q : Int) < (dm : Int) := by omega
            obtain ⟨gb, ob, hgb, hcb⟩ := HOA.out.st.2 (by simp only; omega)
            have hgb : dp = some ⟨gb, ob, none⟩ := hgb
            subst hgb
            have cs := hcb q hqm
            have zs : (dn.getD q ByteArray.empty).size ≤ 9223372036854775807 := maxLen_le (HOA.out.nz _ (getD_mem (by have := HOA.out.nl; simp only at this; simp only; omega)))
            simp only at cs
            generalize dn.getD q ByteArray.empty = s at cs zs
            clear hcb
            by_cases hs : 120 < s.size
            · have f3 : (120 : Int) < (s.size : Int) := by omega
              go_wp2_with fail
              go_ret
              exact ⟨false, rfl, (fun h => by cases h), hb⟩
            · have f3 : ¬ (120 : Int) < (s.size : Int) := by omega
              go_wp2_with fail
              refine ⟨⟨q + 1, by go_num, by omega, by first | rfl | trivial⟩, by simp [intOf]; omega⟩
          · have f2 : ¬ (q : Int) < (dm : Int) := by omega
            go_wp2_with fail
            refine ⟨⟨i + 1, by go_num, by omega, by omega, HNA.out (by omega), hb⟩, by simp [intOf]; omega⟩
      · have e3 : ¬ (i : Int) < 81 := by omega
        have e8 : ¬ (n : Int) ≤ 80 := by omega
        go_wp2_with fail
        go_ret
        exact ⟨false, rfl, (fun h => by cases h), hb⟩
    · have e2 : ¬ (i : Int) < (n : Int) := by omega
      obtain rfl : i = n := by omega
      by_cases h80 : i ≤ 80
      · have e8 : (i : Int) ≤ 80 := by omega
        go_wp2_with fail
        go_ret
        exact ⟨true, rfl, fun _ => ⟨h80, HA.out⟩, hb⟩
      · have e8 : ¬ (i : Int) ≤ 80 := by omega
        go_wp2_with fail
        go_ret
        exact ⟨false, rfl, (fun h => by cases h), hb⟩
/-- A tree of one number. -/
def litN (s : ByteArray) (g : Option Addr) : Nd := ⟨1, ⟨#[]⟩, ⟨#[]⟩, ⟨#[]⟩, g, 1, 1, [s]⟩
def LitEnd (s : ByteArray) (W : World) (e : Ending) (W' : World) : Prop := ∃ a g, e = .returned (.slice a 1 1) ∧ Nq W' a 1 (fun _ => litN s g) ∧ Below W.heap.size W W'
theorem okN_same {d e : Nd} (h : smN d e = true) : okN d = okN e := by
  obtain ⟨h1, h2, h3, h4, h5⟩ := smN_yes.1 h
  unfold okN
  rw [h1, h2, h3, h4, h5]
theorem ks_same {f g : Nat → Nd} {n : Nat} (h : ∀ j, j < n → smN (f j) (g j) = true) : ksF f n = ksF g n := by
  unfold ksF
  refine List.map_congr_left fun j hj => ?_
  obtain ⟨h1, h2, _⟩ := smN_yes.1 (h j (List.mem_range.1 hj))
  rw [h1, h2]
theorem lx_plus : lxT ⟨#[43]⟩ = [⟨4, [43], 0⟩] ∧ lxE ⟨#[43]⟩ = none := by
  have h := lx_run ⟨#[43]⟩
  generalize lxT ⟨#[43]⟩ = ts at *
  generalize lxE ⟨#[43]⟩ = e at *
  have h : Run numB (43 :: []) 0 ts e := h
  have hc : cls 43 = 4 := by decide
  rcases h.inv with ⟨h7, _⟩ | ⟨t, r, us, _, _, hl, _, _, _, hts, hr⟩ | ⟨h0, _⟩ | ⟨h1, _⟩
  · rw [hc] at h7; cases h7
  · obtain ⟨rfl, rfl⟩ := List.append_eq_nil_iff.1 hl.symm
    obtain ⟨rfl, rfl⟩ := hr.inv_nil
    rw [hts, hc]
    exact ⟨rfl, rfl⟩
  · rw [hc] at h0; cases h0
  · rw [hc] at h1; cases h1
theorem prt_plus : prt ⟨#[43]⟩ 4 = true := by
  unfold prt
  rw [if_pos (by decide), lx_plus.2, lx_plus.1]
  show (decide (((4 : Nat) : Int) = 4) && ((tx [43]).toList == (⟨#[43]⟩ : ByteArray).toList)) = true
  rw [show tx [43] = (⟨#[43]⟩ : ByteArray) from rfl]
  simp
end Go.Proofs.YtljkmdmbndjngaaGreat
/-
  Nodes in memory as plain nodes; parts that Lex tells; that what is read may be.
-/
namespace Go.Proofs.YtljkmdmbndjngaaGreat
set_option linter.unusedVariables false
set_option linter.unusedSimpArgs false
open Go.RowKit

theorem split_eq {k : Nat} : ∀ {t t' r r' : List UInt8}, t ++ r = t' ++ r' → (∀ x ∈ t, (moreL k).contains x = true) → Stop k r → (∀ x ∈ t', (moreL k).contains x = true) → Stop k r' → t = t' ∧ r = r'
  | [], [], _, _, h, _, _, _, _ => ⟨rfl, h⟩
  | [], c :: t', r, r', h, _, hs, h2, _ => by
    have h : r = c :: (t' ++ r') := h
    have := hs c (by rw [h]; rfl)
    rw [h2 c List.mem_cons_self] at this
    cases this
  | c :: t, [], r, r', h, h1, _, _, hs => by
    have h : c :: (t ++ r) = r' := h
    have := hs c (by rw [← h]; rfl)
    rw [h1 c List.mem_cons_self] at this
    cases this
  | c :: t, d :: t', r, r', h, h1, hs, h2, hs2 => by
    have h : c :: (t ++ r) = d :: (t' ++ r') := h
    injection h with e h
    obtain ⟨rfl, rfl⟩ := split_eq h (fun x hx => h1 x (List.mem_cons_of_mem _ hx)) hs (fun x hx => h2 x (List.mem_cons_of_mem _ hx)) hs2
    exact ⟨by rw [e], rfl⟩
/-- A line runs in one way. -/
theorem Run.det {N : List UInt8 → Bool} {a : List UInt8} {p : Nat} {ts : List Tk} {e : Option Nat} (h : Run N a p ts e) : ∀ {us : List Tk} {f : Option Nat}, Run N a p us f → ts = us ∧ e = f := by
  induction h with
  | nil p =>
    intro us f g
    obtain ⟨rfl, rfl⟩ := g.inv_nil
    exact ⟨rfl, rfl⟩
  | blank h hr ih =>
    intro us f g
    rcases g.inv with ⟨_, g⟩ | ⟨t, r, us, _, h6, _⟩ | ⟨h0, _⟩ | ⟨h1, _⟩
    · exact ih g
    · omega
    · omega
    · omega
  | @part k c t r p ts e h h1 h6 ht hs hn hr ih =>
    intro us f g
    subst h
    rcases Run.inv (c := c) (l := t ++ r) g with ⟨h7, _⟩ | ⟨t', r', vs, _, _, hl, ht', hs', _, rfl, g⟩ | ⟨h0, _⟩ | ⟨g1, t', r', hl, ht', hs', hn', _⟩
    · omega
    · obtain ⟨rfl, rfl⟩ := split_eq hl ht hs ht' hs'
      obtain ⟨rfl, rfl⟩ := ih g
      exact ⟨rfl, rfl⟩
    · omega
    · rw [g1] at ht hs
      obtain ⟨rfl, rfl⟩ := split_eq hl ht hs ht' hs'
      rw [hn g1] at hn'
      cases hn'
  | @bad c r p h =>
    intro us f g
    rcases g.inv with ⟨_, g⟩ | ⟨t, r, us, _, h6, _⟩ | ⟨h0, rfl, rfl⟩ | ⟨h1, _⟩
    · omega
    · omega
    · exact ⟨rfl, rfl⟩
    · omega
  | @figs c t r p h ht hs hn =>
    intro us f g
    rcases Run.inv (c := c) (l := t ++ r) g with ⟨h7, _⟩ | ⟨t', r', vs, _, _, hl, ht', hs', hn', _⟩ | ⟨h0, _⟩ | ⟨g1, t', r', hl, ht', hs', hn', rfl, rfl⟩
    · omega
    · rw [h] at ht' hs'
      obtain ⟨rfl, rfl⟩ := split_eq hl ht hs ht' hs'
      rw [hn' h] at hn
      cases hn
    · omega
    · exact ⟨rfl, rfl⟩
/-- Each part alone is a line of itself. -/
theorem Run.each {N : List UInt8 → Bool} {a : List UInt8} {p : Nat} {ts : List Tk} {e : Option Nat} (h : Run N a p ts e) : ∀ t ∈ ts, Run N t.text 0 [⟨t.kind, t.text, 0⟩] none ∧ t.text.length ≤ a.length := by
  induction h with
  | nil p => exact fun t ht => by cases ht
  | blank h hr ih => exact fun t ht => ⟨(ih t ht).1, by have := (ih t ht).2; simp only [List.length_cons]; omega⟩
  | @part k c t r p ts e h h1 h6 ht hs hn hr ih =>
    intro u hu
    rcases List.mem_cons.1 hu with rfl | hu
    · have g := Run.part (r := []) (p := 0) h h1 h6 ht (Stop.nil k) hn (.nil _)
      rw [List.append_nil] at g
      exact ⟨g, by simp⟩
    · exact ⟨(ih u hu).1, by have := (ih u hu).2; simp only [List.length_append]; omega⟩
  | bad h => exact fun t ht => by cases ht
  | figs h ht hs hn => exact fun t ht => by cases ht
/-- A part as Lex tells it of its text, but for its place. -/
def Ps (q : Pk) : Prop := ∃ k : Nat, q.k = (k : Int) ∧ Run numB q.t 0 [⟨k, q.t, 0⟩] none
theorem Run.ps {a : List UInt8} {p : Nat} {ts : List Tk} {e : Option Nat} (h : Run numB a p ts e) : ∀ q ∈ ts.map Tk.pk, Ps q ∧ q.t.length ≤ a.length := by
  intro q hq
  obtain ⟨t, ht, rfl⟩ := List.mem_map.1 hq
  exact ⟨⟨t.kind, rfl, (h.each t ht).1⟩, (h.each t ht).2⟩
theorem Ps.of {q : Pk} (h : Ps q) : ∃ c t, q.t = c :: t ∧ q.k = (cls c : Int) ∧ 1 ≤ cls c ∧ cls c ≤ 6 ∧ (cls c = 1 → numB q.t = true) ∧ ∀ x ∈ t, (moreL (cls c)).contains x = true := by
  obtain ⟨k, hk, hr⟩ := h
  cases hq : q.t with
  | nil =>
    rw [hq] at hr
    cases hr.inv_nil.1
  | cons c l =>
    rw [hq] at hr
    rcases hr.inv with ⟨_, g⟩ | ⟨t, r, us, h1, h6, hl, ht, hs, hn, hts, g⟩ | ⟨h0, h, _⟩ | ⟨h1, t, r, _, _, _, _, h, _⟩
    · exact absurd (g.placed (s := 0 :: l) rfl) (fun h => by
        have := h.1
        revert this
        simp)
    · injection hts with e1 e2
      injection e1 with e3 e4 e5
      injection e4 with _ e4
      subst e3 e4
      exact ⟨c, l, rfl, hk, h1, h6, hn, ht⟩
    · cases h
    · cases h
end Go.Proofs.YtljkmdmbndjngaaGreat
/-
  Nodes in memory as plain nodes; that what is read may be.
-/
namespace Go.Proofs.YtljkmdmbndjngaaGreat
set_option linter.unusedVariables false
set_option linter.unusedSimpArgs false
open Go.RowKit

def tnOf (d : Nd) : Tn := ⟨d.k, d.v.data.toList, d.a.data.toList, d.x.data.toList, d.ns.map (·.data.toList)⟩
def tnF (f : Nat → Nd) (n : Nat) : List Tn := (List.range n).map fun j => tnOf (f j)
theorem tnF_len (f : Nat → Nd) (n : Nat) : (tnF f n).length = n := by simp [tnF]
theorem tnF_at {f : Nat → Nd} {n j : Nat} (h : j < n) : (tnF f n)[j]? = some (tnOf (f j)) := by simp [tnF, h]
theorem texts_inj : ∀ {l m : List ByteArray}, l.map (·.data.toList) = m.map (·.data.toList) → l = m
  | [], [], _ => rfl
  | [], _ :: _, h => by cases h
  | _ :: _, [], h => by cases h
  | a :: l, b :: m, h => by
    injection h with e h
    rw [bytes_ext e, texts_inj h]
theorem smN_tn {d e : Nd} : smN d e = true ↔ tnOf d = tnOf e := by
  rw [smN_yes]
  constructor
  · rintro ⟨h1, h2, h3, h4, h5⟩
    unfold tnOf
    rw [h1, h2, h3, h4, h5]
  · intro h
    injection h with h1 h2 h3 h4 h5
    exact ⟨h1, bytes_ext h2, bytes_ext h3, bytes_ext h4, texts_inj h5⟩
theorem kd_tn (d : Nd) : kd d.k d.v = kdT (tnOf d) := by
  unfold kd kdT tnOf
  rw [str_tl]
theorem ksF_tn (f : Nat → Nd) (n : Nat) : ksF f n = (tnF f n).map kdT := by
  unfold ksF tnF
  rw [List.map_map]
  exact List.map_congr_left fun j _ => kd_tn (f j)
/-- Two rows of nodes are the same as they are plainly. -/
theorem same_tn {f g : Nat → Nd} {n m : Nat} : (decide (n = m) && sameL f g n) = true ↔ tnF f n = tnF g m := by
  rw [Bool.and_eq_true, decide_eq_true_iff, sameL_yes]
  constructor
  · rintro ⟨rfl, h⟩
    exact List.map_congr_left fun j hj => smN_tn.1 (h j (List.mem_range.1 hj))
  · intro h
    have hl := congrArg List.length h
    rw [tnF_len, tnF_len] at hl
    subst hl
    refine ⟨rfl, fun j hj => smN_tn.2 ?_⟩
    have := tnF_at (f := f) hj
    rw [h, tnF_at hj] at this
    have := this.symm
    injection this
theorem same_no {f g : Nat → Nd} {n m : Nat} (h : tnF f n ≠ tnF g m) : (decide (n = m) && sameL f g n) = false := by
  cases hs : (decide (n = m) && sameL f g n) with
  | false => rfl
  | true => exact absurd (same_tn.1 hs) h
/-- How deep a row of nodes is, from what it is plainly. -/
theorem deep_tn {f : Nat → Nd} {n d : Nat} {X : List Tn} (h : tnF f n = X) (hd : Dp X 1 d) : Fd (ksF f n) 0 1 n d := by
  rw [ksF_tn, h]
  have e : n = X.length := by rw [← h, tnF_len]
  rw [e]
  exact hd
/-- A part that Lex tells is a part of its kind. -/
theorem Ps.prt {q : Pk} (h : Ps q) {s : ByteArray} (hs : s.data.toList = q.t) (hl : q.t.length ≤ 256) {k : Int} (hk : q.k = k) : prt s k = true := by
  obtain ⟨k', hk', hr⟩ := h
  have hr2 := lx_run s
  rw [hs] at hr2
  obtain ⟨e1, e2⟩ := hr2.det hr
  have hz : s.size ≤ 256 := by
    have : s.data.toList.length = s.size := Array.length_toList
    rw [hs] at this
    omega
  unfold Go.Proofs.YtljkmdmbndjngaaGreat.prt
  rw [if_pos hz, e2, e1]
  show (decide ((k' : Int) = k) && ((tx q.t).toList == s.toList)) = true
  rw [str_tl, str_tl, tx_list, hs, ← hk, hk']
  simp
theorem num_may {q : Pk} (h : Ps q) (hk : q.k = 1) : mayL (numT q.t) = true := by
  obtain ⟨c, t, e, hc, h1, h6, hn, _⟩ := h.of
  have hb := hn (by omega)
  unfold numT
  rw [if_pos hb]
  unfold numB at hb
  exact (Bool.and_eq_true _ _ ▸ hb : _ ∧ _).2
theorem not_brace {q : Pk} (h : Ps q) (hk : q.k = 3 ∨ q.k = 4) : q.t ≠ [123] := by
  obtain ⟨c, t, e, hc, _⟩ := h.of
  intro g
  rw [g] at e
  injection e with e _
  rw [← e, show cls 123 = 6 by decide] at hc
  omega
theorem emp_of {s : ByteArray} (h : s.data.toList = []) : emp s = true := by unfold emp; rw [str_tl, h]; rfl
theorem adv_of {s : ByteArray} {l : List UInt8} (h : s.data.toList = [] ∨ ∃ c ∈ l, s.data.toList = [c]) : advB s l = true := by
  unfold advB
  rcases h with h | ⟨c, hc, h⟩
  · rw [h]; rfl
  · rw [h, Bool.or_eq_true]
    exact .inr (List.any_eq_true.2 ⟨c, hc, by simp⟩)
theorem ns_none {d : Nd} (h : d.ns.map (·.data.toList) = []) : d.ns = [] := List.map_eq_nil_iff.1 h
section
variable {P : Pk → Prop} (hP : ∀ q, P q → Ps q ∧ q.t.length ≤ 256)
include hP in
/-- A node that was read may be. -/
theorem okN_of {d : Nd} (h : Nok numT P (tnOf d)) : okN d = true ∧ hdN d.k = false := by
  generalize hn : tnOf d = n at h
  cases h with
  | @lit l h0 h1 h =>
    injection hn with e1 e2 e3 e4 e5
    refine ⟨?_, by rw [e1]; rfl⟩
    have el : d.ns.length = l.length := by rw [← e5, List.length_map]
    unfold okN
    rw [if_pos e1, emp_of e2, emp_of e3, emp_of e4]
    unfold numsB alN
    have ha : (d.ns.all fun s => mayL s.data.toList) = true := List.all_eq_true.2 fun s hs => by
      obtain ⟨q, hq, hk, e⟩ := h s.data.toList (by rw [← e5]; exact List.mem_map.2 ⟨s, hs, rfl⟩)
      rw [e]
      exact num_may (hP q hq).1 hk
    rw [ha, decide_eq_true (show 1 ≤ d.ns.length by omega), decide_eq_true (show d.ns.length ≤ 100 by omega)]
    rfl
  | @name q hq h =>
    injection hn with e1 e2 e3 e4 e5
    refine ⟨?_, by rw [e1]; rfl⟩
    unfold okN
    rw [e1, ns_none e5, emp_of e2, emp_of e3, (hP q hq).1.prt e4 (hP q hq).2 h]
    rfl
  | @one k q a hk hq h ha =>
    injection hn with e1 e2 e3 e4 e5
    have hv : verbB d.v = true := by
      unfold verbB
      rcases h with h | h
      · rw [(hP q hq).1.prt e2 (hP q hq).2 h]; simp
      · rw [(hP q hq).1.prt e2 (hP q hq).2 h]; simp
    have hA : advB d.a (advs k) = true := adv_of (by rw [e3]; exact ha)
    unfold okN
    rcases hk with rfl | rfl
    · refine ⟨?_, by rw [e1]; rfl⟩
      rw [e1, ns_none e5, emp_of e4, hv, show advB d.a [39, 47, 92, 96] = true from hA]
      rfl
    · refine ⟨?_, by rw [e1]; rfl⟩
      rw [e1, ns_none e5, emp_of e4, hv, show advB d.a [39, 46] = true from hA]
      rfl
  | @body k a hk ha =>
    injection hn with e1 e2 e3 e4 e5
    have hv : verbB d.v = true := by
      unfold verbB
      rw [str_tl, e2]
      simp
    have hA : advB d.a (advs k) = true := adv_of (by rw [e3]; exact ha)
    unfold okN
    rcases hk with rfl | rfl
    · refine ⟨?_, by rw [e1]; rfl⟩
      rw [e1, ns_none e5, emp_of e4, hv, show advB d.a [39, 47, 92, 96] = true from hA]
      rfl
    · refine ⟨?_, by rw [e1]; rfl⟩
      rw [e1, ns_none e5, emp_of e4, hv, show advB d.a [39, 46] = true from hA]
      rfl
  | index =>
    injection hn with e1 e2 e3 e4 e5
    refine ⟨?_, by rw [e1]; rfl⟩
    unfold okN
    rw [e1, ns_none e5, emp_of e2, emp_of e3, emp_of e4]
    rfl
include hP in
theorem okN_head {d : Nd} (h : Hok P (tnOf d)) : okN d = true := by
  generalize hn : tnOf d = n at h
  cases h with
  | @assign q hq h =>
    injection hn with e1 e2 e3 e4 e5
    unfold okN
    rw [e1, ns_none e5, emp_of e2, emp_of e3, (hP q hq).1.prt e4 (hP q hq).2 h]
    rfl
  | @amend q hq h =>
    injection hn with e1 e2 e3 e4 e5
    unfold okN
    rw [e1, ns_none e5, emp_of e2, emp_of e3, (hP q hq).1.prt e4 (hP q hq).2 h]
    rfl
  | @define q hq h =>
    injection hn with e1 e2 e3 e4 e5
    unfold okN
    rw [e1, ns_none e5, emp_of e2, emp_of e3, (hP q hq).1.prt e4 (hP q hq).2 h]
    rfl
include hP in
/-- What is read as a line may be, if it isn't too deep. -/
theorem may_of {ts r : List Pk} {X : List Tn} (h : Ln numT ts (some X) r) (hp : ∀ q ∈ ts, P q) {f : Nat → Nd} {n d : Nat} (hf : tnF f n = X) (hd : Dp X 1 d) (h40 : d ≤ 40) : mayP f n := by
  refine ⟨d, deep_tn hf hd, h40, fun i hi => ?_⟩
  obtain ⟨m, Y, rfl, hm, hY⟩ := h.nodes hp (fun q hq => not_brace (hP q (hp q hq)).1)
  have := tnF_at (f := f) hi
  rw [hf] at this
  cases i with
  | zero =>
    injection this with e
    rw [e] at hm
    exact ⟨hm.elim (fun h => (okN_of hP h).1) (okN_head hP), fun h => by omega⟩
  | succ i =>
    rw [List.getElem?_cons_succ] at this
    have g := hY _ (List.mem_of_getElem? this)
    exact ⟨(okN_of hP g).1, fun _ => (okN_of hP g).2⟩
end
end Go.Proofs.YtljkmdmbndjngaaGreat
/-
  Contracts of the library's functions at this program, laid by program.
-/
namespace Go.Proofs
set_option linter.unusedVariables false
set_option linter.unusedSimpArgs false
open Go.Shelf
def Tryz.lays156_ren : Go.Shelf.Ren := ⟨fun | 156 => 48 | 165 => 71 | 166 => 72 | 169 => 73 | 240 => 91 | 241 => 92 | 276 => 109 | 277 => 110 | n => n, fun | 31 => 35 | 9 => 9 | 3 => 3 | 4 => 4 | 0 => 0 | 20 => 20 | 72 => 95 | 76 => 99 | 70 => 92 | 37 => 93 | 75 => 98 | 127 => 114 | 164 => 124 | 5 => 5 | 80 => 101 | n => n, fun | n => n⟩
theorem Tryz.lays156 : Go.Proofs.Lays.n156 Tryz.prog Tryz.lays156_ren := {
  mixed := by kernel_rfl
  f156 := Tryz.func48.trans (congrArg some (by kernel_rfl))
  f165 := Tryz.func71.trans (congrArg some (by kernel_rfl))
  f166 := Tryz.func72.trans (congrArg some (by kernel_rfl))
  f169 := Tryz.func73.trans (congrArg some (by kernel_rfl))
  f240 := Tryz.func91.trans (congrArg some (by kernel_rfl))
  f241 := Tryz.func92.trans (congrArg some (by kernel_rfl))
  f276 := Tryz.func109.trans (congrArg some (by kernel_rfl))
  f277 := Tryz.func110.trans (congrArg some (by kernel_rfl))
  t0 := Tryz.underlying0
  a0 := Tryz.isAgg0
  z0 := Tryz.sizeOf0
  v0 := Tryz.zeroValue0
  t3 := Tryz.underlying3
  a3 := Tryz.isAgg3
  z3 := Tryz.sizeOf3
  v3 := Tryz.zeroValue3
  t4 := Tryz.underlying4
  a4 := Tryz.isAgg4
  z4 := Tryz.sizeOf4
  v4 := Tryz.zeroValue4
  t9 := Tryz.underlying9
  a9 := Tryz.isAgg9
  z9 := Tryz.sizeOf9
  v9 := Tryz.zeroValue9
  t20 := Tryz.underlying20
  a20 := Tryz.isAgg20
  z20 := Tryz.sizeOf20
  v20 := Tryz.zeroValue20
  t31 := Tryz.underlying35
  a31 := Tryz.isAgg35
  z31 := Tryz.sizeOf35
  v31 := Tryz.zeroValue35
  t37 := Tryz.underlying93
  a37 := Tryz.isAgg93
  z37 := Tryz.sizeOf93
  v37 := Tryz.zeroValue93
  t70 := Tryz.underlying92
  a70 := Tryz.isAgg92
  z70 := Tryz.sizeOf92
  v70 := Tryz.zeroValue92
  t72 := Tryz.underlying95
  a72 := Tryz.isAgg95
  z72 := Tryz.sizeOf95
  v72 := Tryz.zeroValue95
  t75 := Tryz.underlying98
  a75 := Tryz.isAgg98
  z75 := Tryz.sizeOf98
  v75 := Tryz.zeroValue98
  t76 := Tryz.underlying99
  a76 := Tryz.isAgg99
  z76 := Tryz.sizeOf99
  v76 := Tryz.zeroValue99
  t127 := Tryz.underlying114
  a127 := Tryz.isAgg114
  z127 := Tryz.sizeOf114
  v127 := Tryz.zeroValue114
  t164 := Tryz.underlying124
  a164 := Tryz.isAgg124
  z164 := Tryz.sizeOf124
  v164 := Tryz.zeroValue124 }
theorem Tryz.Builder_Extra_156 : Builder.Extra Tryz.prog Tryz.lays156_ren := {
  sizeBuilder := by kernel_rfl
  liesBuilder := by kernel_rfl
  t5 := Tryz.underlying5
  a5 := Tryz.isAgg5
  z5 := Tryz.sizeOf5
  v5 := Tryz.zeroValue5
  infoByte := by kernel_rfl
  cellsByte := by kernel_rfl
  sizeByte := by kernel_rfl
  neB5 := by decide }
open Go.RowKit in
theorem Tryz.strings_Join_none (a : Option Addr) (c : Nat) (sep : ByteArray) (w : World) :
    Calls Tryz.prog 48 #[.slice a 0 c, .string sep] w fun e w' => e = .returned (.string ⟨#[]⟩) ∧ w' = w := Any.strings_Join_none Tryz.lays156 Tryz.Builder_Extra_156 a c sep w
open Go.RowKit in
theorem Tryz.strings_Join (bk o c : Nat) (xs : List ByteArray) (sep : ByteArray) (w : World) (hcells : ∀ (j : Nat) x, xs[j]? = some x → w.cell? ⟨bk, o + j, none⟩ = some (.string x)) (hbk : bk < w.heap.size) (hN : xs.length ≤ 140737488355328) (hcap : xs.length ≤ c) (hlen : (Lib.join (xs.map (·.data.toList)) sep.data.toList).length ≤ 140737488355328) :
    Calls Tryz.prog 48 #[.slice (some ⟨bk, o, none⟩) xs.length c, .string sep] w fun e w' => e = .returned (.string ⟨(Lib.join (xs.map (·.data.toList)) sep.data.toList).toArray⟩) ∧ Below w.heap.size w w' := Any.strings_Join Tryz.lays156 Tryz.Builder_Extra_156 bk o c xs sep w hcells hbk hN hcap hlen
end Go.Proofs
/-
  Join, both sides; whether two rows of parts are the same.
-/
namespace Go.Proofs.YtljkmdmbndjngaaGreat
set_option linter.unusedVariables false
set_option linter.unusedSimpArgs false
open Go.RowKit

/-- A whole row of strings of the call's own. -/
def Sr (w : World) (g n : Nat) (F : Nat → ByteArray) : Prop := w.rowIs g 9 n (fun j => Value.string (F j))
theorem infoStr : (Tryz.prog.info? 9).map (fun i => (i.zero, i.size, i.bytes)) = some (some (.string ⟨#[]⟩), 1, 16) := by kernel_rfl
theorem run_mks (n : Nat) (hn : n ≤ 1000000) (w : World) :
    (Instr.makeSlice 35 (.int .i64 (n : Int)) (.int .i64 (n : Int))).run Tryz.prog w = .ok (.slice (some ⟨w.heap.size, 0, none⟩) n n) (w.alloc (.cells (madeCells #[.string ⟨#[]⟩] n) 9)) :=
  run_make_row' 35 9 _ 16 Tryz.underlying35 infoStr rfl _ _ n (by omega) (by omega) w
theorem Sr.made (w : World) (n : Nat) : Sr (w.alloc (.cells (madeCells #[.string ⟨#[]⟩] n) 9)) w.heap.size n (fun _ => ⟨#[]⟩) := World.rowIs_made w _ n _
theorem Sr.cell {w : World} {g n : Nat} {F : Nat → ByteArray} (h : Sr w g n F) {i : Nat} (hi : i < n) : w.cell? ⟨g, i, none⟩ = some (.string (F i)) := World.rowIs.cell h hi
theorem Sr.frozen {w : World} {g n : Nat} {F : Nat → ByteArray} (h : Sr w g n F) (i : Nat) : w.frozen? ⟨g, i, none⟩ = false := World.rowIs.frozen h i
theorem Sr.lt {w : World} {g n : Nat} {F : Nat → ByteArray} (h : Sr w g n F) : g < w.heap.size := World.rowIs.lt h
theorem Sr.below {w w' : World} {g n : Nat} {F : Nat → ByteArray} (h : Sr w g n F) (hb : Below w.heap.size w w') : Sr w' g n F := World.rowIs.of_block h (hb.block g (World.rowIs.lt h))
theorem Sr.set {w : World} {g n : Nat} {F G : Nat → ByteArray} (h : Sr w g n F) (i : Nat) (v : ByteArray) (hG : ∀ j, j < n → (if j = i then v else F j) = G j) : Sr (w.setCell ⟨g, i, none⟩ (.string v)) g n G := by
  refine (World.rowIs.set h i _).congr fun j hj => ?_
  show (if j = i then _ else _) = Value.string (G j)
  rw [← hG j hj]
  split <;> rfl
/-- The first n texts of a row. -/
def xsF (f : Nat → Rt) (n : Nat) : List ByteArray := (List.range n).map fun j => (f j).x
def jl (f : Nat → Rt) (n : Nat) : List (List UInt8) := (xsF f n).map (·.data.toList)
theorem xsF_len (f : Nat → Rt) (n : Nat) : (xsF f n).length = n := by simp [xsF]
theorem xsF_get {f : Nat → Rt} {n j : Nat} {x : ByteArray} (h : (xsF f n)[j]? = some x) : j < n ∧ x = (f j).x := by
  obtain ⟨h1, h2⟩ := List.getElem?_eq_some_iff.1 h
  have h3 : j < n := by rwa [xsF_len] at h1
  refine ⟨h3, ?_⟩
  rw [← h2]; simp [xsF]
theorem join_is : ∀ l : List (List UInt8), Lib.join l [32] = joinT l
  | [] => rfl
  | [a] => by rw [Lib.join_one]; rfl
  | a :: b :: r => by
    rw [joinT_cons a (by simp), ← join_is (b :: r), Lib.join_cons, Lib.join_cons]
    simp [Lib.joinTail]
def StrBelow (t : List UInt8) (W : World) (e : Ending) (W' : World) : Prop := e = .returned (.string (tx t)) ∧ Below W.heap.size W W'
theorem joinT_snoc : ∀ (l : List (List UInt8)) (x : List UInt8), l ≠ [] → joinT (l ++ [x]) = joinT l ++ 32 :: x
  | [], x, h => absurd rfl h
  | [a], x, _ => rfl
  | a :: b :: r, x, _ => by
    have := joinT_snoc (b :: r) x (by simp)
    show a ++ 32 :: joinT (b :: r ++ [x]) = (a ++ 32 :: joinT (b :: r)) ++ 32 :: x
    rw [this]; simp
theorem jl_succ (f : Nat → Rt) (k : Nat) : jl f (k + 1) = jl f k ++ [(f k).x.data.toList] := by
  unfold jl xsF
  rw [List.range_succ, List.map_append, List.map_append]; rfl
theorem jl_len (f : Nat → Rt) (k : Nat) : (jl f k).length = k := by simp [jl, xsF]
theorem jl_size {f : Nat → Rt} {n : Nat} (h : ∀ j, j < n → (f j).x.size ≤ 1000) : ∀ k, k ≤ n → (joinT (jl f k)).length ≤ 1001 * k
  | 0, _ => by simp [jl, xsF, joinT]
  | k + 1, hk => by
    have h1 := jl_size h k (by omega)
    have h2 := h k (by omega)
    have h3 : (f k).x.data.toList.length = (f k).x.size := by simp
    rw [jl_succ]
    by_cases h0 : jl f k = []
    · rw [h0]; show (f k).x.data.toList.length ≤ _; omega
    · rw [joinT_snoc _ _ h0, List.length_append, List.length_cons]; omega
/-- All texts so far, joined. -/
def Tj (f : Nat → Rt) (k : Nat) : ByteArray := tx (joinT (jl f k))
theorem Tj_one (f : Nat → Rt) : Tj f 0 ++ (f 0).x = Tj f 1 := by
  unfold Tj
  rw [jl_succ]
  show tx [] ++ _ = tx ((f 0).x.data.toList)
  rw [tx_back]
  exact bytes_ext (by rw [ByteArray.data_append, Array.toList_append]; rfl)
theorem Tj_more (f : Nat → Rt) (k : Nat) (h : 0 < k) : Tj f k ++ ⟨#[32]⟩ ++ (f k).x = Tj f (k + 1) := by
  unfold Tj
  rw [jl_succ, joinT_snoc _ _ (fun h2 => by have := jl_len f k; rw [h2] at this; simp at this; omega)]
  exact bytes_ext (by
    rw [ByteArray.data_append, Array.toList_append, ByteArray.data_append, Array.toList_append, tx_list, tx_list]
    simp)
theorem below_drewN {B : Nat} {a w : World} (h : Below B a w) (q : Nat) : Below B a (w.drewN q) := ⟨h.os, h.tape, h.output, h.size, h.block⟩
end Go.Proofs.YtljkmdmbndjngaaGreat
/-
  The printer's name, term and verb.
-/
namespace Go.Proofs.YtljkmdmbndjngaaGreat
set_option linter.unusedVariables false
set_option linter.unusedSimpArgs false
open Go.RowKit Go.Maps

theorem name_is {a : Option Addr} {n c : Nat} {b : Nat} (dk : Int) (dv da dx : ByteArray) (dg : Option Addr) (dm dc : Nat) (W : World) (v : Value) :
    Calls Tryz.prog 22 #[Pv a n c b, .agg #[.int .i64 dk, .string dv, .string da, .string dx, .slice dg dm dc], v] W (StB dx W) := by
  have HZ := boxes W a n c b dk dv da dx dg dm dc _ rfl
  obtain ⟨hP, hD, hB⟩ := HZ
  have d3 := hD.c3
  have HB := Lib.hid hB
  clear hP hD hB
  unfold Pv
  go_enter Tryz.func22, Tryz.ntmps22
  go_wp2_with fail
  go_ret
  exact ⟨rfl, HB.out⟩
/-- In parentheses, if it is of a verb. -/
def wrB (k : Int) (t : ByteArray) : ByteArray := if k = 3 ∨ k = 4 then (⟨#[40]⟩ : ByteArray) ++ t ++ ⟨#[41]⟩ else t
set_option maxRecDepth 10000 in
set_option maxHeartbeats 1600000 in
theorem pterm_is {a : Option Addr} {n c : Nat} {f : Nat → Nd} {b : Nat} (p : Nat) (t : ByteArray) (W : World) (h : Hy a n c f b W) (hp : p < n) (zt : t.size ≤ 20000000000)
    (KT : ∀ W, Hy a n c f b W → Calls Tryz.prog 12 #[Pv a n c b, .int .i64 (p : Int)] W (StB t W)) :
    Calls Tryz.prog 50 #[Pv a n c b, .int .i64 (p : Int)] W (StB (wrB (f p).k t) W) := by
  have hn := h.hn
  have hnc := h.nc
  have hcm := h.cm
  have q0 : ¬ (9223372036854775807 < 1 + t.size) := by omega
  have q1 : ¬ (9223372036854775807 < 1 + t.size + 1) := by omega
  have q2 : ¬ (9223372036854775807 ≤ 1 + t.size) := by omega
  obtain ⟨gb, off, rfl, hc⟩ := h.nq.ld (by omega)
  have hd := hc p hp
  clear hc
  have c0 := hd.c0
  have hgl := hd.lt
  have KQ := Lib.hid (fun w' (hb : Below W.heap.size W w') => stb_base hb (KT w' (h.below hb)))
  clear hd KT h
  unfold wrB
  generalize (f p).k = dk at *
  unfold Pv at *
  have hP := Bp.new W (some ⟨gb, off, none⟩) n c b
  have hB := box_below W (.cells #[.slice (some ⟨gb, off, none⟩) n c, .map (some b)] 41)
  have p0 := hP.c0
  have p1 := hP.c1
  have c1 := (Below.cell (p := ⟨gb, off + p * 5, none⟩) hB hgl).trans c0
  have HB := Lib.hid hB
  clear hP hB c0
  by_cases h3 : dk = 3
  · subst h3
    rw [if_pos (.inl rfl)]
    go_enter Tryz.func50, Tryz.ntmps50
    go_wp2_with fail
    refine (KQ.out _ HB.out).mono ?_
    rintro e w1 ⟨rfl, hq⟩
    go_wp2_with fail
    go_ret
    exact ⟨rfl, hq⟩
  · by_cases h4 : dk = 4
    · subst h4
      rw [if_pos (.inr rfl)]
      go_enter Tryz.func50, Tryz.ntmps50
      go_wp2_with fail
      refine (KQ.out _ HB.out).mono ?_
      rintro e w1 ⟨rfl, hq⟩
      go_wp2_with fail
      go_ret
      exact ⟨rfl, hq⟩
    · rw [if_neg (by rintro (h | h); exact h3 h; exact h4 h)]
      have e3 : (dk == 3) = false := beq_eq_false_iff_ne.2 h3
      have e4 : (dk == 4) = false := beq_eq_false_iff_ne.2 h4
      clear h3 h4
      go_enter Tryz.func50, Tryz.ntmps50
      go_wp2_with fail
      refine (KQ.out _ HB.out).mono ?_
      rintro e w1 ⟨rfl, hq⟩
      go_wp2_with fail
      go_ret
      exact ⟨rfl, hq⟩
theorem lex_vo {j : Nat} {v w : List UInt8} (h : Vo j v w) : Run numB v 0 [⟨j, v, 0⟩] none := by
  cases h with
  | @sign c h =>
    have g := Run.part (N := numB) (r := []) (t := []) (p := 0) (ts := []) (e := none) h (by decide) (by decide) (by simp) (.nil 4) (fun e => by omega) (.nil _)
    exact g
  | @word c t h ht =>
    have g := Run.part (N := numB) (r := []) (p := 0) (ts := []) (e := none) h (by decide) (by decide) ht (.nil 3) (fun e => by omega) (.nil _)
    rw [List.append_nil] at g
    exact g
theorem vo_kind {j : Nat} {v w : List UInt8} (h : Vo j v w) : (j = 3 ∧ w = 32 :: (v ++ [32])) ∨ (j = 4 ∧ w = v) := by
  cases h with
  | sign h => exact .inr ⟨rfl, rfl⟩
  | word h ht => exact .inl ⟨rfl, rfl⟩
/-- Of a text that is one part alone, the first part's kind. -/
theorem lex_one {s : ByteArray} {j : Nat} (hz : s.size ≤ 256) (hr : Run numB s.data.toList 0 [⟨j, s.data.toList, 0⟩] none) (W : World) : Calls Tryz.prog 37 #[.string s] W fun e W' => ∃ g o c, e = .returned (.tuple #[.slice (some ⟨g, o, none⟩) 1 c, .int .i64 0, .int .i64 0]) ∧ 1 ≤ c ∧ W'.cell? ⟨g, o, none⟩ = some (.int .i64 (j : Int)) ∧ Below W.heap.size W W' :=
  (lex_is s hz _ _ hr W).mono fun _ _ ⟨a1, c1, h1, h2, h3, h4⟩ => by
    obtain ⟨g, o, rfl, hq⟩ := h3 (show 0 < 1 by omega)
    have k0 := (hq 0 (show 0 < 1 by omega)).1
    rw [Nat.zero_mul, Nat.add_zero] at k0
    exact ⟨g, o, c1, h1, h2, k0, h4⟩
set_option maxRecDepth 10000 in
set_option maxHeartbeats 3200000 in
theorem verb_one {a : Option Addr} {n c : Nat} {b : Nat} (dk : Int) (dv da dx : ByteArray) (dg : Option Addr) (dm dc : Nat) (u : Int) (W : World) (j : Nat) (R : ByteArray) (hj : (j = 3 ∧ R = (⟨#[32]⟩ : ByteArray) ++ dv ++ ⟨#[32]⟩ ++ da) ∨ (j = 4 ∧ R = dv ++ da)) (hr : Run numB dv.data.toList 0 [⟨j, dv.data.toList, 0⟩] none) (hv : dv.data.toList ≠ [123]) (zv : dv.size ≤ 256) (za : da.size ≤ 300) :
    Calls Tryz.prog 49 #[Pv a n c b, .agg #[.int .i64 dk, .string dv, .string da, .string dx, .slice dg dm dc], .int .i64 u] W (StB R W) := by
  replace hj := Lib.hid hj
  have KL := Lib.hid (fun W => lex_one zv hr W)
  have HZ := boxes W a n c b dk dv da dx dg dm dc _ rfl
  have hne : (dv.toList == [123]) = false := by
    rw [str_tl]
    exact beq_eq_false_iff_ne.2 hv
  have hn2 : ¬ dv.toList = [123] := by rw [str_tl]; exact hv
  have q0 : ¬ (9223372036854775807 < 1 + dv.size) := by omega
  have q1 : ¬ (9223372036854775807 < 1 + dv.size + 1) := by omega
  have q2 : ¬ (9223372036854775807 ≤ 1 + dv.size) := by omega
  have q3 : ¬ (9223372036854775807 < 1 + dv.size + 1 + da.size) := by omega
  have q4 : ¬ (9223372036854775807 < dv.size + da.size) := by omega
  clear hr hv
  unfold Pv
  go_enter Tryz.func49, Tryz.ntmps49
  go_upto_region 1 with fail
  generalize (W.alloc _).alloc _ = wz at *
  obtain ⟨hP, hD, hB⟩ := HZ
  have p0 := hP.c0
  have p1 := hP.c1
  have d0 := hD.c0
  have d1 := hD.c1
  have d2 := hD.c2
  have d3 := hD.c3
  have d4 := hD.c4
  have HD := Lib.hid hD
  clear hP hD
  go_wp2_with fail
  refine (KL.out _).mono ?_
  rintro e w1 ⟨g1, o1, c1, rfl, hc1, k0, hb1⟩
  have hD := HD.out.on hb1
  have d1 := hD.c1
  have d2 := hD.c2
  have HB := Lib.hid (hB.trans (hb1.mono hB.size))
  clear hD HD hb1 hB p0 p1 d0 d3 d4 KL
  rcases hj.out with ⟨rfl, rfl⟩ | ⟨rfl, rfl⟩
  · go_wp2_with fail
    go_ret
    exact ⟨rfl, HB.out⟩
  · go_wp2_with fail
    go_ret
    exact ⟨rfl, HB.out⟩
set_option maxRecDepth 10000 in
set_option maxHeartbeats 3200000 in
theorem verb_body {a : Option Addr} {n c : Nat} {f : Nat → Nd} {b : Nat} (dk : Int) (da dx : ByteArray) (dg : Option Addr) (dm dc : Nat) (u : Nat) (t : ByteArray) (W : World) (h : Hy a n c f b W) (za : da.size ≤ 300) (zt : t.size ≤ 20000000000)
    (KT : ∀ W, Hy a n c f b W → Calls Tryz.prog 12 #[Pv a n c b, .int .i64 (u : Int)] W (StB t W)) :
    Calls Tryz.prog 49 #[Pv a n c b, .agg #[.int .i64 dk, .string ⟨#[123]⟩, .string da, .string dx, .slice dg dm dc], .int .i64 (u : Int)] W (StB ((⟨#[123]⟩ : ByteArray) ++ t ++ ⟨#[125]⟩ ++ da) W) := by
  have HZ := boxes W a n c b dk ⟨#[123]⟩ da dx dg dm dc _ rfl
  have q0 : ¬ (9223372036854775807 < 1 + t.size) := by omega
  have q1 : ¬ (9223372036854775807 < 1 + t.size + 1) := by omega
  have q2 : ¬ (9223372036854775807 ≤ 1 + t.size) := by omega
  have q3 : ¬ (9223372036854775807 < 1 + t.size + 1 + da.size) := by omega
  have KQ := Lib.hid (fun w' (hb : Below W.heap.size W w') => (KT w' (h.below hb)))
  clear h KT
  unfold Pv at *
  go_enter Tryz.func49, Tryz.ntmps49
  go_upto_region 1 with fail
  generalize (W.alloc _).alloc _ = wz at *
  obtain ⟨hP, hD, hB⟩ := HZ
  have p0 := hP.c0
  have p1 := hP.c1
  have d0 := hD.c0
  have d1 := hD.c1
  have d2 := hD.c2
  have d3 := hD.c3
  have d4 := hD.c4
  have lp := hP.lt
  have ld := hD.lt
  have KZ := Lib.hid (fun w' (hb : Below wz.heap.size wz w') => stb_base hb (KQ.out w' (hB.trans (hb.mono hB.size))))
  have hq : Below wz.heap.size wz wz := Below.refl _ _
  clear hP hD KQ
  go_wp2_with fail
  go_region_held3 (fun w' => w'.cell? ⟨W.heap.size, 0, none⟩ = some (.slice a n c) ∧ w'.cell? ⟨W.heap.size, 1, none⟩ = some (.map (some b)) ∧ w'.cell? ⟨W.heap.size + 1, 2, none⟩ = some (.string da))
    (first | exact ⟨(Below.cell (p := ⟨W.heap.size, 0, none⟩) (by repeat' (first | exact hq | refine Below.drew ?_ | refine below_drewM ?_ _)) lp).trans p0, (Below.cell (p := ⟨W.heap.size, 1, none⟩) (by repeat' (first | exact hq | refine Below.drew ?_ | refine below_drewM ?_ _)) lp).trans p1, (Below.cell (p := ⟨W.heap.size + 1, 2, none⟩) (by repeat' (first | exact hq | refine Below.drew ?_ | refine below_drewM ?_ _)) ld).trans d2⟩ | fail)
    (first
      | (go_at_call 12; (with_reducible refine (KZ.out _ (by repeat' (first | exact hq | refine Below.drew ?_ | refine below_drewM ?_ _))).mono ?_); rintro e wa ⟨rfl, hq⟩)
      | fail)
  all_goals
    go_wp2_with fail
    go_ret
    exact ⟨rfl, hB.trans (hq.mono hB.size)⟩
end Go.Proofs.YtljkmdmbndjngaaGreat
/-
  Each line's tree that may be is printed in some way, over parts as Lex tells them.
-/
namespace Go.Proofs.YtljkmdmbndjngaaGreat
set_option linter.unusedVariables false
set_option linter.unusedSimpArgs false
variable {N : List UInt8 → Bool} {M : List UInt8 → List UInt8}

theorem PrL.ex {P : Pk → Prop} (hN : ∀ q, P q → q.k = 1 → Nu N q.t) (hW : ∀ q, P q → q.k = 2 → ∃ c t, q.t = c :: t ∧ cls c = 2 ∧ ∀ x ∈ t, (moreL 2).contains x = true) (hD : ∀ q, P q → q.k = 3 → ∃ c t, q.t = c :: t ∧ cls c = 3 ∧ ∀ x ∈ t, (moreL 3).contains x = true) (hO : ∀ q, P q → q.k = 3 ∨ q.k = 4 → q.t ≠ [123] ∧ ∃ j s, Vo j q.t s)
    {n : Tn} {Y : List Tn} {d : Nat} (hd : Dp (n :: Y) 1 d) (hn : Nok M P n ∨ Hok P n) (hY : ∀ t ∈ Y, Nok M P t) : ∃ s, PrL N M (n :: Y) s := by
  have ex := Pr.ex (N := N) (M := M) hN hW hO
  rcases hn with hn | hn
  · obtain ⟨⟨s, h⟩, _⟩ := ex _ _ d (Nat.le_refl _) hd fun t ht => by
      rcases List.mem_cons.1 ht with rfl | ht
      · exact hn
      · exact hY t ht
    exact ⟨s, .expr h⟩
  · obtain ⟨n', Y', k, d1, e, hk, hY2⟩ := hd.head
    injection e with e1 e2
    subst e1 e2
    cases hn with
    | @assign q hq h2 =>
      have : k = 1 := by have : kdT (⟨5, [], [], q.t, []⟩ : Tn) = 1 := rfl; omega
      subst this
      obtain ⟨c, t, e, hc, ht⟩ := hW q hq h2
      obtain ⟨⟨s, h⟩, _⟩ := ex _ _ _ (Nat.le_refl _) hY2 hY
      rw [e]
      exact ⟨_, .assign hc ht h⟩
    | @amend q hq h2 =>
      have : k = 2 := by have : kdT (⟨6, [], [], q.t, []⟩ : Tn) = 2 := rfl; omega
      subst this
      obtain ⟨c, t, e, hc, ht⟩ := hW q hq h2
      obtain ⟨A, B, dA, dB, rfl, hA, hB⟩ := hY2.more (m := 1)
      obtain ⟨⟨i, hi⟩, _⟩ := ex _ _ _ (Nat.le_refl _) hA fun t ht => hY t (by simp [ht])
      obtain ⟨⟨s, h⟩, _⟩ := ex _ _ _ (Nat.le_refl _) hB fun t ht => hY t (by simp [ht])
      rw [e]
      exact ⟨_, .amend hc ht hi h⟩
    | @define q hq h3 =>
      have : k = 1 := by have : kdT (⟨7, [], [], q.t, []⟩ : Tn) = 1 := rfl; omega
      subst this
      obtain ⟨c, t, e, hc, ht⟩ := hD q hq h3
      obtain ⟨⟨s, h⟩, _⟩ := ex _ _ _ (Nat.le_refl _) hY2 hY
      rw [e]
      exact ⟨_, .define hc ht h⟩
/-- Printed, over parts as Lex tells them. -/
theorem printed_ex {P : Pk → Prop} (hP : ∀ q, P q → Ps q) {n : Tn} {Y : List Tn} {d : Nat} (hd : Dp (n :: Y) 1 d) (hn : Nok numT P n ∨ Hok P n) (hY : ∀ t ∈ Y, Nok numT P t) : ∃ s, PrL numB numT (n :: Y) s := by
  have cl : ∀ q, P q → ∀ k : Nat, q.k = (k : Int) → ∃ c t, q.t = c :: t ∧ cls c = k ∧ (k = 1 → numB q.t = true) ∧ ∀ x ∈ t, (moreL k).contains x = true := fun q hq k hk => by
    obtain ⟨c, t, e, hc, _, _, hn, ht⟩ := (hP q hq).of
    have : cls c = k := by omega
    subst this
    exact ⟨c, t, e, rfl, hn, ht⟩
  refine PrL.ex (fun q hq hk => ?_) (fun q hq hk => ?_) (fun q hq hk => ?_) (fun q hq hk => ?_) hd hn hY
  · obtain ⟨c, t, e, hc, hn, ht⟩ := cl q hq 1 hk
    exact ⟨⟨c, t, e, hc, ht⟩, hn rfl⟩
  · obtain ⟨c, t, e, hc, _, ht⟩ := cl q hq 2 hk
    exact ⟨c, t, e, hc, ht⟩
  · obtain ⟨c, t, e, hc, _, ht⟩ := cl q hq 3 hk
    exact ⟨c, t, e, hc, ht⟩
  · rcases hk with hk | hk
    · obtain ⟨c, t, e, hc, _, ht⟩ := cl q hq 3 hk
      refine ⟨fun g => ?_, 3, ?_⟩
      · rw [e] at g
        injection g with g _
        subst g
        exact absurd hc (by decide)
      · rw [e]
        exact ⟨_, .word hc ht⟩
    · obtain ⟨c, t, e, hc, _, ht⟩ := cl q hq 4 hk
      cases t with
      | nil =>
        refine ⟨fun g => ?_, 4, ?_⟩
        · rw [e] at g
          injection g with g _
          subst g
          exact absurd hc (by decide)
        · rw [e]
          exact ⟨_, .sign hc⟩
      | cons x t => exact absurd (ht x (by simp)) (by rw [more_big (Nat.le_refl 4)]; simp)
end Go.Proofs.YtljkmdmbndjngaaGreat

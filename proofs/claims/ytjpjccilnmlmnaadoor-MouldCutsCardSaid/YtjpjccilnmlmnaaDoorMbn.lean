import Derived.Test.YtjpjccilnmlmnaaDoorMbl
import Derived.Test.YtjpjccilnmlmnaaDoorMbm
/-
  MouldCuts at every array and number.
-/
namespace Go.Proofs.YtjpjccilnmlmnaaDoor
set_option linter.unusedVariables false
set_option linter.unusedSimpArgs false
open Go.RowKit

theorem mcuts_any {a1 b1 : Option Addr} {n1 c1 m1 d1 : Nat} {l : List Int} {es : List ByteArray} (k : Int) (hk : 0 ≤ k) (hk2 : k ≤ 255) (W : World) (hW : WT W) (hV : Vl W a1 n1 b1 m1 l es) (hC : Cp n1 c1 m1 d1) (hZ : ∀ j, j < m1 → (es.getD j ByteArray.empty).size ≤ maxLen) :
    Calls Tryd.prog 3 #[.agg #[.slice a1 n1 c1, .slice b1 m1 d1], .int .u8 k] W (TrueEnd W) := by
  obtain ⟨o, ho⟩ := ais_ex l es
  rcases Bool.eq_false_or_eq_true (fewB l es) with hf | hf
  · cases o with
    | none => exact mcuts_may W hW ⟨hV, hC, hZ, ho⟩ hf
    | some q =>
      have h1 : Av W a1 n1 c1 b1 m1 d1 l es (some q) := ⟨hV, hC, hZ, ho⟩
      by_cases h0 : n1 = 0
      · exact mcuts_ax W hW h1 hf h0
      · have hfit := h1.fits
        have hq1 : q.1 ≠ [] := by rw [h1.fst]; intro e; have := h1.v.s.1; rw [e] at this; exact h0 this.symm
        have hNI : mN l = nI q.1 := by rw [← h1.fst]; exact mN_nI hq1
        have hNb := h1.items.2.2.1
        obtain ⟨M, hM⟩ : ∃ M, M = min (mN l) 200 := ⟨_, rfl⟩
        have hpos : (0 : Int) < ((M + 1 : Nat) : Int) := by omega
        obtain ⟨n, hn⟩ : ∃ n : Nat, k % ((M + 1 : Nat) : Int) = (n : Int) := ⟨(k % ((M + 1 : Nat) : Int)).toNat, by have := Int.emod_nonneg k (show ((M + 1 : Nat) : Int) ≠ 0 by omega); omega⟩
        have hlt := Int.emod_lt_of_pos k hpos
        have hn2 : k.tmod ((M + 1 : Nat) : Int) = (n : Int) := by rw [Int.tmod_eq_emod_of_nonneg hk]; exact hn
        have hnM : n ≤ M := by omega
        obtain ⟨qa, qb⟩ := tk_dr hfit hq1 (n := n) (by omega) (by omega)
        have qx := cuM_join hfit hq1 (a := n) (by omega)
        have hhd : q.1.getD 0 0 = (mN l : Int) := by rw [hNI]; exact (nI_head hq1 hfit.1).symm
        have qo := tk_over hfit hq1 (x := (mN l : Int) + 1) (by rw [hhd]; omega)
        obtain ⟨⟨O, ko⟩, hO⟩ : ∃ p, tkM (some ([], [(mN l : Int) + 1])) (some q) = p := ⟨_, rfl⟩
        rw [hO] at qo
        have iA : itV (cuM q 0 n).1 = (n : Int) := by have := cuM_many (w := q) (a := 0) (b := n); rwa [Nat.sub_zero] at this
        by_cases hn0 : n = 0
        · obtain ⟨qc, qd⟩ := tk_dr hfit hq1 (n := 0) (by omega) (by omega)
          have ey : (((0 : Nat) : Int)) = -(n : Int) := by omega
          rw [ey] at qc qd
          obtain ⟨⟨Y, j⟩, qy⟩ : ∃ p, jnM (some (cuM q 0 (nI q.1))) (some (cuM q 0 0)) = p := ⟨_, rfl⟩
          refine mcuts_zero W hW h1 hf (by omega) hk hk2 rfl hNb hM hn hn2 hnM rfl rfl qa qb qc qd qx qy hO qo iA ?_ hn0
          rw [hn0]
          exact cuM_many (w := q) (a := 0) (b := 0)
        · obtain ⟨qc, qd⟩ := tk_dr_end hfit hq1 (n := n) (by omega) (by omega) (by omega)
          have qy := cuM_join hfit hq1 (a := nI q.1 - n) (by omega)
          refine mcuts_yes W hW h1 hf (by omega) hk hk2 rfl hNb hM hn hn2 hnM rfl rfl qa qb qc qd qx qy hO qo iA ?_ hn0 rfl rfl
          have := cuM_many (w := q) (a := nI q.1 - n) (b := nI q.1)
          rwa [show nI q.1 - (nI q.1 - n) = n by omega] at this
  · exact mcuts_few W hW ⟨hV, hC, hZ, ho⟩ hf
end Go.Proofs.YtjpjccilnmlmnaaDoor

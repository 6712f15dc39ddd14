import Derived.Test.YtomkjmhebnecbaaGreatDoorMbd
import Derived.Test.YtomkjmhebnecbaaGreatDoorMay
/-
  The reference's row and vector.
-/
namespace Go.Proofs.YtomkjmhebnecbaaGreatDoor
set_option linter.unusedVariables false
set_option linter.unusedSimpArgs false
open Go.RowKit

theorem litT_len (l : List UInt8) : (litT l).length ≤ 101 := by
  unfold litT
  split
  · rename_i h
    have := mayL_len h
    cases l with
    | nil => simp [swapL]
    | cons c r =>
      show (if c = 45 then 95 :: r else c :: r).length ≤ 101
      split <;> exact this
  · simp
theorem rowT_len : ∀ es : List (List UInt8), (rowT litT es).length ≤ 102 * es.length
  | [] => by simp [rowT, joinT]
  | [e] => by have := litT_len e; show (litT e).length ≤ _; simp; omega
  | e :: f :: r => by
    have h1 := rowT_len (f :: r)
    have h2 := litT_len e
    show (litT e ++ 32 :: rowT litT (f :: r)).length ≤ _
    simp only [List.length_append, List.length_cons] at h1 ⊢
    omega
theorem joinT_snoc : ∀ (l : List (List UInt8)) (x : List UInt8), l ≠ [] → joinT (l ++ [x]) = joinT l ++ 32 :: x
  | [], x, h => absurd rfl h
  | [a], x, _ => rfl
  | a :: b :: r, x, _ => by
    have := joinT_snoc (b :: r) x (by simp)
    show a ++ 32 :: joinT (b :: r ++ [x]) = (a ++ 32 :: joinT (b :: r)) ++ 32 :: x
    rw [this]; simp
theorem rowT_zero {es : List (List UInt8)} (h : 0 < es.length) : (⟨#[]⟩ : ByteArray) ++ tx (litT (es.getD 0 [])) = tx (rowT litT (es.take 1)) := by
  cases es with
  | nil => simp at h
  | cons e r => exact tx_cat [] (litT e)
theorem rowT_step {es : List (List UInt8)} {k : Nat} (h0 : 0 < k) (h : k < es.length) : tx (rowT litT (es.take k)) ++ (⟨#[32]⟩ : ByteArray) ++ tx (litT (es.getD k [])) = tx (rowT litT (es.take (k + 1))) := by
  rw [show (⟨#[32]⟩ : ByteArray) = tx [32] from rfl, tx_cat, tx_cat, List.take_succ_eq_append_getElem h]
  congr 1
  unfold rowT
  rw [List.map_append, List.map_cons, List.map_nil, joinT_snoc _ _ (by
    intro e
    have := congrArg List.length e
    rw [List.length_map, List.length_take, List.length_nil] at this
    omega), List.getD_eq_getElem?_getD, List.getElem?_eq_getElem h]
  simp
theorem wrk {k : Nat} (h : k ≤ 1000000000000) : IntKind.i64.wrap ((k : Int) + 1) = (k : Int) + 1 := IntWalk.i64_in _ (by omega)
def StrSame (t : List UInt8) (w : World) (e : Ending) (w' : World) : Prop := e = .returned (.string (tx t)) ∧ w = w'
set_option maxHeartbeats 1600000 in
theorem rrow_is (a : Option Addr) (c : Nat) (es : List (List UInt8)) (W : World) (h : St W a es.length (es.map tx)) (hz : ∀ t ∈ es, t.length ≤ 1000000) (hn : es.length ≤ 1000000) :
    Calls Tryz.prog 19 #[.slice a es.length c] W (StrSame (rowT litT es) W) := by
  obtain ⟨n, hN⟩ : ∃ n, n = es.length := ⟨_, rfl⟩
  have HT := Lib.hid h
  have HZ := Lib.hid hz
  have HN := Lib.hid hN
  rw [← hN] at HT hn ⊢
  clear h hz hN
  go_enter Tryz.func19, Tryz.ntmps19
  go_wp2_with fail
  go_loop [3, 4] (fun sv iv => ∃ k : Nat, iv = .int .i64 k ∧ k ≤ n ∧ sv = .string (tx (rowT litT (es.take k)))) (fun _ iv => n - (intOf iv).toNat)
  case atStart => exact ⟨0, rfl, by omega, rfl⟩
  case round =>
    obtain ⟨k, rfl, hk, rfl⟩ := hrel
    by_cases hlt : k < n
    · have e2 : (k : Int) < (n : Int) := by omega
      obtain ⟨bb, off, rfl, hc⟩ := HT.out.2 (by omega)
      have ck := hc k hlt
      have hkt : k < es.length := by rw [← HN.out]; exact hlt
      rw [getD_tx es hkt] at ck
      have hmem : es.getD k [] ∈ es := by rw [List.getD_eq_getElem?_getD, List.getElem?_eq_getElem hkt]; exact List.getElem_mem hkt
      have hlen := HZ.out _ hmem
      have K := Lib.hid (rLiteral_is (es.getD k []) (by omega) W)
      have hr := rowT_len (es.take k)
      have ht := litT_len (es.getD k [])
      have hs1 : (tx (rowT litT (es.take k))).size ≤ 102000000 := by rw [tx_size]; have : (es.take k).length ≤ es.length := by simp; omega
                                                                     have := HN.out
                                                                     omega
      have hs2 : (tx (litT (es.getD k []))).size ≤ 101 := by rw [tx_size]; exact ht
      have w3 : IntKind.i64.wrap ((k : Int) + 1) = (k : Int) + 1 := wrk (by omega)
      by_cases h0 : k = 0
      · subst h0
        have HS := Lib.hid (rowT_zero (es := es) (by omega))
        rw [show es.take 0 = [] from rfl, show tx (rowT litT []) = (⟨#[]⟩ : ByteArray) from rfl]
        generalize tx (es.getD 0 []) = E at *
        generalize litT (es.getD 0 []) = L at *
        generalize mayL (es.getD 0 []) = M at *
        have q2 : ¬ (9223372036854775807 < (tx L).size) := by omega
        rw [Nat.add_zero] at ck
        clear hc hmem hlen hr ht hkt hs1
        go_wp2_with fail
        refine K.out.mono ?_
        rintro e w1 ⟨rfl, rfl⟩
        generalize tx L = T at *
        clear K
        go_wp2_with fail
        exact ⟨⟨1, rfl, by omega, by rw [HS.out]⟩, by simp [intOf]; omega⟩
      · have e0 : (0 : Int) < (k : Int) := by omega
        have HS := Lib.hid (rowT_step (es := es) (k := k) (by omega) (by omega))
        generalize tx (rowT litT (es.take k)) = S at *
        generalize tx (es.getD k []) = E at *
        have q1 : ¬ (9223372036854775807 < S.size + 1) := by omega
        have q2 : ¬ (9223372036854775807 ≤ S.size) := by omega
        have q3 : ¬ (9223372036854775806 < S.size) := by omega
        generalize litT (es.getD k []) = L at *
        generalize mayL (es.getD k []) = M at *
        have q4 : ¬ (9223372036854775807 < S.size + 1 + (tx L).size) := by omega
        clear hc hmem hlen hr ht hkt
        go_wp2_with fail
        refine K.out.mono ?_
        rintro e w1 ⟨rfl, rfl⟩
        generalize tx L = T at *
        clear K
        go_wp2_with fail
        exact ⟨⟨k + 1, rfl, by omega, by rw [HS.out]⟩, by simp [intOf]; omega⟩
    · have e2 : ¬ (k : Int) < (n : Int) := by omega
      obtain rfl : k = n := by omega
      have HS : Hid (es.take k = es) := Lib.hid (List.take_of_length_le (by rw [HN.out]; exact Nat.le_refl _))
      rw [HS.out]
      go_wp2_with fail
      go_ret
      exact ⟨rfl, rfl⟩
theorem vecT_len (es : List (List UInt8)) : (vecT litT es).length ≤ 102 * es.length + 2 := by
  match es with
  | [] => simp [vecT]
  | [e] =>
    have := rowT_len [e]
    show (44 :: rowT litT [e]).length ≤ _
    rw [List.length_cons]; omega
  | e :: f :: r =>
    have := rowT_len (e :: f :: r)
    show (rowT litT (e :: f :: r)).length ≤ _
    omega
set_option maxHeartbeats 800000 in
theorem rvec_is (a : Option Addr) (c : Nat) (es : List (List UInt8)) (W : World) (h : St W a es.length (es.map tx)) (hz : ∀ t ∈ es, t.length ≤ 1000000) (hn : es.length ≤ 1000000) :
    Calls Tryz.prog 20 #[.slice a es.length c] W (StrSame (vecT litT es) W) := by
  have K := rrow_is a c es W h hz hn
  by_cases h0 : es.length = 0
  · obtain rfl := List.length_eq_zero_iff.1 h0
    clear K h hz hn h0
    go_enter Tryz.func20, Tryz.ntmps20
    go_wp2_with fail
    go_ret
    exact ⟨rfl, rfl⟩
  by_cases h1 : es.length = 1
  · obtain ⟨e, rfl⟩ := List.length_eq_one_iff.1 h1
    have hz2 : (tx (rowT litT [e])).size ≤ 102 := rowT_len [e]
    have HC := Lib.hid (show (⟨#[44]⟩ : ByteArray) ++ tx (rowT litT [e]) = tx (vecT litT [e]) from tx_cat [44] (rowT litT [e]))
    replace K := Lib.hid K
    rw [show (([e] : List (List UInt8)).length : Nat) = 1 from rfl] at K ⊢
    clear h hz hn h0 h1
    go_enter Tryz.func20, Tryz.ntmps20
    go_wp2_with fail
    refine K.out.mono ?_
    rintro x w1 ⟨rfl, rfl⟩
    generalize tx (rowT litT [e]) = u at hz2 HC ⊢
    have q1 : ¬ (9223372036854775807 < 1 + u.size) := by omega
    have q2 : ¬ (9223372036854775806 < u.size) := by omega
    go_wp2_with fail
    go_ret
    exact ⟨by rw [← HC.out]; rfl, rfl⟩
  · have HV : Hid (vecT litT es = rowT litT es) := Lib.hid (by
      match es, h0, h1 with
      | e :: f :: r, _, _ => rfl)
    rw [HV.out]
    generalize es.length = n at *
    have e0 : ((n : Int) == 0) = false := beq_eq_false_iff_ne.2 (by omega)
    have e1 : ((n : Int) == 1) = false := beq_eq_false_iff_ne.2 (by omega)
    replace K := Lib.hid K
    clear h hz hn h0 h1
    go_enter Tryz.func20, Tryz.ntmps20
    go_wp2_with fail
    refine K.out.mono ?_
    rintro x w1 ⟨rfl, rfl⟩
    go_wp2_with fail
    go_ret
    exact ⟨rfl, rfl⟩
end Go.Proofs.YtomkjmhebnecbaaGreatDoor

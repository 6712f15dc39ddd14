import Derived.Test.YtinhbmjfeabecaaDoorTkw
namespace Go.Proofs.YtinhbmjfeabecaaDoor
open Go.RowKit

/-! ### cutLong: the scale -/
theorem scale_pos {v : Nat} (hv : v < 1000000000) : 0 < 1000000000 / (v + 1) := Nat.div_pos (by omega) (by omega)
theorem scale_lt {v : Nat} (hv : 1 ≤ v) : 1000000000 / (v + 1) < 1000000000 := Nat.div_lt_self (by decide) (by omega)
theorem scale_half {v s : Nat} (hv : 1 ≤ v) (hvB : v < 1000000000) (hs : s = 1000000000 / (v + 1)) : 500000000 ≤ s * v := by
  have h1 : 1000000000 < (s + 1) * (v + 1) := by rw [hs]; have := Nat.lt_div_mul_add (show 0 < v + 1 by omega) (a := 1000000000); rw [Nat.add_mul, Nat.one_mul]; omega
  have h0 : 0 < s := by rw [hs]; exact scale_pos hvB
  rw [Nat.add_mul, Nat.mul_add, Nat.mul_one, Nat.one_mul] at h1
  rcases Nat.lt_or_ge s 2 with h | h
  · have : s = 1 := by omega
    subst this; omega
  · rcases Nat.lt_or_ge v 2 with h2 | h2
    · have : v = 1 := by omega
      subst this; omega
    · obtain ⟨a, rfl⟩ : ∃ a, s = a + 2 := ⟨s - 2, by omega⟩
      obtain ⟨b, rfl⟩ : ∃ b, v = b + 2 := ⟨v - 2, by omega⟩
      have e : (a + 2) * (b + 2) = a * b + 2 * a + 2 * b + 4 := by rw [Nat.add_mul, Nat.mul_add, Nat.mul_add]; omega
      have : 0 ≤ a * b := Nat.zero_le _
      omega
theorem scaled_bounds {m : List Nat} {n s : Nat} (om : Ok m) (hn : m.length = n + 1) (hv : 1 ≤ m.getD n 0) (hs : s = 1000000000 / (m.getD n 0 + 1)) :
    500000000 * 1000000000 ^ n ≤ val m * s ∧ val m * s < 1000000000 ^ (n + 1) ∧ 1000000000 ^ n * s ≤ val m * s := by
  obtain ⟨h1, h2⟩ := top_one om hn
  have hb := ok_getD om n
  have hh := scale_half hv hb hs
  have hs1 : (m.getD n 0 + 1) * s ≤ 1000000000 := by rw [hs, Nat.mul_comm]; exact Nat.div_mul_le_self _ _
  have hs0 : 0 < s := by rw [hs]; exact scale_pos hb
  refine ⟨?_, ?_, ?_⟩
  · have e1 : m.getD n 0 * 1000000000 ^ n * s ≤ val m * s := Nat.mul_le_mul_right _ h1
    have e2 : m.getD n 0 * 1000000000 ^ n * s = s * m.getD n 0 * 1000000000 ^ n := by rw [Nat.mul_comm _ s, ← Nat.mul_assoc]
    have e3 : 500000000 * 1000000000 ^ n ≤ s * m.getD n 0 * 1000000000 ^ n := Nat.mul_le_mul_right _ hh
    omega
  · have e1 : val m * s < (m.getD n 0 + 1) * 1000000000 ^ n * s := Nat.mul_lt_mul_of_pos_right h2 hs0
    have e2 : (m.getD n 0 + 1) * 1000000000 ^ n * s = (m.getD n 0 + 1) * s * 1000000000 ^ n := by rw [Nat.mul_assoc, Nat.mul_comm (1000000000 ^ n), ← Nat.mul_assoc]
    have e3 : (m.getD n 0 + 1) * s * 1000000000 ^ n ≤ 1000000000 * 1000000000 ^ n := Nat.mul_le_mul_right _ hs1
    rw [Nat.pow_succ, Nat.mul_comm (1000000000 ^ n)]; omega
  · refine Nat.mul_le_mul_right _ ?_
    have : 1 * 1000000000 ^ n ≤ m.getD n 0 * 1000000000 ^ n := Nat.mul_le_mul_right _ hv
    omega
theorem len_of_bounds {m : List Nat} {n : Nat} (om : Ok m) (nm : Norm m) (h1 : 1000000000 ^ n ≤ val m) (h2 : val m < 1000000000 ^ (n + 1)) : m.length = n + 1 := by
  have a := val_lt om
  have hne : m ≠ [] := by
    rintro rfl
    have : 0 < 1000000000 ^ n := Nat.pow_pos (by decide)
    rw [val_nil] at h1
    omega
  have b := norm_ge nm hne
  have c : n < m.length := (Nat.pow_lt_pow_iff_right (a := 1000000000) (by decide)).1 (by omega)
  have d : m.length - 1 < n + 1 := (Nat.pow_lt_pow_iff_right (a := 1000000000) (by decide)).1 (by omega)
  omega
theorem len_le_of_lt {m : List Nat} {n : Nat} (nm : Norm m) (h2 : val m < 1000000000 ^ n) : m.length ≤ n := by
  by_cases hne : m = []
  · subst hne; simp
  · have b := norm_ge nm hne
    have d : m.length - 1 < n := (Nat.pow_lt_pow_iff_right (a := 1000000000) (by decide)).1 (by omega)
    omega
theorem top_half {m : List Nat} {n : Nat} (om : Ok m) (hn : m.length = n + 1) (h : 500000000 * 1000000000 ^ n ≤ val m) : 500000000 ≤ m.getD n 0 := by
  obtain ⟨_, h2⟩ := top_one om hn
  have : 500000000 * 1000000000 ^ n < (m.getD n 0 + 1) * 1000000000 ^ n := by omega
  have := Nat.lt_of_mul_lt_mul_right this
  omega
theorem norm_top {m : List Nat} {n : Nat} (nm : Norm m) (hn : m.length = n + 1) : 1 ≤ m.getD n 0 := by
  obtain ⟨m', a, rfl, ha⟩ := norm_last nm (by rintro rfl; simp at hn)
  simp at hn
  subst hn
  simp; omega

/-! ### cutLong: what the loop keeps. k: the places from k on are told. -/
structure ClInv (U V L n k : Nat) (R Q : Nat → Nat) : Prop where
  okR : ∀ j, R j < 1000000000
  okQ : ∀ j, Q j < 1000000000
  tail : vf R k (L + 1 - k) < V
  sum : vf R 0 (L + 1) + V * (1000000000 ^ k * vf Q k (L - n - k)) = U
theorem ClInv.start {l : List Nat} {L n s V U : Nat} (hl : l.length ≤ L + 1) (ol : Ok l) (hn : n < L) (hU : val l = U) (hUlt : U < 1000000000 ^ L * s) (hV : 1000000000 ^ n * s ≤ V) : ClInv U V L n (L - n) (over l (fun _ => 0)) (fun _ => 0) := by
  have hz : vf (over l (fun _ => 0)) 0 (L + 1) = U := by rw [vf_over_zero l hl, hU]
  refine ⟨over_ok ol (fun _ _ => by decide), fun _ => by decide, ?_, ?_⟩
  · have e := vf_split (over l (fun _ => 0)) 0 (L - n) (n + 1)
    rw [show L - n + (n + 1) = L + 1 by omega, hz, Nat.zero_add] at e
    rw [show L + 1 - (L - n) = n + 1 by omega]
    have h1 : 1000000000 ^ L * s = 1000000000 ^ (L - n) * (1000000000 ^ n * s) := by rw [← Nat.mul_assoc, ← Nat.pow_add]; congr 2; omega
    have h2 : 1000000000 ^ (L - n) * (1000000000 ^ n * s) ≤ 1000000000 ^ (L - n) * V := Nat.mul_le_mul_left _ hV
    exact Nat.lt_of_mul_lt_mul_left (a := 1000000000 ^ (L - n)) (by omega)
  · rw [hz, Nat.sub_self]; simp [vf]
theorem ClInv.window {U V L n k : Nat} {R Q : Nat → Nat} (h : ClInv U V L n (k + 1) R Q) (hk : k + 1 ≤ L - n) (hV : V < 1000000000 ^ (n + 1)) :
    vf R k (L + 1 - k) = vf R k (n + 2) ∧ vf R k (n + 2) < 1000000000 * V ∧ vf R (k + (n + 2)) (L + 1 - k - (n + 2)) = 0 := by
  have ht := h.tail
  have e1 := vf_split R (k + 1) (n + 1) (L + 1 - k - (n + 2))
  rw [show n + 1 + (L + 1 - k - (n + 2)) = L + 1 - (k + 1) by omega, show k + 1 + (n + 1) = k + (n + 2) by omega] at e1
  have hz : vf R (k + (n + 2)) (L + 1 - k - (n + 2)) = 0 := by
    rcases Nat.eq_zero_or_pos (vf R (k + (n + 2)) (L + 1 - k - (n + 2))) with h0 | h0
    · exact h0
    · have : 1000000000 ^ (n + 1) * 1 ≤ 1000000000 ^ (n + 1) * vf R (k + (n + 2)) (L + 1 - k - (n + 2)) := Nat.mul_le_mul_left _ h0
      omega
  have e2 := vf_split R k (n + 2) (L + 1 - k - (n + 2))
  rw [show n + 2 + (L + 1 - k - (n + 2)) = L + 1 - k by omega, hz, Nat.mul_zero] at e2
  have e3 : vf R k (L + 1 - k) = vf R k (n + 2) := e2.trans (Nat.add_zero _)
  refine ⟨e3, ?_, hz⟩
  have e4 := vf_cons R k (L + 1 - (k + 1))
  rw [show L + 1 - (k + 1) + 1 = L + 1 - k by omega, e3] at e4
  have := h.okR k
  omega
theorem sum_step {U V A P x x' y q' q : Nat} (es : x + V * (P * 1000000000 * q) = U) (a1 : x = y + P * A) (a2 : x' = y + P * (A % V)) (q1 : q' = A / V + 1000000000 * q) : x' + V * (P * q') = U := by
  have d := Nat.div_add_mod A V
  have e3 : P * A = V * (P * (A / V)) + P * (A % V) := by
    conv => lhs; rw [← d, Nat.mul_add]
    rw [Nat.mul_left_comm]
  rw [a1] at es
  rw [a2, q1, ← es, Nat.mul_add P, Nat.mul_add V, e3, ← Nat.mul_assoc P 1000000000]
  omega
theorem ClInv.step {U V L n k : Nat} {R Q R' : Nat → Nat} (h : ClInv U V L n (k + 1) R Q) (hk : k + 1 ≤ L - n) (hV : V < 1000000000 ^ (n + 1)) (hV0 : 0 < V)
    (hout : ∀ j, j < k ∨ k + (n + 2) ≤ j → R' j = R j) (hok : ∀ j, k ≤ j → j < k + (n + 2) → R' j < 1000000000) (hR : vf R' k (n + 2) = vf R k (n + 2) % V) :
    ClInv U V L n k R' (upd Q k (vf R k (n + 2) / V)) := by
  obtain ⟨w1, w2, w3⟩ := h.window hk hV
  have t1 : vf R' k (L + 1 - k) = vf R k (n + 2) % V := by
    have e2 := vf_split R' k (n + 2) (L + 1 - k - (n + 2))
    rw [show n + 2 + (L + 1 - k - (n + 2)) = L + 1 - k by omega, vf_congr (F := R') (G := R) (o := k + (n + 2)) (fun j a b => hout j (by omega)), w3, Nat.mul_zero, hR] at e2
    exact e2.trans (Nat.add_zero _)
  refine ⟨fun j => ?_, fun j => ?_, by rw [t1]; exact Nat.mod_lt _ hV0, ?_⟩
  · by_cases hj : j < k ∨ k + (n + 2) ≤ j
    · rw [hout j hj]; exact h.okR j
    · exact hok j (by omega) (by omega)
  · unfold upd; split
    · exact Nat.div_lt_of_lt_mul (by rw [Nat.mul_comm]; exact w2)
    · exact h.okQ j
  · have es := h.sum
    have a1 := vf_split R 0 k (L + 1 - k)
    have a2 := vf_split R' 0 k (L + 1 - k)
    rw [show k + (L + 1 - k) = L + 1 by omega, Nat.zero_add] at a1 a2
    rw [vf_congr (F := R') (G := R) (o := 0) (n := k) (fun j a b => hout j (by omega)), t1] at a2
    rw [w1] at a1
    have q1 := vf_cons (upd Q k (vf R k (n + 2) / V)) k (L - n - (k + 1))
    rw [show L - n - (k + 1) + 1 = L - n - k by omega, vf_upd_out (F := Q) (o := k + 1) (.inl (by omega)), show upd Q k (vf R k (n + 2) / V) k = vf R k (n + 2) / V by unfold upd; rw [if_pos rfl]] at q1
    exact sum_step es a1 a2 q1
theorem ClInv.fin {x y s L n : Nat} {R Q : Nat → Nat} (h : ClInv (x * s) (y * s) L n 0 R Q) (hs : 0 < s) : vf Q 0 (L - n) = x / y ∧ vf R 0 (L + 1) = x % y * s := by
  have ht := h.tail
  have es := h.sum
  simp only [Nat.sub_zero, Nat.pow_zero, Nat.one_mul] at ht es
  have hq : vf Q 0 (L - n) = x * s / (y * s) := by
    rw [← es, Nat.add_mul_div_left _ _ (by omega), Nat.div_eq_of_lt ht, Nat.zero_add]
  have hr : vf R 0 (L + 1) = x * s % (y * s) := by
    rw [← es, Nat.add_mul_mod_self_left, Nat.mod_eq_of_lt ht]
  rw [hq, hr, Nat.mul_div_mul_right _ _ hs, Nat.mul_mod_mul_right]
  exact ⟨rfl, rfl⟩
end Go.Proofs.YtinhbmjfeabecaaDoor
namespace Go.Proofs.YtinhbmjfeabecaaDoor
open Go.RowKit

theorem Rw.only {w w' : World} {g g' N : Nat} {F : Nat → Nat} (h : Rw w g N F) (ho : Only g' w w') (hne : g ≠ g') : Rw w' g N F :=
  h.of_block (ho.block g h.lt (by intro e; injection e with e; exact hne e))
theorem Rw.below {w w' : World} {g N : Nat} {F : Nat → Nat} (h : Rw w g N F) {B : Nat} (hb : Below B w w') (hg : g < B) : Rw w' g N F := h.of_block (hb.block g hg)

/-- size{s}: one part in a new block. -/
theorem sz_one {w : World} {g s : Nat} (hc : w.cell? ⟨g, 0, none⟩ = some (.int .u32 (s : Int))) (hg : g < w.heap.size) : Sz w (some ⟨g, 0, none⟩) [s] :=
  .inr ⟨g, 0, rfl, hg, fun i hi => by
    have : i = 0 := by simp at hi; exact hi
    subst this; exact hc⟩
theorem mul_part (A : Option Addr) (l : List Nat) (L c s g : Nat) (w : World) (hL : l.length = L) (hA : Sz w A l) (ol : Ok l) (hl : L ≤ 1000) (hs : s < 1000000000) (hc : w.cell? ⟨g, 0, none⟩ = some (.int .u32 (s : Int))) (hg : g < w.heap.size) :
    Calls Tryd.prog 57 #[.slice A L c, .slice (some ⟨g, 0, none⟩) 1 1] w fun e w' => ∃ A' l' c', e = .returned (.slice A' l'.length c') ∧ Sz w' A' l' ∧ Ok l' ∧ Norm l' ∧ val l' = val l * s ∧ Below w.heap.size w w' := by
  subst hL
  refine (multiplied_any A (some ⟨g, 0, none⟩) l [s] c 1 w hA (sz_one hc hg) ol (by simpa [Ok] using hs) hl (by simp)).mono ?_
  rintro e w' ⟨v, rfl, ⟨A', l', c', rfl, h1, h2, h3, h4⟩, hb⟩
  exact ⟨A', l', c', rfl, h1, h2, h3, by rw [h4]; simp [val], hb⟩
theorem mul_part_len (A : Option Addr) (l : List Nat) (L c s g K : Nat) (w : World) (hL : l.length = L) (hA : Sz w A l) (ol : Ok l) (hl : L ≤ 1000) (hs : s < 1000000000) (hc : w.cell? ⟨g, 0, none⟩ = some (.int .u32 (s : Int))) (hg : g < w.heap.size)
    (h1 : 1000000000 ^ K ≤ val l * s) (h2 : val l * s < 1000000000 ^ (K + 1)) :
    Calls Tryd.prog 57 #[.slice A L c, .slice (some ⟨g, 0, none⟩) 1 1] w fun e w' => ∃ A' l' c', e = .returned (.slice A' (K + 1) c') ∧ l'.length = K + 1 ∧ Sz w' A' l' ∧ Ok l' ∧ val l' = val l * s ∧ Below w.heap.size w w' := by
  refine (mul_part A l L c s g w hL hA ol hl hs hc hg).mono ?_
  rintro e w' ⟨A', l', c', rfl, h3, h4, h5, h6, hb⟩
  have := len_of_bounds h4 h5 (by rw [h6]; exact h1) (by rw [h6]; exact h2)
  exact ⟨A', l', c', by rw [this], this, h3, h4, h6, hb⟩

theorem cell_new1 (w : World) (v : Value) : (w.alloc (.cells #[v] 81)).cell? ⟨w.heap.size, 0, none⟩ = some v := cell_of_one (heap_alloc_new w _)
theorem cell_new1' (w : World) (g : Nat) (v : Value) (hg : g = w.heap.size) : (w.alloc (.cells #[v] 81)).cell? ⟨g, 0, none⟩ = some v := by subst hg; exact cell_new1 w v
theorem Rw.sz_trim {w : World} {g N : Nat} {F : Nat → Nat} (h : Rw w g N F) (o n : Nat) (hn : o + n ≤ N) (hF : ∀ j, o ≤ j → j < o + n → F j < 1000000000) : Sz w (some ⟨g, o, none⟩) (trim (lst F o n)) := by
  obtain ⟨A, l, c, e, h1, h2, h3, h4⟩ := SzN.of_row h o n 0 hn hF
  have h5 := trim_le (lst F o n)
  refine .inr ⟨g, o, rfl, h.lt, fun i hi => ?_⟩
  rw [lst_length] at h5
  rw [h.cell (i := o + i) (by omega)]
  have h3 : (trim (lst F o n))[i]? = ((lst F o n).take (trim (lst F o n)).length)[i]? := by rw [← trim_take]
  rw [List.getElem?_take_of_lt hi, List.getElem?_eq_getElem hi, List.getElem?_eq_getElem (by rw [lst_length]; omega), lst_get] at h3
  rw [Option.some.inj h3]
def ClPost (x y : Nat) (w : World) (e : Ending) (w' : World) : Prop := ∃ v u, e = .returned (.tuple #[v, u]) ∧ SzN w' v (x / y) ∧ SzN w' u (x % y) ∧ Below w.heap.size w w'
end Go.Proofs.YtinhbmjfeabecaaDoor
namespace Go.Proofs.YtinhbmjfeabecaaDoor
open Go.RowKit

theorem SzN.nil (w : World) (c : Nat) : SzN w (.slice none 0 c) 0 := ⟨none, [], c, rfl, .inl ⟨rfl, rfl⟩, ok_nil, norm_nil, rfl⟩
theorem SzN.below {w w' : World} {v : Value} {x : Nat} (h : SzN w v x) (hb : Below w.heap.size w w') : SzN w' v x := by
  obtain ⟨A, l, c, e, h1, h2⟩ := h
  exact ⟨A, l, c, e, h1.below hb, h2⟩
theorem SzN.drawn {w w' : World} {v : Value} {x : Nat} (h : SzN w v x) (hb : Drawn w w') : SzN w' v x := by obtain ⟨n, rfl⟩ := hb; exact h
theorem Drawn.below {B : Nat} {w w' : World} (h : Drawn w w') : Below B w w' := by obtain ⟨n, rfl⟩ := h; exact ⟨rfl, rfl, rfl, Nat.le_refl _, fun _ _ => rfl⟩
theorem Rw.one (w : World) (v : Nat) : Rw (w.alloc (.cells #[.int .u32 (v : Int)] 81)) w.heap.size 1 (fun _ => v) :=
  World.rowIs_alloc w #[.int .u32 (v : Int)] _ _ fun i hi => by
    have : i = 0 := by simp at hi; exact hi
    subst this; rfl

end Go.Proofs.YtinhbmjfeabecaaDoor

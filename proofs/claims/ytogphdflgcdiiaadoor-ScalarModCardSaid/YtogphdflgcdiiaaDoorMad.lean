import Derived.Test.YtogphdflgcdiiaaDoorMac
import Derived.Deep.OwnRows
namespace Go.Proofs.YtogphdflgcdiiaaDoor
set_option linter.unusedVariables false
set_option linter.unusedSimpArgs false
open Go.RowKit

/-! ### A block that is a row of parts -/
def Rw (w : World) (g N : Nat) (F : Nat → Nat) : Prop := w.rowIs g 74 N (fun j => Value.int .u32 (F j : Nat))
def upd (F : Nat → Nat) (i x : Nat) : Nat → Nat := fun j => if j = i then x else F j
/-- The value of n parts from place o on. -/
def vf (F : Nat → Nat) (o : Nat) : Nat → Nat
  | 0 => 0
  | n + 1 => vf F o n + 1000000000 ^ n * F (o + n)
def lst (F : Nat → Nat) (o n : Nat) : List Nat := (List.range n).map fun i => F (o + i)
theorem lst_length (F : Nat → Nat) (o n : Nat) : (lst F o n).length = n := by simp [lst]
theorem lst_get (F : Nat → Nat) (o n i : Nat) (h : i < (lst F o n).length) : (lst F o n)[i] = F (o + i) := by simp [lst]
theorem lst_succ (F : Nat → Nat) (o n : Nat) : lst F o (n + 1) = lst F o n ++ [F (o + n)] := by simp [lst, List.range_succ]
theorem val_lst (F : Nat → Nat) (o n : Nat) : val (lst F o n) = vf F o n := by
  induction n with
  | zero => rfl
  | succ n ih => rw [lst_succ, val_snoc, ih, lst_length]; rfl
theorem vf_congr {F G : Nat → Nat} {o n : Nat} (h : ∀ j, o ≤ j → j < o + n → F j = G j) : vf F o n = vf G o n := by
  induction n with
  | zero => rfl
  | succ n ih => simp only [vf]; rw [ih (fun j h1 h2 => h j h1 (by omega)), h (o + n) (by omega) (by omega)]
theorem lst_ok {F : Nat → Nat} {o n : Nat} (h : ∀ j, o ≤ j → j < o + n → F j < 1000000000) : Ok (lst F o n) := by
  intro p hp
  simp only [lst, List.mem_map, List.mem_range] at hp
  obtain ⟨i, hi, rfl⟩ := hp
  exact h _ (by omega) (by omega)
theorem vf_upd_out {F : Nat → Nat} {o n i x : Nat} (h : i < o ∨ o + n ≤ i) : vf (upd F i x) o n = vf F o n :=
  vf_congr fun j h1 h2 => by unfold upd; rw [if_neg (by omega)]
theorem vf_lt {F : Nat → Nat} {o n : Nat} (h : ∀ j, o ≤ j → j < o + n → F j < 1000000000) : vf F o n < 1000000000 ^ n := by
  have := val_lt (lst_ok h); rwa [val_lst, lst_length] at this
theorem vf_split (F : Nat → Nat) (o k n : Nat) : vf F o (k + n) = vf F o k + 1000000000 ^ k * vf F (o + k) n := by
  induction n with
  | zero => simp [vf]
  | succ n ih =>
    show vf F o (k + n) + 1000000000 ^ (k + n) * F (o + (k + n)) = _
    rw [ih]
    show _ = vf F o k + 1000000000 ^ k * (vf F (o + k) n + 1000000000 ^ n * F (o + k + n))
    rw [Nat.mul_add, Nat.pow_add, Nat.mul_assoc (1000000000 ^ k) (1000000000 ^ n), Nat.add_assoc o k n]; omega
theorem val_take_succ (m : List Nat) (k : Nat) : val (m.take (k + 1)) = val (m.take k) + 1000000000 ^ k * m.getD k 0 := by
  by_cases h : k < m.length
  · rw [List.take_succ_eq_append_getElem h, val_snoc, List.length_take, Nat.min_eq_left (by omega), List.getD_eq_getElem?_getD, List.getElem?_eq_getElem h]; rfl
  · rw [List.take_of_length_le (by omega), List.take_of_length_le (by omega), List.getD_eq_getElem?_getD, List.getElem?_eq_none (by omega)]; simp

theorem Rw.cell {w : World} {g N : Nat} {F : Nat → Nat} (h : Rw w g N F) {i : Nat} (hi : i < N) : w.cell? ⟨g, i, none⟩ = some (.int .u32 (F i : Nat)) := World.rowIs.cell h hi
theorem Rw.frozen {w : World} {g N : Nat} {F : Nat → Nat} (h : Rw w g N F) (i : Nat) : w.frozen? ⟨g, i, none⟩ = false := World.rowIs.frozen h i
theorem Rw.lt {w : World} {g N : Nat} {F : Nat → Nat} (h : Rw w g N F) : g < w.heap.size := World.rowIs.lt h
theorem Rw.set {w : World} {g N : Nat} {F : Nat → Nat} (h : Rw w g N F) (i x : Nat) {v : Int} (hv : v = (x : Int)) : Rw (w.setCell ⟨g, i, none⟩ (.int .u32 v)) g N (upd F i x) := by
  subst hv
  refine (World.rowIs.set h i _).congr fun j _ => ?_
  unfold upd
  split <;> rfl
theorem Rw.congr {w : World} {g N : Nat} {F G : Nat → Nat} (h : Rw w g N F) (e : ∀ j, j < N → F j = G j) : Rw w g N G := World.rowIs.congr h fun j hj => by rw [e j hj]
theorem Rw.of_block {w w' : World} {g N : Nat} {F : Nat → Nat} (h : Rw w g N F) (e : w'.heap[g]? = w.heap[g]?) : Rw w' g N F := World.rowIs.of_block h e
theorem Rw.drewN {w : World} {g N : Nat} {F : Nat → Nat} (h : Rw w g N F) (n : Nat) : Rw (w.drewN n) g N F := h
theorem Rw.sz {w : World} {g N : Nat} {F : Nat → Nat} (h : Rw w g N F) (o n : Nat) (hn : o + n ≤ N) : Sz w (some ⟨g, o, none⟩) (lst F o n) :=
  .inr ⟨g, o, rfl, h.lt, fun i hi => by rw [lst_get]; rw [lst_length] at hi; exact h.cell (by omega)⟩

/-! ### Only one block turns -/
def Only (g : Nat) (w w' : World) : Prop := w.grownBy w' (some g)
theorem Only.refl (g : Nat) (w : World) : Only g w w := World.grownBy.refl w _
theorem Only.trans {g : Nat} {a b c : World} (h : Only g a b) (k : Only g b c) : Only g a c :=
  ⟨k.os.trans h.os, k.tape.trans h.tape, k.output.trans h.output, Nat.le_trans h.size k.size, fun i hi hne => (k.block i (Nat.lt_of_lt_of_le hi h.size) hne).trans (h.block i hi hne)⟩
theorem Only.setCell {g : Nat} {a w : World} (h : Only g a w) (i : Nat) (u : Value) : Only g a (w.setCell ⟨g, i, none⟩ u) :=
  ⟨h.os, h.tape, h.output, by simpa [World.setCell] using h.size, fun i hi hne => (Below.heap_setCell w _ u i (by rintro rfl; exact hne rfl)).trans (h.block i hi hne)⟩
theorem Only.drewN {g : Nat} {a w : World} (h : Only g a w) (n : Nat) : Only g a (w.drewN n) := ⟨h.os, h.tape, h.output, h.size, h.block⟩
theorem Only.of_drawn {g : Nat} {a w w' : World} (h : Only g a w) (hd : Drawn w w') : Only g a w' := by obtain ⟨n, rfl⟩ := hd; exact h.drewN n
theorem Only.of_below {g : Nat} {a w w' : World} (h : Only g a w) (hb : Below w.heap.size w w') : Only g a w' :=
  ⟨hb.os.trans h.os, hb.tape.trans h.tape, hb.output.trans h.output, Nat.le_trans h.size hb.size, fun i hi hne => (hb.block i (Nat.lt_of_lt_of_le hi h.size)).trans (h.block i hi hne)⟩
theorem Only.to_below {g B : Nat} {a w : World} (h : Only g a w) (hg : B ≤ g) (hB : B ≤ a.heap.size) : Below B a w :=
  ⟨h.os, h.tape, h.output, h.size, fun i hi => h.block i (by omega) (by intro e; injection e with e; omega)⟩
/-- What is read lies in another block. -/
def Off (A : Option Addr) (g : Nat) : Prop := ∀ a, A = some a → a.block ≠ g
theorem Sz.only {w w' : World} {A : Option Addr} {l : List Nat} {g : Nat} (h : Sz w A l) (ho : Off A g) (hb : Only g w w') : Sz w' A l := by
  rcases h with h | ⟨b, o, e, hlt, hc⟩
  · exact .inl h
  · have hne : b ≠ g := ho _ e
    exact .inr ⟨b, o, e, Nat.lt_of_lt_of_le hlt hb.size, fun i hi => (World.cell?_of_block (a := ⟨b, o + i, none⟩) (hb.block b hlt (by intro e; injection e with e; exact hne e))).trans (hc i hi)⟩
theorem Sz.drawn {w w' : World} {A : Option Addr} {l : List Nat} (h : Sz w A l) (hd : Drawn w w') : Sz w' A l := by obtain ⟨n, rfl⟩ := hd; exact h
theorem Sz.off {w : World} {A : Option Addr} {l : List Nat} (h : Sz w A l) {g : Nat} (hg : w.heap.size ≤ g) : Off A g := by
  rcases h with ⟨rfl, _⟩ | ⟨b, o, rfl, hlt, _⟩
  · intro a e; cases e
  · intro a e; injection e with e; subst e; show b ≠ g; omega

/-! ### raise -/
structure RaiseInv (F : Nat → Nat) (m : List Nat) (o k c : Nat) (F' : Nat → Nat) : Prop where
  le : c ≤ 1
  out : ∀ j, j < o ∨ o + k ≤ j → F' j = F j
  ok : ∀ j, o ≤ j → j < o + k → F' j < 1000000000
  eq : vf F' o k + 1000000000 ^ k * c = vf F o k + val (m.take k)
theorem RaiseInv.start (F : Nat → Nat) (m : List Nat) (o : Nat) : RaiseInv F m o 0 0 F := ⟨by omega, fun _ _ => rfl, fun _ h1 h2 => by omega, by simp [vf, val]⟩
theorem RaiseInv.step {F : Nat → Nat} {m : List Nat} {o k c : Nat} {F' : Nat → Nat} (h : RaiseInv F m o k c F') (hF : F (o + k) < 1000000000) (hm : Ok m) {x : Nat} (hx : x = c + F (o + k) + m.getD k 0) :
    RaiseInv F m o (k + 1) (x / 1000000000) (upd F' (o + k) (x % 1000000000)) := by
  have h1 := h.le
  have h2 := ok_getD hm k
  refine ⟨by omega, fun j hj => ?_, fun j h3 h4 => ?_, ?_⟩
  · unfold upd; rw [if_neg (by omega)]; exact h.out j (by omega)
  · unfold upd; split
    · exact Nat.mod_lt _ (by decide)
    · exact h.ok j h3 (by omega)
  · simp only [vf]
    rw [vf_upd_out (.inr (by omega)), val_take_succ]
    have h3 := h.eq
    have h4 : upd F' (o + k) (x % 1000000000) (o + k) = x % 1000000000 := by unfold upd; rw [if_pos rfl]
    rw [h4, Nat.pow_succ]
    have h5 := Nat.div_add_mod x 1000000000
    have h6 : 1000000000 ^ k * (x % 1000000000) + 1000000000 ^ k * 1000000000 * (x / 1000000000) = 1000000000 ^ k * x := by
      rw [Nat.mul_assoc, ← Nat.mul_add]; congr 1; omega
    have h7 : 1000000000 ^ k * x = 1000000000 ^ k * c + 1000000000 ^ k * F (o + k) + 1000000000 ^ k * m.getD k 0 := by rw [hx, Nat.mul_add, Nat.mul_add]
    omega

set_option maxHeartbeats 800000 in
theorem raise_any (g o n ca N : Nat) (F : Nat → Nat) (B : Option Addr) (m : List Nat) (cb : Nat) (w : World) (hR : Rw w g N F) (hF : ∀ j, o ≤ j → j < o + n → F j < 1000000000) (hn : o + n ≤ N) (hN : N ≤ maxLen)
    (hB : Sz w B m) (hO : Off B g) (om : Ok m) (hm : m.length ≤ maxLen) :
    Calls Tryd.prog 77 #[.slice (some ⟨g, o, none⟩) n ca, .slice B m.length cb] w fun e w' => ∃ c F', e = .returned (.bool (decide (0 < c))) ∧ RaiseInv F m o n c F' ∧ Rw w' g N F' ∧ Only g w w' := by
  unfold maxLen at hN hm
  go_enter Tryd.func77, Tryd.ntmps77
  go_wp2_with fail
  go_loopw [5, 9] (fun c i wr => ∃ (k cN : Nat) (F' : Nat → Nat), k ≤ n ∧ i = .int .i64 k ∧ c = .int .u32 cN ∧ RaiseInv F m o k cN F' ∧ Rw wr g N F' ∧ Only g w wr) (fun _ i _ => n - (intOf i).toNat)
  case atStart => exact ⟨0, 0, F, Nat.zero_le _, rfl, rfl, RaiseInv.start _ _ _, hR, Only.refl _ _⟩
  case round =>
    obtain ⟨k, cN, F', hk, rfl, rfl, hI, hR', hW⟩ := hrel
    by_cases hlt : k < n
    · have c1 := hI.le
      have hFk := hF (o + k) (by omega) (by omega)
      have e0 : F' (o + k) = F (o + k) := hI.out _ (by omega)
      have hcell := hR'.cell (i := o + k) (by omega)
      have hfz := hR'.frozen (o + k)
      rw [e0] at hcell
      by_cases hmk : k < m.length
      · obtain ⟨b, o', rfl, hlt', hcell'⟩ := (hB.only hO hW).at_ (by rintro rfl; simp at hmk)
        have hcm := hcell' k hmk
        have hmk2 := ok_get om hmk
        have hst := hI.step hFk om (x := cN + F (o + k) + m[k]) (by rw [List.getD_eq_getElem?_getD, List.getElem?_eq_getElem hmk]; rfl)
        clear e0 hF hcell'
        go_wp2_with fail
        go_roundw
        case rel => exact ⟨k + 1, _, _, by omega, by go_num, by rfl, hst, hR'.set _ _ (by rfl), hW.setCell _ _⟩
        case measure => simp [intOf]; omega
      · have hst := hI.step hFk om (x := cN + F (o + k)) (by rw [List.getD_eq_getElem?_getD, List.getElem?_eq_none (by omega)]; rfl)
        clear e0 hF
        go_wp2_with fail
        go_roundw
        case rel => exact ⟨k + 1, _, _, by omega, by go_num, by rfl, hst, hR'.set _ _ (by rfl), hW.setCell _ _⟩
        case measure => simp [intOf]; omega
    · have hkn : k = n := by omega
      subst hkn
      go_wp2_with fail
      go_ret
      exact ⟨cN, F', by simp, hI, hR', hW⟩
end Go.Proofs.YtogphdflgcdiiaaDoor

import Derived.Test.YtlhbejeninjmoaaGreatDoorMaa
import Derived.Deep.OwnRows
import Derived.Laws.CopyOwn
namespace Go.Proofs.YtlhbejeninjmoaaGreatDoor
set_option linter.unusedVariables false
set_option linter.unusedSimpArgs false
open Go.RowKit

/-! ### A block that is a row of parts -/
def Rw (w : World) (g N : Nat) (F : Nat → Nat) : Prop := w.rowIs g 116 N (fun j => Value.int .u32 (F j : Nat))
def upd (F : Nat → Nat) (i x : Nat) : Nat → Nat := fun j => if j = i then x else F j
/-- The value of n parts from place o on. -/
def vf (F : Nat → Nat) (o : Nat) : Nat → Nat
  | 0 => 0
  | n + 1 => vf F o n + 1000000000 ^ n * F (o + n)
def lst (F : Nat → Nat) (o n : Nat) : List Nat := (List.range n).map fun i => F (o + i)
theorem lst_length (F : Nat → Nat) (o n : Nat) : (lst F o n).length = n := by simp [lst]
theorem lst_get (F : Nat → Nat) (o n i : Nat) (h : i < (lst F o n).length) : (lst F o n)[i] = F (o + i) := by simp [lst]
theorem lst_succ (F : Nat → Nat) (o n : Nat) : lst F o (n + 1) = lst F o n ++ [F (o + n)] := by simp [lst, List.range_succ]
theorem val_lst (F : Nat → Nat) (o n : Nat) : val (lst F o n) = vf F o n := by
  induction n with
  | zero => rfl
  | succ n ih => rw [lst_succ, val_snoc, ih, lst_length]; rfl
theorem vf_congr {F G : Nat → Nat} {o n : Nat} (h : ∀ j, o ≤ j → j < o + n → F j = G j) : vf F o n = vf G o n := by
  induction n with
  | zero => rfl
  | succ n ih => simp only [vf]; rw [ih (fun j h1 h2 => h j h1 (by omega)), h (o + n) (by omega) (by omega)]
theorem lst_ok {F : Nat → Nat} {o n : Nat} (h : ∀ j, o ≤ j → j < o + n → F j < 1000000000) : Ok (lst F o n) := by
  intro p hp
  simp only [lst, List.mem_map, List.mem_range] at hp
  obtain ⟨i, hi, rfl⟩ := hp
  exact h _ (by omega) (by omega)
theorem vf_upd_out {F : Nat → Nat} {o n i x : Nat} (h : i < o ∨ o + n ≤ i) : vf (upd F i x) o n = vf F o n :=
  vf_congr fun j h1 h2 => by unfold upd; rw [if_neg (by omega)]
theorem vf_lt {F : Nat → Nat} {o n : Nat} (h : ∀ j, o ≤ j → j < o + n → F j < 1000000000) : vf F o n < 1000000000 ^ n := by
  have := val_lt (lst_ok h); rwa [val_lst, lst_length] at this
theorem vf_split (F : Nat → Nat) (o k n : Nat) : vf F o (k + n) = vf F o k + 1000000000 ^ k * vf F (o + k) n := by
  induction n with
  | zero => simp [vf]
  | succ n ih =>
    show vf F o (k + n) + 1000000000 ^ (k + n) * F (o + (k + n)) = _
    rw [ih]
    show _ = vf F o k + 1000000000 ^ k * (vf F (o + k) n + 1000000000 ^ n * F (o + k + n))
    rw [Nat.mul_add, Nat.pow_add, Nat.mul_assoc (1000000000 ^ k) (1000000000 ^ n), Nat.add_assoc o k n]; omega
theorem val_take_succ (m : List Nat) (k : Nat) : val (m.take (k + 1)) = val (m.take k) + 1000000000 ^ k * m.getD k 0 := by
  by_cases h : k < m.length
  · rw [List.take_succ_eq_append_getElem h, val_snoc, List.length_take, Nat.min_eq_left (by omega), List.getD_eq_getElem?_getD, List.getElem?_eq_getElem h]; rfl
  · rw [List.take_of_length_le (by omega), List.take_of_length_le (by omega), List.getD_eq_getElem?_getD, List.getElem?_eq_none (by omega)]; simp

theorem Rw.cell {w : World} {g N : Nat} {F : Nat → Nat} (h : Rw w g N F) {i : Nat} (hi : i < N) : w.cell? ⟨g, i, none⟩ = some (.int .u32 (F i : Nat)) := World.rowIs.cell h hi
theorem Rw.frozen {w : World} {g N : Nat} {F : Nat → Nat} (h : Rw w g N F) (i : Nat) : w.frozen? ⟨g, i, none⟩ = false := World.rowIs.frozen h i
theorem Rw.lt {w : World} {g N : Nat} {F : Nat → Nat} (h : Rw w g N F) : g < w.heap.size := World.rowIs.lt h
theorem Rw.set {w : World} {g N : Nat} {F : Nat → Nat} (h : Rw w g N F) (i x : Nat) {v : Int} (hv : v = (x : Int)) : Rw (w.setCell ⟨g, i, none⟩ (.int .u32 v)) g N (upd F i x) := by
  subst hv
  refine (World.rowIs.set h i _).congr fun j _ => ?_
  unfold upd
  split <;> rfl
theorem Rw.congr {w : World} {g N : Nat} {F G : Nat → Nat} (h : Rw w g N F) (e : ∀ j, j < N → F j = G j) : Rw w g N G := World.rowIs.congr h fun j hj => by rw [e j hj]
theorem Rw.of_block {w w' : World} {g N : Nat} {F : Nat → Nat} (h : Rw w g N F) (e : w'.heap[g]? = w.heap[g]?) : Rw w' g N F := World.rowIs.of_block h e
theorem Rw.drewN {w : World} {g N : Nat} {F : Nat → Nat} (h : Rw w g N F) (n : Nat) : Rw (w.drewN n) g N F := h
theorem Rw.sz {w : World} {g N : Nat} {F : Nat → Nat} (h : Rw w g N F) (o n : Nat) (hn : o + n ≤ N) : Sz w (some ⟨g, o, none⟩) (lst F o n) :=
  .inr ⟨g, o, rfl, h.lt, fun i hi => by rw [lst_get]; rw [lst_length] at hi; exact h.cell (by omega)⟩

/-! ### Only one block turns -/
def Only (g : Nat) (w w' : World) : Prop := w.grownBy w' (some g)
theorem Only.refl (g : Nat) (w : World) : Only g w w := World.grownBy.refl w _
theorem Only.trans {g : Nat} {a b c : World} (h : Only g a b) (k : Only g b c) : Only g a c :=
  ⟨k.os.trans h.os, k.tape.trans h.tape, k.output.trans h.output, Nat.le_trans h.size k.size, fun i hi hne => (k.block i (Nat.lt_of_lt_of_le hi h.size) hne).trans (h.block i hi hne)⟩
theorem Only.setCell {g : Nat} {a w : World} (h : Only g a w) (i : Nat) (u : Value) : Only g a (w.setCell ⟨g, i, none⟩ u) :=
  ⟨h.os, h.tape, h.output, by simpa [World.setCell] using h.size, fun i hi hne => (Below.heap_setCell w _ u i (by rintro rfl; exact hne rfl)).trans (h.block i hi hne)⟩
theorem Only.drewN {g : Nat} {a w : World} (h : Only g a w) (n : Nat) : Only g a (w.drewN n) := ⟨h.os, h.tape, h.output, h.size, h.block⟩
theorem Only.of_drawn {g : Nat} {a w w' : World} (h : Only g a w) (hd : Drawn w w') : Only g a w' := by obtain ⟨n, rfl⟩ := hd; exact h.drewN n
theorem Only.of_below {g : Nat} {a w w' : World} (h : Only g a w) (hb : Below w.heap.size w w') : Only g a w' :=
  ⟨hb.os.trans h.os, hb.tape.trans h.tape, hb.output.trans h.output, Nat.le_trans h.size hb.size, fun i hi hne => (hb.block i (Nat.lt_of_lt_of_le hi h.size)).trans (h.block i hi hne)⟩
theorem Only.to_below {g B : Nat} {a w : World} (h : Only g a w) (hg : B ≤ g) (hB : B ≤ a.heap.size) : Below B a w :=
  ⟨h.os, h.tape, h.output, h.size, fun i hi => h.block i (by omega) (by intro e; injection e with e; omega)⟩
/-- What is read lies in another block. -/
def Off (A : Option Addr) (g : Nat) : Prop := ∀ a, A = some a → a.block ≠ g
theorem Sz.only {w w' : World} {A : Option Addr} {l : List Nat} {g : Nat} (h : Sz w A l) (ho : Off A g) (hb : Only g w w') : Sz w' A l := by
  rcases h with h | ⟨b, o, e, hlt, hc⟩
  · exact .inl h
  · have hne : b ≠ g := ho _ e
    exact .inr ⟨b, o, e, Nat.lt_of_lt_of_le hlt hb.size, fun i hi => (World.cell?_of_block (a := ⟨b, o + i, none⟩) (hb.block b hlt (by intro e; injection e with e; exact hne e))).trans (hc i hi)⟩
theorem Sz.drawn {w w' : World} {A : Option Addr} {l : List Nat} (h : Sz w A l) (hd : Drawn w w') : Sz w' A l := by obtain ⟨n, rfl⟩ := hd; exact h
theorem Sz.off {w : World} {A : Option Addr} {l : List Nat} (h : Sz w A l) {g : Nat} (hg : w.heap.size ≤ g) : Off A g := by
  rcases h with ⟨rfl, _⟩ | ⟨b, o, rfl, hlt, _⟩
  · intro a e; cases e
  · intro a e; injection e with e; subst e; show b ≠ g; omega

/-! ### raise -/
structure RaiseInv (F : Nat → Nat) (m : List Nat) (o k c : Nat) (F' : Nat → Nat) : Prop where
  le : c ≤ 1
  out : ∀ j, j < o ∨ o + k ≤ j → F' j = F j
  ok : ∀ j, o ≤ j → j < o + k → F' j < 1000000000
  eq : vf F' o k + 1000000000 ^ k * c = vf F o k + val (m.take k)
theorem RaiseInv.start (F : Nat → Nat) (m : List Nat) (o : Nat) : RaiseInv F m o 0 0 F := ⟨by omega, fun _ _ => rfl, fun _ h1 h2 => by omega, by simp [vf, val]⟩
theorem RaiseInv.step {F : Nat → Nat} {m : List Nat} {o k c : Nat} {F' : Nat → Nat} (h : RaiseInv F m o k c F') (hF : F (o + k) < 1000000000) (hm : Ok m) {x : Nat} (hx : x = c + F (o + k) + m.getD k 0) :
    RaiseInv F m o (k + 1) (x / 1000000000) (upd F' (o + k) (x % 1000000000)) := by
  have h1 := h.le
  have h2 := ok_getD hm k
  refine ⟨by omega, fun j hj => ?_, fun j h3 h4 => ?_, ?_⟩
  · unfold upd; rw [if_neg (by omega)]; exact h.out j (by omega)
  · unfold upd; split
    · exact Nat.mod_lt _ (by decide)
    · exact h.ok j h3 (by omega)
  · simp only [vf]
    rw [vf_upd_out (.inr (by omega)), val_take_succ]
    have h3 := h.eq
    have h4 : upd F' (o + k) (x % 1000000000) (o + k) = x % 1000000000 := by unfold upd; rw [if_pos rfl]
    rw [h4, Nat.pow_succ]
    have h5 := Nat.div_add_mod x 1000000000
    have h6 : 1000000000 ^ k * (x % 1000000000) + 1000000000 ^ k * 1000000000 * (x / 1000000000) = 1000000000 ^ k * x := by
      rw [Nat.mul_assoc, ← Nat.mul_add]; congr 1; omega
    have h7 : 1000000000 ^ k * x = 1000000000 ^ k * c + 1000000000 ^ k * F (o + k) + 1000000000 ^ k * m.getD k 0 := by rw [hx, Nat.mul_add, Nat.mul_add]
    omega

set_option maxHeartbeats 800000 in
theorem raise_any (g o n ca N : Nat) (F : Nat → Nat) (B : Option Addr) (m : List Nat) (cb : Nat) (w : World) (hR : Rw w g N F) (hF : ∀ j, o ≤ j → j < o + n → F j < 1000000000) (hn : o + n ≤ N) (hN : N ≤ maxLen)
    (hB : Sz w B m) (hO : Off B g) (om : Ok m) (hm : m.length ≤ maxLen) :
    Calls Tryz.prog 133 #[.slice (some ⟨g, o, none⟩) n ca, .slice B m.length cb] w fun e w' => ∃ c F', e = .returned (.bool (decide (0 < c))) ∧ RaiseInv F m o n c F' ∧ Rw w' g N F' ∧ Only g w w' := by
  unfold maxLen at hN hm
  go_enter Tryz.func133, Tryz.ntmps133
  go_wp2_with fail
  go_loopw [5, 9] (fun c i wr => ∃ (k cN : Nat) (F' : Nat → Nat), k ≤ n ∧ i = .int .i64 k ∧ c = .int .u32 cN ∧ RaiseInv F m o k cN F' ∧ Rw wr g N F' ∧ Only g w wr) (fun _ i _ => n - (intOf i).toNat)
  case atStart => exact ⟨0, 0, F, Nat.zero_le _, rfl, rfl, RaiseInv.start _ _ _, hR, Only.refl _ _⟩
  case round =>
    obtain ⟨k, cN, F', hk, rfl, rfl, hI, hR', hW⟩ := hrel
    by_cases hlt : k < n
    · have c1 := hI.le
      have hFk := hF (o + k) (by omega) (by omega)
      have e0 : F' (o + k) = F (o + k) := hI.out _ (by omega)
      have hcell := hR'.cell (i := o + k) (by omega)
      have hfz := hR'.frozen (o + k)
      rw [e0] at hcell
      by_cases hmk : k < m.length
      · obtain ⟨b, o', rfl, hlt', hcell'⟩ := (hB.only hO hW).at_ (by rintro rfl; simp at hmk)
        have hcm := hcell' k hmk
        have hmk2 := ok_get om hmk
        have hst := hI.step hFk om (x := cN + F (o + k) + m[k]) (by rw [List.getD_eq_getElem?_getD, List.getElem?_eq_getElem hmk]; rfl)
        clear e0 hF hcell'
        go_wp2_with fail
        go_roundw
        case rel => exact ⟨k + 1, _, _, by omega, by go_num, by rfl, hst, hR'.set _ _ (by rfl), hW.setCell _ _⟩
        case measure => simp [intOf]; omega
      · have hst := hI.step hFk om (x := cN + F (o + k)) (by rw [List.getD_eq_getElem?_getD, List.getElem?_eq_none (by omega)]; rfl)
        clear e0 hF
        go_wp2_with fail
        go_roundw
        case rel => exact ⟨k + 1, _, _, by omega, by go_num, by rfl, hst, hR'.set _ _ (by rfl), hW.setCell _ _⟩
        case measure => simp [intOf]; omega
    · have hkn : k = n := by omega
      subst hkn
      go_wp2_with fail
      go_ret
      exact ⟨cN, F', by simp, hI, hR', hW⟩
end Go.Proofs.YtlhbejeninjmoaaGreatDoor
namespace Go.Proofs.YtlhbejeninjmoaaGreatDoor
set_option linter.unusedVariables false
set_option linter.unusedSimpArgs false
open Go.RowKit

theorem upd_upd (F : Nat → Nat) (i x y : Nat) : upd (upd F i x) i y = upd F i y := by
  funext j; unfold upd; split <;> rfl

structure LowerInv (F : Nat → Nat) (m : List Nat) (q o k c : Nat) (F' : Nat → Nat) : Prop where
  le : c ≤ 2000000002
  out : ∀ j, j < o ∨ o + k ≤ j → F' j = F j
  ok : ∀ j, o ≤ j → j < o + k → F' j < 1000000000
  eq : vf F' o k + q * val (m.take k) = vf F o k + 1000000000 ^ k * c
theorem LowerInv.start (F : Nat → Nat) (m : List Nat) (q o : Nat) : LowerInv F m q o 0 0 F := ⟨by omega, fun _ _ => rfl, fun _ h1 h2 => by omega, by simp [vf, val]⟩
theorem mul_le_bd {q x : Nat} (hq : q ≤ 2000000000) (hx : x < 1000000000) : q * x ≤ 1999999998000000000 :=
  Nat.le_trans (Nat.mul_le_mul hq (show x ≤ 999999999 by omega)) (by decide)
theorem LowerInv.step {F : Nat → Nat} {m : List Nat} {q o k c : Nat} {F' : Nat → Nat} (h : LowerInv F m q o k c F') (hF : F (o + k) < 1000000000) (hm : Ok m) (hq : q ≤ 2000000000)
    {y c' : Nat} (hy : y < 1000000000) (hy2 : y + (c + q * m.getD k 0) = F (o + k) + 1000000000 * c') (hc' : c' ≤ 2000000002) : LowerInv F m q o (k + 1) c' (upd F' (o + k) y) := by
  refine ⟨hc', fun j hj => ?_, fun j h3 h4 => ?_, ?_⟩
  · unfold upd; rw [if_neg (by omega)]; exact h.out j (by omega)
  · unfold upd; split
    · exact hy
    · exact h.ok j h3 (by omega)
  · simp only [vf]
    rw [vf_upd_out (.inr (by omega)), val_take_succ]
    have h3 := h.eq
    have h4 : upd F' (o + k) y (o + k) = y := by unfold upd; rw [if_pos rfl]
    rw [h4, Nat.pow_succ]
    have h6 := congrArg (fun z => 1000000000 ^ k * z) hy2
    simp only [Nat.mul_add] at h6
    rw [Nat.mul_add]
    have h7 : q * (1000000000 ^ k * m.getD k 0) = 1000000000 ^ k * (q * m.getD k 0) := by rw [Nat.mul_left_comm]
    have h8 : 1000000000 ^ k * 1000000000 * c' = 1000000000 ^ k * (1000000000 * c') := by rw [Nat.mul_assoc]
    omega
/-- One round where the part is not above what stands there. -/
theorem LowerInv.step_ge {F : Nat → Nat} {m : List Nat} {q o k c : Nat} {F' : Nat → Nat} (h : LowerInv F m q o k c F') (hF : F (o + k) < 1000000000) (hm : Ok m) (hq : q ≤ 2000000000)
    {x : Nat} (hx : x = c + q * m.getD k 0) (hge : x % 1000000000 ≤ F (o + k)) : LowerInv F m q o (k + 1) (x / 1000000000) (upd F' (o + k) (F (o + k) - x % 1000000000)) := by
  have h1 := mul_le_bd hq (ok_getD hm k)
  have h2 := h.le
  exact h.step hF hm hq (by omega) (by omega) (by omega)
theorem LowerInv.step_lt {F : Nat → Nat} {m : List Nat} {q o k c : Nat} {F' : Nat → Nat} (h : LowerInv F m q o k c F') (hF : F (o + k) < 1000000000) (hm : Ok m) (hq : q ≤ 2000000000)
    {x : Nat} (hx : x = c + q * m.getD k 0) (hge : F (o + k) < x % 1000000000) : LowerInv F m q o (k + 1) (x / 1000000000 + 1) (upd F' (o + k) (F (o + k) + 1000000000 - x % 1000000000)) := by
  have h1 := mul_le_bd hq (ok_getD hm k)
  have h2 := h.le
  exact h.step hF hm hq (by omega) (by omega) (by omega)

set_option maxHeartbeats 1600000 in
theorem lower_any (g o n ca N : Nat) (F : Nat → Nat) (B : Option Addr) (m : List Nat) (cb : Nat) (q : Nat) (w : World) (hR : Rw w g N F) (hF : ∀ j, o ≤ j → j < o + n → F j < 1000000000) (hn : o + n ≤ N) (hN : N ≤ maxLen)
    (hB : Sz w B m) (hO : Off B g) (om : Ok m) (hm : m.length ≤ maxLen) (hq : q ≤ 2000000000) :
    Calls Tryz.prog 137 #[.slice (some ⟨g, o, none⟩) n ca, .slice B m.length cb, .int .u64 q] w fun e w' => ∃ c F', e = .returned (.bool (decide (0 < c))) ∧ LowerInv F m q o n c F' ∧ Rw w' g N F' ∧ Only g w w' := by
  unfold maxLen at hN hm
  go_enter Tryz.func137, Tryz.ntmps137
  go_wp2_with fail
  go_loopw [7, 12] (fun c i wr => ∃ (k cN : Nat) (F' : Nat → Nat), k ≤ n ∧ i = .int .i64 k ∧ c = .int .u64 cN ∧ LowerInv F m q o k cN F' ∧ Rw wr g N F' ∧ Only g w wr) (fun _ i _ => n - (intOf i).toNat)
  case atStart => exact ⟨0, 0, F, Nat.zero_le _, rfl, rfl, LowerInv.start _ _ _ _, hR, Only.refl _ _⟩
  case round =>
    obtain ⟨k, cN, F', hk, rfl, rfl, hI, hR', hW⟩ := hrel
    by_cases hlt : k < n
    · have c1 := hI.le
      have hFk := hF (o + k) (by omega) (by omega)
      have e0 : F' (o + k) = F (o + k) := hI.out _ (by omega)
      have hcell := hR'.cell (i := o + k) (by omega)
      have hfz := hR'.frozen (o + k)
      rw [e0] at hcell
      by_cases hmk : k < m.length
      · obtain ⟨b, o', rfl, hlt', hcell'⟩ := (hB.only hO hW).at_ (by rintro rfl; simp at hmk)
        have hcm := hcell' k hmk
        have hmk2 := ok_get om hmk
        have em : m.getD k 0 = m[k] := by rw [List.getD_eq_getElem?_getD, List.getElem?_eq_getElem hmk]; rfl
        have hbd := mul_le_bd hq hmk2
        obtain ⟨p, hp⟩ : ∃ p, p = q * m[k] := ⟨_, rfl⟩
        have hp2 : (q : Int) * (m[k] : Int) = (p : Int) := by rw [hp]; push_cast; rfl
        rw [← hp] at hbd
        by_cases hge : (cN + p) % 1000000000 ≤ F (o + k)
        · have hst := hI.step_ge hFk om hq (x := cN + p) (by rw [em, hp]) hge
          have HP := Lib.hid hp
          clear e0 hF hcell' em hp
          go_wp2_with fail
          go_roundw
          case rel => exact ⟨k + 1, _, _, by omega, by go_num, by rfl, hst, hR'.set _ _ (by omega), hW.setCell _ _⟩
          case measure => simp [intOf]; omega
        · have hst := hI.step_lt hFk om hq (x := cN + p) (by rw [em, hp]) (by omega)
          have HP := Lib.hid hp
          clear e0 hF hcell' em hp
          have h32 : F (o + k) + 1000000000 ≤ 4294967295 := by omega
          go_wp2_with fail
          go_roundw
          case rel => exact ⟨k + 1, _, _, by omega, by go_num, by rfl, hst, by rw [← upd_upd F' (o + k) (F (o + k) + 1000000000)]; exact (hR'.set _ _ (by omega)).set _ _ (by omega), (hW.setCell _ _).setCell _ _⟩
          case measure => simp [intOf]; omega
      · have em : m.getD k 0 = 0 := by rw [List.getD_eq_getElem?_getD, List.getElem?_eq_none (by omega)]; rfl
        by_cases hge : cN % 1000000000 ≤ F (o + k)
        · have hst := hI.step_ge hFk om hq (x := cN) (by rw [em, Nat.mul_zero, Nat.add_zero]) hge
          clear e0 hF em
          go_wp2_with fail
          go_roundw
          case rel => exact ⟨k + 1, _, _, by omega, by go_num, by rfl, hst, hR'.set _ _ (by omega), hW.setCell _ _⟩
          case measure => simp [intOf]; omega
        · have hst := hI.step_lt hFk om hq (x := cN) (by rw [em, Nat.mul_zero, Nat.add_zero]) (by omega)
          clear e0 hF em
          have h32 : F (o + k) + 1000000000 ≤ 4294967295 := by omega
          go_wp2_with fail
          go_roundw
          case rel => exact ⟨k + 1, _, _, by omega, by go_num, by rfl, hst, by rw [← upd_upd F' (o + k) (F (o + k) + 1000000000)]; exact (hR'.set _ _ (by omega)).set _ _ (by omega), (hW.setCell _ _).setCell _ _⟩
          case measure => simp [intOf]; omega
    · have hkn : k = n := by omega
      subst hkn
      go_wp2_with fail
      go_ret
      exact ⟨cN, F', by simp, hI, hR', hW⟩
end Go.Proofs.YtlhbejeninjmoaaGreatDoor
namespace Go.Proofs.YtlhbejeninjmoaaGreatDoor
set_option linter.unusedVariables false
set_option linter.unusedSimpArgs false
open Go.RowKit

theorem info32 : (Tryz.prog.info? 116).map (fun i => (i.zero, i.size, i.bytes)) = some (some (.int .u32 0), 1, 4) := by kernel_rfl
theorem info32s : (Tryz.prog.info? 116).map (·.size) = some 1 := by kernel_rfl

/-- make(size, n). -/
theorem run_mk (n : Nat) (hn : n ≤ 1000000) (w : World) :
    (Instr.makeSlice 95 (.int .i64 (n : Int)) (.int .i64 (n : Int))).run Tryz.prog w = .ok (.slice (some ⟨w.heap.size, 0, none⟩) n n) (w.alloc (.cells (madeCells #[.int .u32 0] n) 116)) :=
  run_make_row' 95 116 _ 4 Tryz.underlying95 info32 rfl _ _ n (by omega) (by omega) w
theorem run_mkz (n : Nat) (z : Int) (hz : z = (n : Int)) (hn : n ≤ 1000000) (w : World) :
    (Instr.makeSlice 95 (.int .i64 z) (.int .i64 z)).run Tryz.prog w = .ok (.slice (some ⟨w.heap.size, 0, none⟩) n n) (w.alloc (.cells (madeCells #[.int .u32 0] n) 116)) := by
  subst hz; exact run_mk n hn w
theorem Rw.made (w : World) (n : Nat) : Rw (w.alloc (.cells (madeCells #[.int .u32 0] n) 116)) w.heap.size n (fun _ => 0) := World.rowIs_made w _ n _

/-- copy(d, s), d a whole row of the call's own. -/
def over (l : List Nat) (F : Nat → Nat) : Nat → Nat := fun j => if j < l.length then l.getD j 0 else F j
theorem wpList_copy_sz {w : World} {ops : Array Oper} {rest : List Oper} {o : Oper} {a : Act} {Q : Exit → Act → World → Prop} (hgd : o.guard = none) (d s : Operand)
    (ho : o.op = .call { callee := .builtin .copy, args := #[d, s], argTypes := #[95, 95] }) (g n ca : Nat) (F : Nat → Nat) (A : Option Addr) (l : List Nat) (c : Nat)
    (hd : a.eval d = .slice (some ⟨g, 0, none⟩) n ca) (hs : a.eval s = .slice A l.length c) (hR : Rw w g n F) (hS : Sz w A l) (hle : l.length ≤ n)
    (h : ∀ w', Rw w' g n (over l F) → Only g w w' → wpList Tryz.prog ops Q rest (a.put o.dst (goInt l.length)) w') : wpList Tryz.prog ops Q (o :: rest) a w := by
  by_cases h0 : l = []
  · subst h0
    refine wpList_copy_nothing hgd d s _ _ ho 116 Tryz.underlying95 info32s _ _ _ _ _ _ hd hs (by simp) ?_
    exact h w (hR.congr fun j _ => by simp [over]) (Only.refl _ _)
  · obtain ⟨b, o', rfl, hlt, hcell⟩ := hS.at_ h0
    obtain ⟨cur, hg, hsz, hc⟩ := hR
    have hlen : (l.map fun p => Value.int .u32 (p : Nat)).length = l.length := by simp
    refine wpList_copy_own hgd d s _ _ ho 116 Tryz.underlying95 info32s g 0 n ca ⟨b, o', none⟩ l.length c hd hs cur 116 hg (l.map fun p => Value.int .u32 (p : Nat)) (by rw [hlen]; exact (Nat.min_eq_left hle).symm) ?_ (by rw [hlen]; omega) (by simp [Value.oneCell']) ?_
    · intro j v hj
      simp only [List.getElem?_map, Option.map_eq_some_iff] at hj
      obtain ⟨p, hp, rfl⟩ := hj
      obtain ⟨hjl, rfl⟩ := List.getElem?_eq_some_iff.1 hp
      rw [show (⟨b, o', none⟩ : Addr).add j = ⟨b, o' + j, none⟩ by unfold Addr.add; split <;> simp_all]; exact hcell j hjl
    · rw [hlen]
      refine h _ ⟨_, setRow_heap w g _ _ _ _ hg, by simp; omega, fun i hi => ?_⟩ ⟨rfl, rfl, rfl, by simp [World.setRow], fun k _ hk => setRow_other w g k _ (by intro e; exact hk (by rw [e]))⟩
      show _ = some (Value.int .u32 ((if i < l.length then l.getD i 0 else F i : Nat) : Int))
      by_cases hi2 : i < l.length
      · rw [if_pos hi2]
        simp [hi2, List.getElem?_append_left]
      · rw [if_neg hi2]
        simp only [List.take_zero, List.nil_append, List.getElem?_toArray, Nat.zero_add]
        rw [List.getElem?_append_right (by simp; omega), List.getElem?_drop]
        simp only [List.length_map]
        rw [show l.length + (i - l.length) = i by omega]
        have := hc i hi
        simpa using this
theorem vf_over (l : List Nat) (F : Nat → Nat) : vf (over l F) 0 l.length = val l := by
  rw [← val_lst]
  congr 1
  refine List.ext_getElem (by simp [lst]) fun i h1 h2 => ?_
  rw [lst_get, Nat.zero_add]
  unfold over
  rw [if_pos h2, List.getD_eq_getElem?_getD, List.getElem?_eq_getElem h2]; rfl
theorem vf_over_zero (l : List Nat) {n : Nat} (h : l.length ≤ n) : vf (over l (fun _ => 0)) 0 n = val l := by
  obtain ⟨k, rfl⟩ : ∃ k, n = l.length + k := ⟨n - l.length, by omega⟩
  rw [vf_split, vf_over]
  have : vf (over l (fun _ => 0)) (0 + l.length) k = 0 := by
    rw [vf_congr (G := fun _ => 0) (fun j h1 h2 => by unfold over; rw [if_neg (by omega)])]
    have : ∀ o k, vf (fun _ => 0) o k = 0 := by
      intro o k
      induction k with
      | zero => rfl
      | succ k ih => simp [vf, ih]
    exact this _ _
  rw [this]; simp
theorem over_ok {l : List Nat} {F : Nat → Nat} (ol : Ok l) (h : ∀ j, l.length ≤ j → F j < 1000000000) (j : Nat) : over l F j < 1000000000 := by
  unfold over; split
  · exact ok_getD ol j
  · exact h j (by omega)

/-- A size: a slice of parts without zeros at its end, whose value is x. -/
def SzN (w : World) (v : Value) (x : Nat) : Prop := ∃ A l c, v = .slice A l.length c ∧ Sz w A l ∧ Ok l ∧ Norm l ∧ val l = x
theorem SzN.of_row {w : World} {g N : Nat} {F : Nat → Nat} (h : Rw w g N F) (o n c : Nat) (hn : o + n ≤ N) (hF : ∀ j, o ≤ j → j < o + n → F j < 1000000000) :
    SzN w (.slice (some ⟨g, o, none⟩) (trim (lst F o n)).length c) (vf F o n) := by
  refine ⟨_, trim (lst F o n), c, rfl, .inr ⟨g, o, rfl, h.lt, fun i hi => ?_⟩, ok_trim (lst_ok hF), norm_trim _, by rw [val_trim, val_lst]⟩
  have h1 := trim_le (lst F o n)
  rw [lst_length] at h1
  rw [h.cell (i := o + i) (by omega)]
  have h2 : (trim (lst F o n))[i] = F (o + i) := by
    have h3 : (trim (lst F o n))[i]? = ((lst F o n).take (trim (lst F o n)).length)[i]? := by rw [← trim_take]
    rw [List.getElem?_take_of_lt hi, List.getElem?_eq_getElem hi, List.getElem?_eq_getElem (by rw [lst_length]; omega), lst_get] at h3
    exact Option.some.inj h3
  rw [h2]

theorem trimmed_row (g o n c N : Nat) (F : Nat → Nat) (w : World) (hR : Rw w g N F) (hn : o + n ≤ N) (hF : ∀ j, o ≤ j → j < o + n → F j < 1000000000) (hc : n ≤ c) (hm : c ≤ maxLen) :
    Calls Tryz.prog 134 #[.slice (some ⟨g, o, none⟩) n c] w fun e w' => e = .returned (.slice (some ⟨g, o, none⟩) (trim (lst F o n)).length c) ∧ w = w' := by
  have h := trimmed_any (some ⟨g, o, none⟩) (lst F o n) c w (hR.sz o n hn) (by rw [lst_length]; exact hc) hm
  rwa [lst_length] at h
theorem SzN.conv {w : World} {v : Value} {x y : Nat} (h : SzN w v x) (e : x = y) : SzN w v y := e ▸ h
theorem raise_end {F F' : Nat → Nat} {m : List Nat} {o n c x : Nat} (h : RaiseInv F m o n c F') (hm : m.length ≤ n) (hx : vf F o n + val m = x) (hlt : x < 1000000000 ^ n) : vf F' o n = x ∧ c = 0 := by
  have e := h.eq
  rw [List.take_of_length_le hm, hx] at e
  have : c = 0 := by
    rcases Nat.eq_zero_or_pos c with h0 | h0
    · exact h0
    · have : 1000000000 ^ n * 1 ≤ 1000000000 ^ n * c := Nat.mul_le_mul_left _ h0
      omega
  subst this
  exact ⟨by omega, rfl⟩
theorem sum_lt {l m : List Nat} (ol : Ok l) (om : Ok m) (h : m.length ≤ l.length) : val l + val m < 1000000000 ^ (l.length + 1) := by
  have h1 := val_lt ol
  have h2 := val_lt om
  have h3 : 1000000000 ^ m.length ≤ 1000000000 ^ l.length := Nat.pow_le_pow_right (by decide) h
  rw [Nat.pow_succ]; omega

set_option maxRecDepth 10000 in
set_option maxHeartbeats 800000 in
theorem and_le (A B : Option Addr) (l m : List Nat) (c d : Nat) (w : World) (hA : Sz w A l) (hB : Sz w B m) (ol : Ok l) (om : Ok m) (hl : l.length ≤ 1000) (hml : m.length ≤ l.length) :
    Calls Tryz.prog 117 #[.slice A l.length c, .slice B m.length d] w fun e w' => ∃ v, e = .returned v ∧ SzN w' v (val l + val m) ∧ Below w.heap.size w w' := by
  have hmk := run_mkz (l.length + 1) ((l.length : Int) + 1) (by omega) (by omega)
  have hg : ¬ l.length < m.length := by omega
  go_enter Tryz.func117, Tryz.ntmps117
  go_wp2_with ((with_reducible refine wpList_copy_sz rfl (.tmp 17) (.tmp 18) rfl w.heap.size (l.length + 1) (l.length + 1) (fun _ => 0) A l c rfl rfl (Rw.made w _) (hA.below ((Below.refl _ _).alloc (Nat.le_refl _) _)) (by omega) ?_); intro w1 hR1 hO1)
  go_wp2_with fail
  have hF : ∀ j, 0 ≤ j → j < 0 + (l.length + 1) → over l (fun _ => 0) j < 1000000000 := fun j _ _ => over_ok ol (fun _ _ => by decide) j
  have hB1 : Below w.heap.size w w1 := (((Below.refl _ _).alloc (Nat.le_refl _) _).trans (hO1.to_below (Nat.le_refl _) (by simp)))
  have hBx := hB.below hB1
  refine (raise_any w.heap.size 0 (l.length + 1) (l.length + 1) (l.length + 1) _ B m d _ hR1 hF (by omega) (by unfold maxLen; omega) hBx (hB.off (Nat.le_refl _)) om (by unfold maxLen; omega)).mono ?_
  rintro e w2 ⟨c2, F2, rfl, hI, hR2, hO2⟩
  have hend := raise_end hI (by omega) (by rw [vf_over_zero l (by omega)]) (sum_lt ol om hml)
  have HE := Lib.hid hend
  have hB2 : Below w.heap.size w w2 := hB1.trans (hO2.to_below (Nat.le_refl _) hB1.size)
  clear hend hB1 hO2 hO1 hR1 hBx hB hA
  go_wp2_with fail
  refine (trimmed_row w.heap.size 0 (l.length + 1) (l.length + 1) (l.length + 1) F2 _ hR2 (by omega) hI.ok (by omega) (by unfold maxLen; omega)).mono ?_
  rintro e w3 ⟨rfl, rfl⟩
  go_wp2_with fail
  go_ret
  exact ⟨_, rfl, (SzN.of_row hR2 0 _ _ (by omega) hI.ok).conv HE.out.1, hB2⟩
set_option maxRecDepth 10000 in
set_option maxHeartbeats 800000 in
theorem and_gt (A B : Option Addr) (l m : List Nat) (c d : Nat) (w : World) (hA : Sz w A l) (hB : Sz w B m) (ol : Ok l) (om : Ok m) (hl : m.length ≤ 1000) (hml : l.length < m.length) :
    Calls Tryz.prog 117 #[.slice A l.length c, .slice B m.length d] w fun e w' => ∃ v, e = .returned v ∧ SzN w' v (val l + val m) ∧ Below w.heap.size w w' := by
  have hmk := run_mkz (m.length + 1) ((m.length : Int) + 1) (by omega) (by omega)
  go_enter Tryz.func117, Tryz.ntmps117
  go_wp2_with ((with_reducible refine wpList_copy_sz rfl (.tmp 17) (.tmp 18) rfl w.heap.size (m.length + 1) (m.length + 1) (fun _ => 0) B m d rfl rfl (Rw.made w _) (hB.below ((Below.refl _ _).alloc (Nat.le_refl _) _)) (by omega) ?_); intro w1 hR1 hO1)
  go_wp2_with fail
  have hF : ∀ j, 0 ≤ j → j < 0 + (m.length + 1) → over m (fun _ => 0) j < 1000000000 := fun j _ _ => over_ok om (fun _ _ => by decide) j
  have hB1 : Below w.heap.size w w1 := (((Below.refl _ _).alloc (Nat.le_refl _) _).trans (hO1.to_below (Nat.le_refl _) (by simp)))
  have hBx := hA.below hB1
  refine (raise_any w.heap.size 0 (m.length + 1) (m.length + 1) (m.length + 1) _ A l c _ hR1 hF (by omega) (by unfold maxLen; omega) hBx (hA.off (Nat.le_refl _)) ol (by unfold maxLen; omega)).mono ?_
  rintro e w2 ⟨c2, F2, rfl, hI, hR2, hO2⟩
  have hend := raise_end hI (by omega) (by rw [vf_over_zero m (by omega)]) (sum_lt om ol (by omega))
  have HE := Lib.hid hend
  have hB2 : Below w.heap.size w w2 := hB1.trans (hO2.to_below (Nat.le_refl _) hB1.size)
  clear hend hB1 hO2 hO1 hR1 hBx hB hA
  go_wp2_with fail
  refine (trimmed_row w.heap.size 0 (m.length + 1) (m.length + 1) (m.length + 1) F2 _ hR2 (by omega) hI.ok (by omega) (by unfold maxLen; omega)).mono ?_
  rintro e w3 ⟨rfl, rfl⟩
  go_wp2_with fail
  go_ret
  exact ⟨_, rfl, (SzN.of_row hR2 0 _ _ (by omega) hI.ok).conv (HE.out.1.trans (Nat.add_comm _ _)), hB2⟩
theorem and_any (A B : Option Addr) (l m : List Nat) (c d : Nat) (w : World) (hA : Sz w A l) (hB : Sz w B m) (ol : Ok l) (om : Ok m) (hl : l.length ≤ 1000) (hm : m.length ≤ 1000) :
    Calls Tryz.prog 117 #[.slice A l.length c, .slice B m.length d] w fun e w' => ∃ v, e = .returned v ∧ SzN w' v (val l + val m) ∧ Below w.heap.size w w' := by
  by_cases h : l.length < m.length
  · exact and_gt A B l m c d w hA hB ol om hm h
  · exact and_le A B l m c d w hA hB ol om hl (by omega)
end Go.Proofs.YtlhbejeninjmoaaGreatDoor

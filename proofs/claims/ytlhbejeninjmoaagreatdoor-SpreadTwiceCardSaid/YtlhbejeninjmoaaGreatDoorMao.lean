import Derived.Test.YtlhbejeninjmoaaGreatDoorMan
/-
  What signs do, looked up in the maps that functions make: the maps in memory, what is found in them.
-/
namespace Go.Proofs.YtlhbejeninjmoaaGreatDoor
set_option linter.unusedVariables false
set_option linter.unusedSimpArgs false
open Go.RowKit Go.Maps Go.MapKept Go.WideMaps

def fnV (f : Nat) : Value := .func (.func f) #[] #[]
/-- What the signs do that may find no number; that hold two against each other; of one. -/
def RL : List (Value × Value) := [(.string ⟨#[43]⟩, .func (.func 64) #[] #[]), (.string ⟨#[45]⟩, .func (.func 65) #[] #[]), (.string ⟨#[42]⟩, .func (.func 66) #[] #[]), (.string ⟨#[37]⟩, .func (.func 67) #[] #[]), (.string ⟨#[33]⟩, .func (.func 68) #[] #[])]
def WL : List (Value × Value) := [(.string ⟨#[38]⟩, .func (.func 69) #[] #[]), (.string ⟨#[124]⟩, .func (.func 70) #[] #[]), (.string ⟨#[60]⟩, .func (.func 71) #[] #[]), (.string ⟨#[62]⟩, .func (.func 74) #[] #[]), (.string ⟨#[61]⟩, .func (.func 75) #[] #[]), (.string ⟨#[126]⟩, .func (.func 76) #[] #[])]
def ML : List (Value × Value) := [(.string ⟨#[45]⟩, .func (.func 84) #[] #[]), (.string ⟨#[126]⟩, .func (.func 85) #[] #[]), (.string ⟨#[42]⟩, .func (.func 87) #[] #[])]
set_option maxHeartbeats 1600000 in
set_option maxRecDepth 100000 in
theorem reckoning_is (W : World) : Calls Tryz.prog 47 #[] W fun e W' => ∃ b, e = .returned (.map (some b)) ∧ Mq W' b RL ∧ Below W.heap.size W W' := by
  have hmm := @run_makeMap Tryz.prog
  have hT := Mq.made W
  have hB : Below W.heap.size W (W.alloc (.map #[] 0)) := (Below.refl _ _).alloc (Nat.le_refl _) _
  go_enter Tryz.func47, Tryz.ntmps47
  go_wp2_with (first
    | (refine wpList_mput _ rfl _ _ _ 72 rfl 9 61 Tryz.underlying72 (string_keyed Tryz.underlying9) W.heap.size [] rfl hT (.string ⟨#[43]⟩) (.func (.func 64) #[] #[]) rfl rfl _ (keyOf_string_mk Tryz.underlying9 (by decide)) (fun _ h => by cases h) (by simp) ?_; clear hT; intro w1 hT hg; replace hB := mgrown hB hg (Nat.le_refl _) hB.size; clear hg)
    | (refine wpList_mput _ rfl _ _ _ 72 rfl 9 61 Tryz.underlying72 (string_keyed Tryz.underlying9) W.heap.size [(.string ⟨#[43]⟩, .func (.func 64) #[] #[])] rfl hT (.string ⟨#[45]⟩) (.func (.func 65) #[] #[]) rfl rfl _ (keyOf_string_mk Tryz.underlying9 (by decide)) (by simp only [List.forall_mem_cons]; exact ⟨⟨_, keyOf_string_mk Tryz.underlying9 (by decide)⟩, fun _ h => by cases h⟩) (by simp) ?_; clear hT; intro w1 hT hg; replace hB := mgrown hB hg (Nat.le_refl _) hB.size; clear hg)
    | (refine wpList_mput _ rfl _ _ _ 72 rfl 9 61 Tryz.underlying72 (string_keyed Tryz.underlying9) W.heap.size [(.string ⟨#[43]⟩, .func (.func 64) #[] #[]), (.string ⟨#[45]⟩, .func (.func 65) #[] #[])] rfl hT (.string ⟨#[42]⟩) (.func (.func 66) #[] #[]) rfl rfl _ (keyOf_string_mk Tryz.underlying9 (by decide)) (by simp only [List.forall_mem_cons]; exact ⟨⟨_, keyOf_string_mk Tryz.underlying9 (by decide)⟩, ⟨_, keyOf_string_mk Tryz.underlying9 (by decide)⟩, fun _ h => by cases h⟩) (by simp) ?_; clear hT; intro w1 hT hg; replace hB := mgrown hB hg (Nat.le_refl _) hB.size; clear hg)
    | (refine wpList_mput _ rfl _ _ _ 72 rfl 9 61 Tryz.underlying72 (string_keyed Tryz.underlying9) W.heap.size [(.string ⟨#[43]⟩, .func (.func 64) #[] #[]), (.string ⟨#[45]⟩, .func (.func 65) #[] #[]), (.string ⟨#[42]⟩, .func (.func 66) #[] #[])] rfl hT (.string ⟨#[37]⟩) (.func (.func 67) #[] #[]) rfl rfl _ (keyOf_string_mk Tryz.underlying9 (by decide)) (by simp only [List.forall_mem_cons]; exact ⟨⟨_, keyOf_string_mk Tryz.underlying9 (by decide)⟩, ⟨_, keyOf_string_mk Tryz.underlying9 (by decide)⟩, ⟨_, keyOf_string_mk Tryz.underlying9 (by decide)⟩, fun _ h => by cases h⟩) (by simp) ?_; clear hT; intro w1 hT hg; replace hB := mgrown hB hg (Nat.le_refl _) hB.size; clear hg)
    | (refine wpList_mput _ rfl _ _ _ 72 rfl 9 61 Tryz.underlying72 (string_keyed Tryz.underlying9) W.heap.size [(.string ⟨#[43]⟩, .func (.func 64) #[] #[]), (.string ⟨#[45]⟩, .func (.func 65) #[] #[]), (.string ⟨#[42]⟩, .func (.func 66) #[] #[]), (.string ⟨#[37]⟩, .func (.func 67) #[] #[])] rfl hT (.string ⟨#[33]⟩) (.func (.func 68) #[] #[]) rfl rfl _ (keyOf_string_mk Tryz.underlying9 (by decide)) (by simp only [List.forall_mem_cons]; exact ⟨⟨_, keyOf_string_mk Tryz.underlying9 (by decide)⟩, ⟨_, keyOf_string_mk Tryz.underlying9 (by decide)⟩, ⟨_, keyOf_string_mk Tryz.underlying9 (by decide)⟩, ⟨_, keyOf_string_mk Tryz.underlying9 (by decide)⟩, fun _ h => by cases h⟩) (by simp) ?_; clear hT; intro w1 hT hg; replace hB := mgrown hB hg (Nat.le_refl _) hB.size; clear hg)
    | fail)
  go_ret
  exact ⟨_, rfl, hT, hB⟩
theorem reckoning_keys : ∀ p ∈ RL, ∃ m, keyOf Tryz.prog 9 p.1 = some m := by
  unfold RL
  simp only [List.forall_mem_cons]
  exact ⟨⟨_, keyOf_string_mk Tryz.underlying9 (by decide)⟩, ⟨_, keyOf_string_mk Tryz.underlying9 (by decide)⟩, ⟨_, keyOf_string_mk Tryz.underlying9 (by decide)⟩, ⟨_, keyOf_string_mk Tryz.underlying9 (by decide)⟩, ⟨_, keyOf_string_mk Tryz.underlying9 (by decide)⟩, fun _ h => by cases h⟩
theorem reckoning_0 {w : World} {b : Nat} (h : Mq w b RL) : (Instr.lookup 72 (.map (some b)) (.string ⟨#[43]⟩) true).run Tryz.prog w = .ok (.tuple #[.func (.func 64) #[] #[], .bool true]) w :=
  h.look Tryz.underlying72 (string_keyed Tryz.underlying9) (keyOf_string_mk Tryz.underlying9 (by decide)) (v := .func (.func 64) #[] #[]) true reckoning_keys ⟨.func (.func 64) #[] #[], by simp [RL]⟩ (by simp [RL])
theorem reckoning_1 {w : World} {b : Nat} (h : Mq w b RL) : (Instr.lookup 72 (.map (some b)) (.string ⟨#[45]⟩) true).run Tryz.prog w = .ok (.tuple #[.func (.func 65) #[] #[], .bool true]) w :=
  h.look Tryz.underlying72 (string_keyed Tryz.underlying9) (keyOf_string_mk Tryz.underlying9 (by decide)) (v := .func (.func 65) #[] #[]) true reckoning_keys ⟨.func (.func 65) #[] #[], by simp [RL]⟩ (by simp [RL])
theorem reckoning_2 {w : World} {b : Nat} (h : Mq w b RL) : (Instr.lookup 72 (.map (some b)) (.string ⟨#[42]⟩) true).run Tryz.prog w = .ok (.tuple #[.func (.func 66) #[] #[], .bool true]) w :=
  h.look Tryz.underlying72 (string_keyed Tryz.underlying9) (keyOf_string_mk Tryz.underlying9 (by decide)) (v := .func (.func 66) #[] #[]) true reckoning_keys ⟨.func (.func 66) #[] #[], by simp [RL]⟩ (by simp [RL])
theorem reckoning_3 {w : World} {b : Nat} (h : Mq w b RL) : (Instr.lookup 72 (.map (some b)) (.string ⟨#[37]⟩) true).run Tryz.prog w = .ok (.tuple #[.func (.func 67) #[] #[], .bool true]) w :=
  h.look Tryz.underlying72 (string_keyed Tryz.underlying9) (keyOf_string_mk Tryz.underlying9 (by decide)) (v := .func (.func 67) #[] #[]) true reckoning_keys ⟨.func (.func 67) #[] #[], by simp [RL]⟩ (by simp [RL])
theorem reckoning_4 {w : World} {b : Nat} (h : Mq w b RL) : (Instr.lookup 72 (.map (some b)) (.string ⟨#[33]⟩) true).run Tryz.prog w = .ok (.tuple #[.func (.func 68) #[] #[], .bool true]) w :=
  h.look Tryz.underlying72 (string_keyed Tryz.underlying9) (keyOf_string_mk Tryz.underlying9 (by decide)) (v := .func (.func 68) #[] #[]) true reckoning_keys ⟨.func (.func 68) #[] #[], by simp [RL]⟩ (by simp [RL])
theorem reckoning_no {w : World} {b : Nat} (h : Mq w b RL) {op : ByteArray} (ho : op.size ≤ maxLen) (h0 : op ≠ ⟨#[43]⟩) (h1 : op ≠ ⟨#[45]⟩) (h2 : op ≠ ⟨#[42]⟩) (h3 : op ≠ ⟨#[37]⟩) (h4 : op ≠ ⟨#[33]⟩) : (Instr.lookup 72 (.map (some b)) (.string op) true).run Tryz.prog w = .ok (.tuple #[.nilFunc, .bool false]) w := by
  refine h.miss Tryz.underlying72 (string_keyed Tryz.underlying9) (keyOf_string_mk Tryz.underlying9 ho) true (by kernel_rfl) reckoning_keys ?_
  unfold RL
  simp only [List.forall_mem_cons]
  exact ⟨fun e => h0 (by injection e with e; exact e.symm), fun e => h1 (by injection e with e; exact e.symm), fun e => h2 (by injection e with e; exact e.symm), fun e => h3 (by injection e with e; exact e.symm), fun e => h4 (by injection e with e; exact e.symm), fun _ h => by cases h⟩
set_option maxHeartbeats 1600000 in
set_option maxRecDepth 100000 in
theorem weighing_is (W : World) : Calls Tryz.prog 48 #[] W fun e W' => ∃ b, e = .returned (.map (some b)) ∧ Mq W' b WL ∧ Below W.heap.size W W' := by
  have hmm := @run_makeMap Tryz.prog
  have hT := Mq.made W
  have hB : Below W.heap.size W (W.alloc (.map #[] 0)) := (Below.refl _ _).alloc (Nat.le_refl _) _
  go_enter Tryz.func48, Tryz.ntmps48
  go_wp2_with (first
    | (refine wpList_mput _ rfl _ _ _ 76 rfl 9 74 Tryz.underlying76 (string_keyed Tryz.underlying9) W.heap.size [] rfl hT (.string ⟨#[38]⟩) (.func (.func 69) #[] #[]) rfl rfl _ (keyOf_string_mk Tryz.underlying9 (by decide)) (fun _ h => by cases h) (by simp) ?_; clear hT; intro w1 hT hg; replace hB := mgrown hB hg (Nat.le_refl _) hB.size; clear hg)
    | (refine wpList_mput _ rfl _ _ _ 76 rfl 9 74 Tryz.underlying76 (string_keyed Tryz.underlying9) W.heap.size [(.string ⟨#[38]⟩, .func (.func 69) #[] #[])] rfl hT (.string ⟨#[124]⟩) (.func (.func 70) #[] #[]) rfl rfl _ (keyOf_string_mk Tryz.underlying9 (by decide)) (by simp only [List.forall_mem_cons]; exact ⟨⟨_, keyOf_string_mk Tryz.underlying9 (by decide)⟩, fun _ h => by cases h⟩) (by simp) ?_; clear hT; intro w1 hT hg; replace hB := mgrown hB hg (Nat.le_refl _) hB.size; clear hg)
    | (refine wpList_mput _ rfl _ _ _ 76 rfl 9 74 Tryz.underlying76 (string_keyed Tryz.underlying9) W.heap.size [(.string ⟨#[38]⟩, .func (.func 69) #[] #[]), (.string ⟨#[124]⟩, .func (.func 70) #[] #[])] rfl hT (.string ⟨#[60]⟩) (.func (.func 71) #[] #[]) rfl rfl _ (keyOf_string_mk Tryz.underlying9 (by decide)) (by simp only [List.forall_mem_cons]; exact ⟨⟨_, keyOf_string_mk Tryz.underlying9 (by decide)⟩, ⟨_, keyOf_string_mk Tryz.underlying9 (by decide)⟩, fun _ h => by cases h⟩) (by simp) ?_; clear hT; intro w1 hT hg; replace hB := mgrown hB hg (Nat.le_refl _) hB.size; clear hg)
    | (refine wpList_mput _ rfl _ _ _ 76 rfl 9 74 Tryz.underlying76 (string_keyed Tryz.underlying9) W.heap.size [(.string ⟨#[38]⟩, .func (.func 69) #[] #[]), (.string ⟨#[124]⟩, .func (.func 70) #[] #[]), (.string ⟨#[60]⟩, .func (.func 71) #[] #[])] rfl hT (.string ⟨#[62]⟩) (.func (.func 74) #[] #[]) rfl rfl _ (keyOf_string_mk Tryz.underlying9 (by decide)) (by simp only [List.forall_mem_cons]; exact ⟨⟨_, keyOf_string_mk Tryz.underlying9 (by decide)⟩, ⟨_, keyOf_string_mk Tryz.underlying9 (by decide)⟩, ⟨_, keyOf_string_mk Tryz.underlying9 (by decide)⟩, fun _ h => by cases h⟩) (by simp) ?_; clear hT; intro w1 hT hg; replace hB := mgrown hB hg (Nat.le_refl _) hB.size; clear hg)
    | (refine wpList_mput _ rfl _ _ _ 76 rfl 9 74 Tryz.underlying76 (string_keyed Tryz.underlying9) W.heap.size [(.string ⟨#[38]⟩, .func (.func 69) #[] #[]), (.string ⟨#[124]⟩, .func (.func 70) #[] #[]), (.string ⟨#[60]⟩, .func (.func 71) #[] #[]), (.string ⟨#[62]⟩, .func (.func 74) #[] #[])] rfl hT (.string ⟨#[61]⟩) (.func (.func 75) #[] #[]) rfl rfl _ (keyOf_string_mk Tryz.underlying9 (by decide)) (by simp only [List.forall_mem_cons]; exact ⟨⟨_, keyOf_string_mk Tryz.underlying9 (by decide)⟩, ⟨_, keyOf_string_mk Tryz.underlying9 (by decide)⟩, ⟨_, keyOf_string_mk Tryz.underlying9 (by decide)⟩, ⟨_, keyOf_string_mk Tryz.underlying9 (by decide)⟩, fun _ h => by cases h⟩) (by simp) ?_; clear hT; intro w1 hT hg; replace hB := mgrown hB hg (Nat.le_refl _) hB.size; clear hg)
    | (refine wpList_mput _ rfl _ _ _ 76 rfl 9 74 Tryz.underlying76 (string_keyed Tryz.underlying9) W.heap.size [(.string ⟨#[38]⟩, .func (.func 69) #[] #[]), (.string ⟨#[124]⟩, .func (.func 70) #[] #[]), (.string ⟨#[60]⟩, .func (.func 71) #[] #[]), (.string ⟨#[62]⟩, .func (.func 74) #[] #[]), (.string ⟨#[61]⟩, .func (.func 75) #[] #[])] rfl hT (.string ⟨#[126]⟩) (.func (.func 76) #[] #[]) rfl rfl _ (keyOf_string_mk Tryz.underlying9 (by decide)) (by simp only [List.forall_mem_cons]; exact ⟨⟨_, keyOf_string_mk Tryz.underlying9 (by decide)⟩, ⟨_, keyOf_string_mk Tryz.underlying9 (by decide)⟩, ⟨_, keyOf_string_mk Tryz.underlying9 (by decide)⟩, ⟨_, keyOf_string_mk Tryz.underlying9 (by decide)⟩, ⟨_, keyOf_string_mk Tryz.underlying9 (by decide)⟩, fun _ h => by cases h⟩) (by simp) ?_; clear hT; intro w1 hT hg; replace hB := mgrown hB hg (Nat.le_refl _) hB.size; clear hg)
    | fail)
  go_ret
  exact ⟨_, rfl, hT, hB⟩
theorem weighing_keys : ∀ p ∈ WL, ∃ m, keyOf Tryz.prog 9 p.1 = some m := by
  unfold WL
  simp only [List.forall_mem_cons]
  exact ⟨⟨_, keyOf_string_mk Tryz.underlying9 (by decide)⟩, ⟨_, keyOf_string_mk Tryz.underlying9 (by decide)⟩, ⟨_, keyOf_string_mk Tryz.underlying9 (by decide)⟩, ⟨_, keyOf_string_mk Tryz.underlying9 (by decide)⟩, ⟨_, keyOf_string_mk Tryz.underlying9 (by decide)⟩, ⟨_, keyOf_string_mk Tryz.underlying9 (by decide)⟩, fun _ h => by cases h⟩
theorem weighing_0 {w : World} {b : Nat} (h : Mq w b WL) : (Instr.lookup 76 (.map (some b)) (.string ⟨#[38]⟩) true).run Tryz.prog w = .ok (.tuple #[.func (.func 69) #[] #[], .bool true]) w :=
  h.look Tryz.underlying76 (string_keyed Tryz.underlying9) (keyOf_string_mk Tryz.underlying9 (by decide)) (v := .func (.func 69) #[] #[]) true weighing_keys ⟨.func (.func 69) #[] #[], by simp [WL]⟩ (by simp [WL])
theorem weighing_1 {w : World} {b : Nat} (h : Mq w b WL) : (Instr.lookup 76 (.map (some b)) (.string ⟨#[124]⟩) true).run Tryz.prog w = .ok (.tuple #[.func (.func 70) #[] #[], .bool true]) w :=
  h.look Tryz.underlying76 (string_keyed Tryz.underlying9) (keyOf_string_mk Tryz.underlying9 (by decide)) (v := .func (.func 70) #[] #[]) true weighing_keys ⟨.func (.func 70) #[] #[], by simp [WL]⟩ (by simp [WL])
theorem weighing_2 {w : World} {b : Nat} (h : Mq w b WL) : (Instr.lookup 76 (.map (some b)) (.string ⟨#[60]⟩) true).run Tryz.prog w = .ok (.tuple #[.func (.func 71) #[] #[], .bool true]) w :=
  h.look Tryz.underlying76 (string_keyed Tryz.underlying9) (keyOf_string_mk Tryz.underlying9 (by decide)) (v := .func (.func 71) #[] #[]) true weighing_keys ⟨.func (.func 71) #[] #[], by simp [WL]⟩ (by simp [WL])
theorem weighing_3 {w : World} {b : Nat} (h : Mq w b WL) : (Instr.lookup 76 (.map (some b)) (.string ⟨#[62]⟩) true).run Tryz.prog w = .ok (.tuple #[.func (.func 74) #[] #[], .bool true]) w :=
  h.look Tryz.underlying76 (string_keyed Tryz.underlying9) (keyOf_string_mk Tryz.underlying9 (by decide)) (v := .func (.func 74) #[] #[]) true weighing_keys ⟨.func (.func 74) #[] #[], by simp [WL]⟩ (by simp [WL])
theorem weighing_4 {w : World} {b : Nat} (h : Mq w b WL) : (Instr.lookup 76 (.map (some b)) (.string ⟨#[61]⟩) true).run Tryz.prog w = .ok (.tuple #[.func (.func 75) #[] #[], .bool true]) w :=
  h.look Tryz.underlying76 (string_keyed Tryz.underlying9) (keyOf_string_mk Tryz.underlying9 (by decide)) (v := .func (.func 75) #[] #[]) true weighing_keys ⟨.func (.func 75) #[] #[], by simp [WL]⟩ (by simp [WL])
theorem weighing_5 {w : World} {b : Nat} (h : Mq w b WL) : (Instr.lookup 76 (.map (some b)) (.string ⟨#[126]⟩) true).run Tryz.prog w = .ok (.tuple #[.func (.func 76) #[] #[], .bool true]) w :=
  h.look Tryz.underlying76 (string_keyed Tryz.underlying9) (keyOf_string_mk Tryz.underlying9 (by decide)) (v := .func (.func 76) #[] #[]) true weighing_keys ⟨.func (.func 76) #[] #[], by simp [WL]⟩ (by simp [WL])
theorem weighing_no {w : World} {b : Nat} (h : Mq w b WL) {op : ByteArray} (ho : op.size ≤ maxLen) (h0 : op ≠ ⟨#[38]⟩) (h1 : op ≠ ⟨#[124]⟩) (h2 : op ≠ ⟨#[60]⟩) (h3 : op ≠ ⟨#[62]⟩) (h4 : op ≠ ⟨#[61]⟩) (h5 : op ≠ ⟨#[126]⟩) : (Instr.lookup 76 (.map (some b)) (.string op) true).run Tryz.prog w = .ok (.tuple #[.nilFunc, .bool false]) w := by
  refine h.miss Tryz.underlying76 (string_keyed Tryz.underlying9) (keyOf_string_mk Tryz.underlying9 ho) true (by kernel_rfl) weighing_keys ?_
  unfold WL
  simp only [List.forall_mem_cons]
  exact ⟨fun e => h0 (by injection e with e; exact e.symm), fun e => h1 (by injection e with e; exact e.symm), fun e => h2 (by injection e with e; exact e.symm), fun e => h3 (by injection e with e; exact e.symm), fun e => h4 (by injection e with e; exact e.symm), fun e => h5 (by injection e with e; exact e.symm), fun _ h => by cases h⟩
set_option maxHeartbeats 1600000 in
set_option maxRecDepth 100000 in
theorem turning_is (W : World) : Calls Tryz.prog 58 #[] W fun e W' => ∃ b, e = .returned (.map (some b)) ∧ Mq W' b ML ∧ Below W.heap.size W W' := by
  have hmm := @run_makeMap Tryz.prog
  have hT := Mq.made W
  have hB : Below W.heap.size W (W.alloc (.map #[] 0)) := (Below.refl _ _).alloc (Nat.le_refl _) _
  go_enter Tryz.func58, Tryz.ntmps58
  go_wp2_with (first
    | (refine wpList_mput _ rfl _ _ _ 83 rfl 9 81 Tryz.underlying83 (string_keyed Tryz.underlying9) W.heap.size [] rfl hT (.string ⟨#[45]⟩) (.func (.func 84) #[] #[]) rfl rfl _ (keyOf_string_mk Tryz.underlying9 (by decide)) (fun _ h => by cases h) (by simp) ?_; clear hT; intro w1 hT hg; replace hB := mgrown hB hg (Nat.le_refl _) hB.size; clear hg)
    | (refine wpList_mput _ rfl _ _ _ 83 rfl 9 81 Tryz.underlying83 (string_keyed Tryz.underlying9) W.heap.size [(.string ⟨#[45]⟩, .func (.func 84) #[] #[])] rfl hT (.string ⟨#[126]⟩) (.func (.func 85) #[] #[]) rfl rfl _ (keyOf_string_mk Tryz.underlying9 (by decide)) (by simp only [List.forall_mem_cons]; exact ⟨⟨_, keyOf_string_mk Tryz.underlying9 (by decide)⟩, fun _ h => by cases h⟩) (by simp) ?_; clear hT; intro w1 hT hg; replace hB := mgrown hB hg (Nat.le_refl _) hB.size; clear hg)
    | (refine wpList_mput _ rfl _ _ _ 83 rfl 9 81 Tryz.underlying83 (string_keyed Tryz.underlying9) W.heap.size [(.string ⟨#[45]⟩, .func (.func 84) #[] #[]), (.string ⟨#[126]⟩, .func (.func 85) #[] #[])] rfl hT (.string ⟨#[42]⟩) (.func (.func 87) #[] #[]) rfl rfl _ (keyOf_string_mk Tryz.underlying9 (by decide)) (by simp only [List.forall_mem_cons]; exact ⟨⟨_, keyOf_string_mk Tryz.underlying9 (by decide)⟩, ⟨_, keyOf_string_mk Tryz.underlying9 (by decide)⟩, fun _ h => by cases h⟩) (by simp) ?_; clear hT; intro w1 hT hg; replace hB := mgrown hB hg (Nat.le_refl _) hB.size; clear hg)
    | fail)
  go_ret
  exact ⟨_, rfl, hT, hB⟩
theorem turning_keys : ∀ p ∈ ML, ∃ m, keyOf Tryz.prog 9 p.1 = some m := by
  unfold ML
  simp only [List.forall_mem_cons]
  exact ⟨⟨_, keyOf_string_mk Tryz.underlying9 (by decide)⟩, ⟨_, keyOf_string_mk Tryz.underlying9 (by decide)⟩, ⟨_, keyOf_string_mk Tryz.underlying9 (by decide)⟩, fun _ h => by cases h⟩
theorem turning_0 {w : World} {b : Nat} (h : Mq w b ML) : (Instr.lookup 83 (.map (some b)) (.string ⟨#[45]⟩) true).run Tryz.prog w = .ok (.tuple #[.func (.func 84) #[] #[], .bool true]) w :=
  h.look Tryz.underlying83 (string_keyed Tryz.underlying9) (keyOf_string_mk Tryz.underlying9 (by decide)) (v := .func (.func 84) #[] #[]) true turning_keys ⟨.func (.func 84) #[] #[], by simp [ML]⟩ (by simp [ML])
theorem turning_1 {w : World} {b : Nat} (h : Mq w b ML) : (Instr.lookup 83 (.map (some b)) (.string ⟨#[126]⟩) true).run Tryz.prog w = .ok (.tuple #[.func (.func 85) #[] #[], .bool true]) w :=
  h.look Tryz.underlying83 (string_keyed Tryz.underlying9) (keyOf_string_mk Tryz.underlying9 (by decide)) (v := .func (.func 85) #[] #[]) true turning_keys ⟨.func (.func 85) #[] #[], by simp [ML]⟩ (by simp [ML])
theorem turning_2 {w : World} {b : Nat} (h : Mq w b ML) : (Instr.lookup 83 (.map (some b)) (.string ⟨#[42]⟩) true).run Tryz.prog w = .ok (.tuple #[.func (.func 87) #[] #[], .bool true]) w :=
  h.look Tryz.underlying83 (string_keyed Tryz.underlying9) (keyOf_string_mk Tryz.underlying9 (by decide)) (v := .func (.func 87) #[] #[]) true turning_keys ⟨.func (.func 87) #[] #[], by simp [ML]⟩ (by simp [ML])
theorem turning_no {w : World} {b : Nat} (h : Mq w b ML) {op : ByteArray} (ho : op.size ≤ maxLen) (h0 : op ≠ ⟨#[45]⟩) (h1 : op ≠ ⟨#[126]⟩) (h2 : op ≠ ⟨#[42]⟩) : (Instr.lookup 83 (.map (some b)) (.string op) true).run Tryz.prog w = .ok (.tuple #[.nilFunc, .bool false]) w := by
  refine h.miss Tryz.underlying83 (string_keyed Tryz.underlying9) (keyOf_string_mk Tryz.underlying9 ho) true (by kernel_rfl) turning_keys ?_
  unfold ML
  simp only [List.forall_mem_cons]
  exact ⟨fun e => h0 (by injection e with e; exact e.symm), fun e => h1 (by injection e with e; exact e.symm), fun e => h2 (by injection e with e; exact e.symm), fun _ h => by cases h⟩

end Go.Proofs.YtlhbejeninjmoaaGreatDoor

import Derived.Test.YtogphdflgcdiiaaGreatDoorMbi
import Derived.Test.YtogphdflgcdiiaaGreatDoorMbl
import Derived.Test.YtogphdflgcdiiaaGreatDoorMbm
/-
  What signs do, looked up in the maps that functions make: the maps in memory, what is found in them.
-/
namespace Go.Proofs.YtogphdflgcdiiaaGreatDoor
set_option linter.unusedVariables false
set_option linter.unusedSimpArgs false
open Go.RowKit Go.Maps Go.MapKept Go.WideMaps

def fnV (f : Nat) : Value := .func (.func f) #[] #[]
/-- What the signs do that may find no number; that hold two against each other; of one. -/
def RL : List (Value × Value) := [(.string ⟨#[43]⟩, .func (.func 30) #[] #[]), (.string ⟨#[45]⟩, .func (.func 31) #[] #[]), (.string ⟨#[42]⟩, .func (.func 32) #[] #[]), (.string ⟨#[37]⟩, .func (.func 33) #[] #[]), (.string ⟨#[33]⟩, .func (.func 34) #[] #[])]
def WL : List (Value × Value) := [(.string ⟨#[38]⟩, .func (.func 35) #[] #[]), (.string ⟨#[124]⟩, .func (.func 36) #[] #[]), (.string ⟨#[60]⟩, .func (.func 37) #[] #[]), (.string ⟨#[62]⟩, .func (.func 40) #[] #[]), (.string ⟨#[61]⟩, .func (.func 41) #[] #[]), (.string ⟨#[126]⟩, .func (.func 42) #[] #[])]
def ML : List (Value × Value) := [(.string ⟨#[45]⟩, .func (.func 49) #[] #[]), (.string ⟨#[126]⟩, .func (.func 50) #[] #[]), (.string ⟨#[42]⟩, .func (.func 52) #[] #[])]
set_option maxHeartbeats 1600000 in
set_option maxRecDepth 100000 in
theorem reckoning_is (W : World) : Calls Tryz.prog 14 #[] W fun e W' => ∃ b, e = .returned (.map (some b)) ∧ Mq W' b RL ∧ Below W.heap.size W W' := by
  have hmm := @run_makeMap Tryz.prog
  have hT := Mq.made W
  have hB : Below W.heap.size W (W.alloc (.map #[] 0)) := (Below.refl _ _).alloc (Nat.le_refl _) _
  go_enter Tryz.func14, Tryz.ntmps14
  go_wp2_with (first
    | (refine wpList_mput _ rfl _ _ _ 34 rfl 9 28 Tryz.underlying34 (string_keyed Tryz.underlying9) W.heap.size [] rfl hT (.string ⟨#[43]⟩) (.func (.func 30) #[] #[]) rfl rfl _ (keyOf_string_mk Tryz.underlying9 (by decide)) (fun _ h => by cases h) (by simp) ?_; clear hT; intro w1 hT hg; replace hB := mgrown hB hg (Nat.le_refl _) hB.size; clear hg)
    | (refine wpList_mput _ rfl _ _ _ 34 rfl 9 28 Tryz.underlying34 (string_keyed Tryz.underlying9) W.heap.size [(.string ⟨#[43]⟩, .func (.func 30) #[] #[])] rfl hT (.string ⟨#[45]⟩) (.func (.func 31) #[] #[]) rfl rfl _ (keyOf_string_mk Tryz.underlying9 (by decide)) (by simp only [List.forall_mem_cons]; exact ⟨⟨_, keyOf_string_mk Tryz.underlying9 (by decide)⟩, fun _ h => by cases h⟩) (by simp) ?_; clear hT; intro w1 hT hg; replace hB := mgrown hB hg (Nat.le_refl _) hB.size; clear hg)
    | (refine wpList_mput _ rfl _ _ _ 34 rfl 9 28 Tryz.underlying34 (string_keyed Tryz.underlying9) W.heap.size [(.string ⟨#[43]⟩, .func (.func 30) #[] #[]), (.string ⟨#[45]⟩, .func (.func 31) #[] #[])] rfl hT (.string ⟨#[42]⟩) (.func (.func 32) #[] #[]) rfl rfl _ (keyOf_string_mk Tryz.underlying9 (by decide)) (by simp only [List.forall_mem_cons]; exact ⟨⟨_, keyOf_string_mk Tryz.underlying9 (by decide)⟩, ⟨_, keyOf_string_mk Tryz.underlying9 (by decide)⟩, fun _ h => by cases h⟩) (by simp) ?_; clear hT; intro w1 hT hg; replace hB := mgrown hB hg (Nat.le_refl _) hB.size; clear hg)
    | (refine wpList_mput _ rfl _ _ _ 34 rfl 9 28 Tryz.underlying34 (string_keyed Tryz.underlying9) W.heap.size [(.string ⟨#[43]⟩, .func (.func 30) #[] #[]), (.string ⟨#[45]⟩, .func (.func 31) #[] #[]), (.string ⟨#[42]⟩, .func (.func 32) #[] #[])] rfl hT (.string ⟨#[37]⟩) (.func (.func 33) #[] #[]) rfl rfl _ (keyOf_string_mk Tryz.underlying9 (by decide)) (by simp only [List.forall_mem_cons]; exact ⟨⟨_, keyOf_string_mk Tryz.underlying9 (by decide)⟩, ⟨_, keyOf_string_mk Tryz.underlying9 (by decide)⟩, ⟨_, keyOf_string_mk Tryz.underlying9 (by decide)⟩, fun _ h => by cases h⟩) (by simp) ?_; clear hT; intro w1 hT hg; replace hB := mgrown hB hg (Nat.le_refl _) hB.size; clear hg)
    | (refine wpList_mput _ rfl _ _ _ 34 rfl 9 28 Tryz.underlying34 (string_keyed Tryz.underlying9) W.heap.size [(.string ⟨#[43]⟩, .func (.func 30) #[] #[]), (.string ⟨#[45]⟩, .func (.func 31) #[] #[]), (.string ⟨#[42]⟩, .func (.func 32) #[] #[]), (.string ⟨#[37]⟩, .func (.func 33) #[] #[])] rfl hT (.string ⟨#[33]⟩) (.func (.func 34) #[] #[]) rfl rfl _ (keyOf_string_mk Tryz.underlying9 (by decide)) (by simp only [List.forall_mem_cons]; exact ⟨⟨_, keyOf_string_mk Tryz.underlying9 (by decide)⟩, ⟨_, keyOf_string_mk Tryz.underlying9 (by decide)⟩, ⟨_, keyOf_string_mk Tryz.underlying9 (by decide)⟩, ⟨_, keyOf_string_mk Tryz.underlying9 (by decide)⟩, fun _ h => by cases h⟩) (by simp) ?_; clear hT; intro w1 hT hg; replace hB := mgrown hB hg (Nat.le_refl _) hB.size; clear hg)
    | fail)
  go_ret
  exact ⟨_, rfl, hT, hB⟩
theorem reckoning_keys : ∀ p ∈ RL, ∃ m, keyOf Tryz.prog 9 p.1 = some m := by
  unfold RL
  simp only [List.forall_mem_cons]
  exact ⟨⟨_, keyOf_string_mk Tryz.underlying9 (by decide)⟩, ⟨_, keyOf_string_mk Tryz.underlying9 (by decide)⟩, ⟨_, keyOf_string_mk Tryz.underlying9 (by decide)⟩, ⟨_, keyOf_string_mk Tryz.underlying9 (by decide)⟩, ⟨_, keyOf_string_mk Tryz.underlying9 (by decide)⟩, fun _ h => by cases h⟩
theorem reckoning_0 {w : World} {b : Nat} (h : Mq w b RL) : (Instr.lookup 34 (.map (some b)) (.string ⟨#[43]⟩) true).run Tryz.prog w = .ok (.tuple #[.func (.func 30) #[] #[], .bool true]) w :=
  h.look Tryz.underlying34 (string_keyed Tryz.underlying9) (keyOf_string_mk Tryz.underlying9 (by decide)) (v := .func (.func 30) #[] #[]) true reckoning_keys ⟨.func (.func 30) #[] #[], by simp [RL]⟩ (by simp [RL])
theorem reckoning_1 {w : World} {b : Nat} (h : Mq w b RL) : (Instr.lookup 34 (.map (some b)) (.string ⟨#[45]⟩) true).run Tryz.prog w = .ok (.tuple #[.func (.func 31) #[] #[], .bool true]) w :=
  h.look Tryz.underlying34 (string_keyed Tryz.underlying9) (keyOf_string_mk Tryz.underlying9 (by decide)) (v := .func (.func 31) #[] #[]) true reckoning_keys ⟨.func (.func 31) #[] #[], by simp [RL]⟩ (by simp [RL])
theorem reckoning_2 {w : World} {b : Nat} (h : Mq w b RL) : (Instr.lookup 34 (.map (some b)) (.string ⟨#[42]⟩) true).run Tryz.prog w = .ok (.tuple #[.func (.func 32) #[] #[], .bool true]) w :=
  h.look Tryz.underlying34 (string_keyed Tryz.underlying9) (keyOf_string_mk Tryz.underlying9 (by decide)) (v := .func (.func 32) #[] #[]) true reckoning_keys ⟨.func (.func 32) #[] #[], by simp [RL]⟩ (by simp [RL])
theorem reckoning_3 {w : World} {b : Nat} (h : Mq w b RL) : (Instr.lookup 34 (.map (some b)) (.string ⟨#[37]⟩) true).run Tryz.prog w = .ok (.tuple #[.func (.func 33) #[] #[], .bool true]) w :=
  h.look Tryz.underlying34 (string_keyed Tryz.underlying9) (keyOf_string_mk Tryz.underlying9 (by decide)) (v := .func (.func 33) #[] #[]) true reckoning_keys ⟨.func (.func 33) #[] #[], by simp [RL]⟩ (by simp [RL])
theorem reckoning_4 {w : World} {b : Nat} (h : Mq w b RL) : (Instr.lookup 34 (.map (some b)) (.string ⟨#[33]⟩) true).run Tryz.prog w = .ok (.tuple #[.func (.func 34) #[] #[], .bool true]) w :=
  h.look Tryz.underlying34 (string_keyed Tryz.underlying9) (keyOf_string_mk Tryz.underlying9 (by decide)) (v := .func (.func 34) #[] #[]) true reckoning_keys ⟨.func (.func 34) #[] #[], by simp [RL]⟩ (by simp [RL])
theorem reckoning_no {w : World} {b : Nat} (h : Mq w b RL) {op : ByteArray} (ho : op.size ≤ maxLen) (h0 : op ≠ ⟨#[43]⟩) (h1 : op ≠ ⟨#[45]⟩) (h2 : op ≠ ⟨#[42]⟩) (h3 : op ≠ ⟨#[37]⟩) (h4 : op ≠ ⟨#[33]⟩) : (Instr.lookup 34 (.map (some b)) (.string op) true).run Tryz.prog w = .ok (.tuple #[.nilFunc, .bool false]) w := by
  refine h.miss Tryz.underlying34 (string_keyed Tryz.underlying9) (keyOf_string_mk Tryz.underlying9 ho) true (by kernel_rfl) reckoning_keys ?_
  unfold RL
  simp only [List.forall_mem_cons]
  exact ⟨fun e => h0 (by injection e with e; exact e.symm), fun e => h1 (by injection e with e; exact e.symm), fun e => h2 (by injection e with e; exact e.symm), fun e => h3 (by injection e with e; exact e.symm), fun e => h4 (by injection e with e; exact e.symm), fun _ h => by cases h⟩
set_option maxHeartbeats 1600000 in
set_option maxRecDepth 100000 in
theorem weighing_is (W : World) : Calls Tryz.prog 15 #[] W fun e W' => ∃ b, e = .returned (.map (some b)) ∧ Mq W' b WL ∧ Below W.heap.size W W' := by
  have hmm := @run_makeMap Tryz.prog
  have hT := Mq.made W
  have hB : Below W.heap.size W (W.alloc (.map #[] 0)) := (Below.refl _ _).alloc (Nat.le_refl _) _
  go_enter Tryz.func15, Tryz.ntmps15
  go_wp2_with (first
    | (refine wpList_mput _ rfl _ _ _ 38 rfl 9 36 Tryz.underlying38 (string_keyed Tryz.underlying9) W.heap.size [] rfl hT (.string ⟨#[38]⟩) (.func (.func 35) #[] #[]) rfl rfl _ (keyOf_string_mk Tryz.underlying9 (by decide)) (fun _ h => by cases h) (by simp) ?_; clear hT; intro w1 hT hg; replace hB := mgrown hB hg (Nat.le_refl _) hB.size; clear hg)
    | (refine wpList_mput _ rfl _ _ _ 38 rfl 9 36 Tryz.underlying38 (string_keyed Tryz.underlying9) W.heap.size [(.string ⟨#[38]⟩, .func (.func 35) #[] #[])] rfl hT (.string ⟨#[124]⟩) (.func (.func 36) #[] #[]) rfl rfl _ (keyOf_string_mk Tryz.underlying9 (by decide)) (by simp only [List.forall_mem_cons]; exact ⟨⟨_, keyOf_string_mk Tryz.underlying9 (by decide)⟩, fun _ h => by cases h⟩) (by simp) ?_; clear hT; intro w1 hT hg; replace hB := mgrown hB hg (Nat.le_refl _) hB.size; clear hg)
    | (refine wpList_mput _ rfl _ _ _ 38 rfl 9 36 Tryz.underlying38 (string_keyed Tryz.underlying9) W.heap.size [(.string ⟨#[38]⟩, .func (.func 35) #[] #[]), (.string ⟨#[124]⟩, .func (.func 36) #[] #[])] rfl hT (.string ⟨#[60]⟩) (.func (.func 37) #[] #[]) rfl rfl _ (keyOf_string_mk Tryz.underlying9 (by decide)) (by simp only [List.forall_mem_cons]; exact ⟨⟨_, keyOf_string_mk Tryz.underlying9 (by decide)⟩, ⟨_, keyOf_string_mk Tryz.underlying9 (by decide)⟩, fun _ h => by cases h⟩) (by simp) ?_; clear hT; intro w1 hT hg; replace hB := mgrown hB hg (Nat.le_refl _) hB.size; clear hg)
    | (refine wpList_mput _ rfl _ _ _ 38 rfl 9 36 Tryz.underlying38 (string_keyed Tryz.underlying9) W.heap.size [(.string ⟨#[38]⟩, .func (.func 35) #[] #[]), (.string ⟨#[124]⟩, .func (.func 36) #[] #[]), (.string ⟨#[60]⟩, .func (.func 37) #[] #[])] rfl hT (.string ⟨#[62]⟩) (.func (.func 40) #[] #[]) rfl rfl _ (keyOf_string_mk Tryz.underlying9 (by decide)) (by simp only [List.forall_mem_cons]; exact ⟨⟨_, keyOf_string_mk Tryz.underlying9 (by decide)⟩, ⟨_, keyOf_string_mk Tryz.underlying9 (by decide)⟩, ⟨_, keyOf_string_mk Tryz.underlying9 (by decide)⟩, fun _ h => by cases h⟩) (by simp) ?_; clear hT; intro w1 hT hg; replace hB := mgrown hB hg (Nat.le_refl _) hB.size; clear hg)
    | (refine wpList_mput _ rfl _ _ _ 38 rfl 9 36 Tryz.underlying38 (string_keyed Tryz.underlying9) W.heap.size [(.string ⟨#[38]⟩, .func (.func 35) #[] #[]), (.string ⟨#[124]⟩, .func (.func 36) #[] #[]), (.string ⟨#[60]⟩, .func (.func 37) #[] #[]), (.string ⟨#[62]⟩, .func (.func 40) #[] #[])] rfl hT (.string ⟨#[61]⟩) (.func (.func 41) #[] #[]) rfl rfl _ (keyOf_string_mk Tryz.underlying9 (by decide)) (by simp only [List.forall_mem_cons]; exact ⟨⟨_, keyOf_string_mk Tryz.underlying9 (by decide)⟩, ⟨_, keyOf_string_mk Tryz.underlying9 (by decide)⟩, ⟨_, keyOf_string_mk Tryz.underlying9 (by decide)⟩, ⟨_, keyOf_string_mk Tryz.underlying9 (by decide)⟩, fun _ h => by cases h⟩) (by simp) ?_; clear hT; intro w1 hT hg; replace hB := mgrown hB hg (Nat.le_refl _) hB.size; clear hg)
    | (refine wpList_mput _ rfl _ _ _ 38 rfl 9 36 Tryz.underlying38 (string_keyed Tryz.underlying9) W.heap.size [(.string ⟨#[38]⟩, .func (.func 35) #[] #[]), (.string ⟨#[124]⟩, .func (.func 36) #[] #[]), (.string ⟨#[60]⟩, .func (.func 37) #[] #[]), (.string ⟨#[62]⟩, .func (.func 40) #[] #[]), (.string ⟨#[61]⟩, .func (.func 41) #[] #[])] rfl hT (.string ⟨#[126]⟩) (.func (.func 42) #[] #[]) rfl rfl _ (keyOf_string_mk Tryz.underlying9 (by decide)) (by simp only [List.forall_mem_cons]; exact ⟨⟨_, keyOf_string_mk Tryz.underlying9 (by decide)⟩, ⟨_, keyOf_string_mk Tryz.underlying9 (by decide)⟩, ⟨_, keyOf_string_mk Tryz.underlying9 (by decide)⟩, ⟨_, keyOf_string_mk Tryz.underlying9 (by decide)⟩, ⟨_, keyOf_string_mk Tryz.underlying9 (by decide)⟩, fun _ h => by cases h⟩) (by simp) ?_; clear hT; intro w1 hT hg; replace hB := mgrown hB hg (Nat.le_refl _) hB.size; clear hg)
    | fail)
  go_ret
  exact ⟨_, rfl, hT, hB⟩
theorem weighing_keys : ∀ p ∈ WL, ∃ m, keyOf Tryz.prog 9 p.1 = some m := by
  unfold WL
  simp only [List.forall_mem_cons]
  exact ⟨⟨_, keyOf_string_mk Tryz.underlying9 (by decide)⟩, ⟨_, keyOf_string_mk Tryz.underlying9 (by decide)⟩, ⟨_, keyOf_string_mk Tryz.underlying9 (by decide)⟩, ⟨_, keyOf_string_mk Tryz.underlying9 (by decide)⟩, ⟨_, keyOf_string_mk Tryz.underlying9 (by decide)⟩, ⟨_, keyOf_string_mk Tryz.underlying9 (by decide)⟩, fun _ h => by cases h⟩
theorem weighing_0 {w : World} {b : Nat} (h : Mq w b WL) : (Instr.lookup 38 (.map (some b)) (.string ⟨#[38]⟩) true).run Tryz.prog w = .ok (.tuple #[.func (.func 35) #[] #[], .bool true]) w :=
  h.look Tryz.underlying38 (string_keyed Tryz.underlying9) (keyOf_string_mk Tryz.underlying9 (by decide)) (v := .func (.func 35) #[] #[]) true weighing_keys ⟨.func (.func 35) #[] #[], by simp [WL]⟩ (by simp [WL])
theorem weighing_1 {w : World} {b : Nat} (h : Mq w b WL) : (Instr.lookup 38 (.map (some b)) (.string ⟨#[124]⟩) true).run Tryz.prog w = .ok (.tuple #[.func (.func 36) #[] #[], .bool true]) w :=
  h.look Tryz.underlying38 (string_keyed Tryz.underlying9) (keyOf_string_mk Tryz.underlying9 (by decide)) (v := .func (.func 36) #[] #[]) true weighing_keys ⟨.func (.func 36) #[] #[], by simp [WL]⟩ (by simp [WL])
theorem weighing_2 {w : World} {b : Nat} (h : Mq w b WL) : (Instr.lookup 38 (.map (some b)) (.string ⟨#[60]⟩) true).run Tryz.prog w = .ok (.tuple #[.func (.func 37) #[] #[], .bool true]) w :=
  h.look Tryz.underlying38 (string_keyed Tryz.underlying9) (keyOf_string_mk Tryz.underlying9 (by decide)) (v := .func (.func 37) #[] #[]) true weighing_keys ⟨.func (.func 37) #[] #[], by simp [WL]⟩ (by simp [WL])
theorem weighing_3 {w : World} {b : Nat} (h : Mq w b WL) : (Instr.lookup 38 (.map (some b)) (.string ⟨#[62]⟩) true).run Tryz.prog w = .ok (.tuple #[.func (.func 40) #[] #[], .bool true]) w :=
  h.look Tryz.underlying38 (string_keyed Tryz.underlying9) (keyOf_string_mk Tryz.underlying9 (by decide)) (v := .func (.func 40) #[] #[]) true weighing_keys ⟨.func (.func 40) #[] #[], by simp [WL]⟩ (by simp [WL])
theorem weighing_4 {w : World} {b : Nat} (h : Mq w b WL) : (Instr.lookup 38 (.map (some b)) (.string ⟨#[61]⟩) true).run Tryz.prog w = .ok (.tuple #[.func (.func 41) #[] #[], .bool true]) w :=
  h.look Tryz.underlying38 (string_keyed Tryz.underlying9) (keyOf_string_mk Tryz.underlying9 (by decide)) (v := .func (.func 41) #[] #[]) true weighing_keys ⟨.func (.func 41) #[] #[], by simp [WL]⟩ (by simp [WL])
theorem weighing_5 {w : World} {b : Nat} (h : Mq w b WL) : (Instr.lookup 38 (.map (some b)) (.string ⟨#[126]⟩) true).run Tryz.prog w = .ok (.tuple #[.func (.func 42) #[] #[], .bool true]) w :=
  h.look Tryz.underlying38 (string_keyed Tryz.underlying9) (keyOf_string_mk Tryz.underlying9 (by decide)) (v := .func (.func 42) #[] #[]) true weighing_keys ⟨.func (.func 42) #[] #[], by simp [WL]⟩ (by simp [WL])
theorem weighing_no {w : World} {b : Nat} (h : Mq w b WL) {op : ByteArray} (ho : op.size ≤ maxLen) (h0 : op ≠ ⟨#[38]⟩) (h1 : op ≠ ⟨#[124]⟩) (h2 : op ≠ ⟨#[60]⟩) (h3 : op ≠ ⟨#[62]⟩) (h4 : op ≠ ⟨#[61]⟩) (h5 : op ≠ ⟨#[126]⟩) : (Instr.lookup 38 (.map (some b)) (.string op) true).run Tryz.prog w = .ok (.tuple #[.nilFunc, .bool false]) w := by
  refine h.miss Tryz.underlying38 (string_keyed Tryz.underlying9) (keyOf_string_mk Tryz.underlying9 ho) true (by kernel_rfl) weighing_keys ?_
  unfold WL
  simp only [List.forall_mem_cons]
  exact ⟨fun e => h0 (by injection e with e; exact e.symm), fun e => h1 (by injection e with e; exact e.symm), fun e => h2 (by injection e with e; exact e.symm), fun e => h3 (by injection e with e; exact e.symm), fun e => h4 (by injection e with e; exact e.symm), fun e => h5 (by injection e with e; exact e.symm), fun _ h => by cases h⟩
set_option maxHeartbeats 1600000 in
set_option maxRecDepth 100000 in
theorem turning_is (W : World) : Calls Tryz.prog 24 #[] W fun e W' => ∃ b, e = .returned (.map (some b)) ∧ Mq W' b ML ∧ Below W.heap.size W W' := by
  have hmm := @run_makeMap Tryz.prog
  have hT := Mq.made W
  have hB : Below W.heap.size W (W.alloc (.map #[] 0)) := (Below.refl _ _).alloc (Nat.le_refl _) _
  go_enter Tryz.func24, Tryz.ntmps24
  go_wp2_with (first
    | (refine wpList_mput _ rfl _ _ _ 44 rfl 9 42 Tryz.underlying44 (string_keyed Tryz.underlying9) W.heap.size [] rfl hT (.string ⟨#[45]⟩) (.func (.func 49) #[] #[]) rfl rfl _ (keyOf_string_mk Tryz.underlying9 (by decide)) (fun _ h => by cases h) (by simp) ?_; clear hT; intro w1 hT hg; replace hB := mgrown hB hg (Nat.le_refl _) hB.size; clear hg)
    | (refine wpList_mput _ rfl _ _ _ 44 rfl 9 42 Tryz.underlying44 (string_keyed Tryz.underlying9) W.heap.size [(.string ⟨#[45]⟩, .func (.func 49) #[] #[])] rfl hT (.string ⟨#[126]⟩) (.func (.func 50) #[] #[]) rfl rfl _ (keyOf_string_mk Tryz.underlying9 (by decide)) (by simp only [List.forall_mem_cons]; exact ⟨⟨_, keyOf_string_mk Tryz.underlying9 (by decide)⟩, fun _ h => by cases h⟩) (by simp) ?_; clear hT; intro w1 hT hg; replace hB := mgrown hB hg (Nat.le_refl _) hB.size; clear hg)
    | (refine wpList_mput _ rfl _ _ _ 44 rfl 9 42 Tryz.underlying44 (string_keyed Tryz.underlying9) W.heap.size [(.string ⟨#[45]⟩, .func (.func 49) #[] #[]), (.string ⟨#[126]⟩, .func (.func 50) #[] #[])] rfl hT (.string ⟨#[42]⟩) (.func (.func 52) #[] #[]) rfl rfl _ (keyOf_string_mk Tryz.underlying9 (by decide)) (by simp only [List.forall_mem_cons]; exact ⟨⟨_, keyOf_string_mk Tryz.underlying9 (by decide)⟩, ⟨_, keyOf_string_mk Tryz.underlying9 (by decide)⟩, fun _ h => by cases h⟩) (by simp) ?_; clear hT; intro w1 hT hg; replace hB := mgrown hB hg (Nat.le_refl _) hB.size; clear hg)
    | fail)
  go_ret
  exact ⟨_, rfl, hT, hB⟩
theorem turning_keys : ∀ p ∈ ML, ∃ m, keyOf Tryz.prog 9 p.1 = some m := by
  unfold ML
  simp only [List.forall_mem_cons]
  exact ⟨⟨_, keyOf_string_mk Tryz.underlying9 (by decide)⟩, ⟨_, keyOf_string_mk Tryz.underlying9 (by decide)⟩, ⟨_, keyOf_string_mk Tryz.underlying9 (by decide)⟩, fun _ h => by cases h⟩
theorem turning_0 {w : World} {b : Nat} (h : Mq w b ML) : (Instr.lookup 44 (.map (some b)) (.string ⟨#[45]⟩) true).run Tryz.prog w = .ok (.tuple #[.func (.func 49) #[] #[], .bool true]) w :=
  h.look Tryz.underlying44 (string_keyed Tryz.underlying9) (keyOf_string_mk Tryz.underlying9 (by decide)) (v := .func (.func 49) #[] #[]) true turning_keys ⟨.func (.func 49) #[] #[], by simp [ML]⟩ (by simp [ML])
theorem turning_1 {w : World} {b : Nat} (h : Mq w b ML) : (Instr.lookup 44 (.map (some b)) (.string ⟨#[126]⟩) true).run Tryz.prog w = .ok (.tuple #[.func (.func 50) #[] #[], .bool true]) w :=
  h.look Tryz.underlying44 (string_keyed Tryz.underlying9) (keyOf_string_mk Tryz.underlying9 (by decide)) (v := .func (.func 50) #[] #[]) true turning_keys ⟨.func (.func 50) #[] #[], by simp [ML]⟩ (by simp [ML])
theorem turning_2 {w : World} {b : Nat} (h : Mq w b ML) : (Instr.lookup 44 (.map (some b)) (.string ⟨#[42]⟩) true).run Tryz.prog w = .ok (.tuple #[.func (.func 52) #[] #[], .bool true]) w :=
  h.look Tryz.underlying44 (string_keyed Tryz.underlying9) (keyOf_string_mk Tryz.underlying9 (by decide)) (v := .func (.func 52) #[] #[]) true turning_keys ⟨.func (.func 52) #[] #[], by simp [ML]⟩ (by simp [ML])
theorem turning_no {w : World} {b : Nat} (h : Mq w b ML) {op : ByteArray} (ho : op.size ≤ maxLen) (h0 : op ≠ ⟨#[45]⟩) (h1 : op ≠ ⟨#[126]⟩) (h2 : op ≠ ⟨#[42]⟩) : (Instr.lookup 44 (.map (some b)) (.string op) true).run Tryz.prog w = .ok (.tuple #[.nilFunc, .bool false]) w := by
  refine h.miss Tryz.underlying44 (string_keyed Tryz.underlying9) (keyOf_string_mk Tryz.underlying9 ho) true (by kernel_rfl) turning_keys ?_
  unfold ML
  simp only [List.forall_mem_cons]
  exact ⟨fun e => h0 (by injection e with e; exact e.symm), fun e => h1 (by injection e with e; exact e.symm), fun e => h2 (by injection e with e; exact e.symm), fun _ h => by cases h⟩

end Go.Proofs.YtogphdflgcdiiaaGreatDoor

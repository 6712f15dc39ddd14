import Derived.Test.YtogphdflgcdiiaaDoorMbi
import Derived.Test.YtogphdflgcdiiaaDoorMbl
import Derived.Test.YtogphdflgcdiiaaDoorMbm
/-
  What signs do, looked up in the maps that functions make: the maps in memory, what is found in them.
-/
namespace Go.Proofs.YtogphdflgcdiiaaDoor
set_option linter.unusedVariables false
set_option linter.unusedSimpArgs false
open Go.RowKit Go.Maps Go.MapKept Go.WideMaps

def fnV (f : Nat) : Value := .func (.func f) #[] #[]
/-- What the signs do that may find no number; that hold two against each other; of one. -/
def RL : List (Value × Value) := [(.string ⟨#[43]⟩, .func (.func 25) #[] #[]), (.string ⟨#[45]⟩, .func (.func 26) #[] #[]), (.string ⟨#[42]⟩, .func (.func 27) #[] #[]), (.string ⟨#[37]⟩, .func (.func 28) #[] #[]), (.string ⟨#[33]⟩, .func (.func 29) #[] #[])]
def WL : List (Value × Value) := [(.string ⟨#[38]⟩, .func (.func 30) #[] #[]), (.string ⟨#[124]⟩, .func (.func 31) #[] #[]), (.string ⟨#[60]⟩, .func (.func 32) #[] #[]), (.string ⟨#[62]⟩, .func (.func 34) #[] #[]), (.string ⟨#[61]⟩, .func (.func 35) #[] #[]), (.string ⟨#[126]⟩, .func (.func 36) #[] #[])]
def ML : List (Value × Value) := [(.string ⟨#[45]⟩, .func (.func 42) #[] #[]), (.string ⟨#[126]⟩, .func (.func 43) #[] #[]), (.string ⟨#[42]⟩, .func (.func 45) #[] #[])]
set_option maxHeartbeats 1600000 in
set_option maxRecDepth 100000 in
theorem reckoning_is (W : World) : Calls Tryd.prog 18 #[] W fun e W' => ∃ b, e = .returned (.map (some b)) ∧ Mq W' b RL ∧ Below W.heap.size W W' := by
  have hmm := @run_makeMap Tryd.prog
  have hT := Mq.made W
  have hB : Below W.heap.size W (W.alloc (.map #[] 0)) := (Below.refl _ _).alloc (Nat.le_refl _) _
  go_enter Tryd.func18, Tryd.ntmps18
  go_wp2_with (first
    | (refine wpList_mput _ rfl _ _ _ 37 rfl 9 33 Tryd.underlying37 (string_keyed Tryd.underlying9) W.heap.size [] rfl hT (.string ⟨#[43]⟩) (.func (.func 25) #[] #[]) rfl rfl _ (keyOf_string_mk Tryd.underlying9 (by decide)) (fun _ h => by cases h) (by simp) ?_; clear hT; intro w1 hT hg; replace hB := mgrown hB hg (Nat.le_refl _) hB.size; clear hg)
    | (refine wpList_mput _ rfl _ _ _ 37 rfl 9 33 Tryd.underlying37 (string_keyed Tryd.underlying9) W.heap.size [(.string ⟨#[43]⟩, .func (.func 25) #[] #[])] rfl hT (.string ⟨#[45]⟩) (.func (.func 26) #[] #[]) rfl rfl _ (keyOf_string_mk Tryd.underlying9 (by decide)) (by simp only [List.forall_mem_cons]; exact ⟨⟨_, keyOf_string_mk Tryd.underlying9 (by decide)⟩, fun _ h => by cases h⟩) (by simp) ?_; clear hT; intro w1 hT hg; replace hB := mgrown hB hg (Nat.le_refl _) hB.size; clear hg)
    | (refine wpList_mput _ rfl _ _ _ 37 rfl 9 33 Tryd.underlying37 (string_keyed Tryd.underlying9) W.heap.size [(.string ⟨#[43]⟩, .func (.func 25) #[] #[]), (.string ⟨#[45]⟩, .func (.func 26) #[] #[])] rfl hT (.string ⟨#[42]⟩) (.func (.func 27) #[] #[]) rfl rfl _ (keyOf_string_mk Tryd.underlying9 (by decide)) (by simp only [List.forall_mem_cons]; exact ⟨⟨_, keyOf_string_mk Tryd.underlying9 (by decide)⟩, ⟨_, keyOf_string_mk Tryd.underlying9 (by decide)⟩, fun _ h => by cases h⟩) (by simp) ?_; clear hT; intro w1 hT hg; replace hB := mgrown hB hg (Nat.le_refl _) hB.size; clear hg)
    | (refine wpList_mput _ rfl _ _ _ 37 rfl 9 33 Tryd.underlying37 (string_keyed Tryd.underlying9) W.heap.size [(.string ⟨#[43]⟩, .func (.func 25) #[] #[]), (.string ⟨#[45]⟩, .func (.func 26) #[] #[]), (.string ⟨#[42]⟩, .func (.func 27) #[] #[])] rfl hT (.string ⟨#[37]⟩) (.func (.func 28) #[] #[]) rfl rfl _ (keyOf_string_mk Tryd.underlying9 (by decide)) (by simp only [List.forall_mem_cons]; exact ⟨⟨_, keyOf_string_mk Tryd.underlying9 (by decide)⟩, ⟨_, keyOf_string_mk Tryd.underlying9 (by decide)⟩, ⟨_, keyOf_string_mk Tryd.underlying9 (by decide)⟩, fun _ h => by cases h⟩) (by simp) ?_; clear hT; intro w1 hT hg; replace hB := mgrown hB hg (Nat.le_refl _) hB.size; clear hg)
    | (refine wpList_mput _ rfl _ _ _ 37 rfl 9 33 Tryd.underlying37 (string_keyed Tryd.underlying9) W.heap.size [(.string ⟨#[43]⟩, .func (.func 25) #[] #[]), (.string ⟨#[45]⟩, .func (.func 26) #[] #[]), (.string ⟨#[42]⟩, .func (.func 27) #[] #[]), (.string ⟨#[37]⟩, .func (.func 28) #[] #[])] rfl hT (.string ⟨#[33]⟩) (.func (.func 29) #[] #[]) rfl rfl _ (keyOf_string_mk Tryd.underlying9 (by decide)) (by simp only [List.forall_mem_cons]; exact ⟨⟨_, keyOf_string_mk Tryd.underlying9 (by decide)⟩, ⟨_, keyOf_string_mk Tryd.underlying9 (by decide)⟩, ⟨_, keyOf_string_mk Tryd.underlying9 (by decide)⟩, ⟨_, keyOf_string_mk Tryd.underlying9 (by decide)⟩, fun _ h => by cases h⟩) (by simp) ?_; clear hT; intro w1 hT hg; replace hB := mgrown hB hg (Nat.le_refl _) hB.size; clear hg)
    | fail)
  go_ret
  exact ⟨_, rfl, hT, hB⟩
theorem reckoning_keys : ∀ p ∈ RL, ∃ m, keyOf Tryd.prog 9 p.1 = some m := by
  unfold RL
  simp only [List.forall_mem_cons]
  exact ⟨⟨_, keyOf_string_mk Tryd.underlying9 (by decide)⟩, ⟨_, keyOf_string_mk Tryd.underlying9 (by decide)⟩, ⟨_, keyOf_string_mk Tryd.underlying9 (by decide)⟩, ⟨_, keyOf_string_mk Tryd.underlying9 (by decide)⟩, ⟨_, keyOf_string_mk Tryd.underlying9 (by decide)⟩, fun _ h => by cases h⟩
theorem reckoning_0 {w : World} {b : Nat} (h : Mq w b RL) : (Instr.lookup 37 (.map (some b)) (.string ⟨#[43]⟩) true).run Tryd.prog w = .ok (.tuple #[.func (.func 25) #[] #[], .bool true]) w :=
  h.look Tryd.underlying37 (string_keyed Tryd.underlying9) (keyOf_string_mk Tryd.underlying9 (by decide)) (v := .func (.func 25) #[] #[]) true reckoning_keys ⟨.func (.func 25) #[] #[], by simp [RL]⟩ (by simp [RL])
theorem reckoning_1 {w : World} {b : Nat} (h : Mq w b RL) : (Instr.lookup 37 (.map (some b)) (.string ⟨#[45]⟩) true).run Tryd.prog w = .ok (.tuple #[.func (.func 26) #[] #[], .bool true]) w :=
  h.look Tryd.underlying37 (string_keyed Tryd.underlying9) (keyOf_string_mk Tryd.underlying9 (by decide)) (v := .func (.func 26) #[] #[]) true reckoning_keys ⟨.func (.func 26) #[] #[], by simp [RL]⟩ (by simp [RL])
theorem reckoning_2 {w : World} {b : Nat} (h : Mq w b RL) : (Instr.lookup 37 (.map (some b)) (.string ⟨#[42]⟩) true).run Tryd.prog w = .ok (.tuple #[.func (.func 27) #[] #[], .bool true]) w :=
  h.look Tryd.underlying37 (string_keyed Tryd.underlying9) (keyOf_string_mk Tryd.underlying9 (by decide)) (v := .func (.func 27) #[] #[]) true reckoning_keys ⟨.func (.func 27) #[] #[], by simp [RL]⟩ (by simp [RL])
theorem reckoning_3 {w : World} {b : Nat} (h : Mq w b RL) : (Instr.lookup 37 (.map (some b)) (.string ⟨#[37]⟩) true).run Tryd.prog w = .ok (.tuple #[.func (.func 28) #[] #[], .bool true]) w :=
  h.look Tryd.underlying37 (string_keyed Tryd.underlying9) (keyOf_string_mk Tryd.underlying9 (by decide)) (v := .func (.func 28) #[] #[]) true reckoning_keys ⟨.func (.func 28) #[] #[], by simp [RL]⟩ (by simp [RL])
theorem reckoning_4 {w : World} {b : Nat} (h : Mq w b RL) : (Instr.lookup 37 (.map (some b)) (.string ⟨#[33]⟩) true).run Tryd.prog w = .ok (.tuple #[.func (.func 29) #[] #[], .bool true]) w :=
  h.look Tryd.underlying37 (string_keyed Tryd.underlying9) (keyOf_string_mk Tryd.underlying9 (by decide)) (v := .func (.func 29) #[] #[]) true reckoning_keys ⟨.func (.func 29) #[] #[], by simp [RL]⟩ (by simp [RL])
theorem reckoning_no {w : World} {b : Nat} (h : Mq w b RL) {op : ByteArray} (ho : op.size ≤ maxLen) (h0 : op ≠ ⟨#[43]⟩) (h1 : op ≠ ⟨#[45]⟩) (h2 : op ≠ ⟨#[42]⟩) (h3 : op ≠ ⟨#[37]⟩) (h4 : op ≠ ⟨#[33]⟩) : (Instr.lookup 37 (.map (some b)) (.string op) true).run Tryd.prog w = .ok (.tuple #[.nilFunc, .bool false]) w := by
  refine h.miss Tryd.underlying37 (string_keyed Tryd.underlying9) (keyOf_string_mk Tryd.underlying9 ho) true (by kernel_rfl) reckoning_keys ?_
  unfold RL
  simp only [List.forall_mem_cons]
  exact ⟨fun e => h0 (by injection e with e; exact e.symm), fun e => h1 (by injection e with e; exact e.symm), fun e => h2 (by injection e with e; exact e.symm), fun e => h3 (by injection e with e; exact e.symm), fun e => h4 (by injection e with e; exact e.symm), fun _ h => by cases h⟩
set_option maxHeartbeats 1600000 in
set_option maxRecDepth 100000 in
theorem weighing_is (W : World) : Calls Tryd.prog 19 #[] W fun e W' => ∃ b, e = .returned (.map (some b)) ∧ Mq W' b WL ∧ Below W.heap.size W W' := by
  have hmm := @run_makeMap Tryd.prog
  have hT := Mq.made W
  have hB : Below W.heap.size W (W.alloc (.map #[] 0)) := (Below.refl _ _).alloc (Nat.le_refl _) _
  go_enter Tryd.func19, Tryd.ntmps19
  go_wp2_with (first
    | (refine wpList_mput _ rfl _ _ _ 40 rfl 9 35 Tryd.underlying40 (string_keyed Tryd.underlying9) W.heap.size [] rfl hT (.string ⟨#[38]⟩) (.func (.func 30) #[] #[]) rfl rfl _ (keyOf_string_mk Tryd.underlying9 (by decide)) (fun _ h => by cases h) (by simp) ?_; clear hT; intro w1 hT hg; replace hB := mgrown hB hg (Nat.le_refl _) hB.size; clear hg)
    | (refine wpList_mput _ rfl _ _ _ 40 rfl 9 35 Tryd.underlying40 (string_keyed Tryd.underlying9) W.heap.size [(.string ⟨#[38]⟩, .func (.func 30) #[] #[])] rfl hT (.string ⟨#[124]⟩) (.func (.func 31) #[] #[]) rfl rfl _ (keyOf_string_mk Tryd.underlying9 (by decide)) (by simp only [List.forall_mem_cons]; exact ⟨⟨_, keyOf_string_mk Tryd.underlying9 (by decide)⟩, fun _ h => by cases h⟩) (by simp) ?_; clear hT; intro w1 hT hg; replace hB := mgrown hB hg (Nat.le_refl _) hB.size; clear hg)
    | (refine wpList_mput _ rfl _ _ _ 40 rfl 9 35 Tryd.underlying40 (string_keyed Tryd.underlying9) W.heap.size [(.string ⟨#[38]⟩, .func (.func 30) #[] #[]), (.string ⟨#[124]⟩, .func (.func 31) #[] #[])] rfl hT (.string ⟨#[60]⟩) (.func (.func 32) #[] #[]) rfl rfl _ (keyOf_string_mk Tryd.underlying9 (by decide)) (by simp only [List.forall_mem_cons]; exact ⟨⟨_, keyOf_string_mk Tryd.underlying9 (by decide)⟩, ⟨_, keyOf_string_mk Tryd.underlying9 (by decide)⟩, fun _ h => by cases h⟩) (by simp) ?_; clear hT; intro w1 hT hg; replace hB := mgrown hB hg (Nat.le_refl _) hB.size; clear hg)
    | (refine wpList_mput _ rfl _ _ _ 40 rfl 9 35 Tryd.underlying40 (string_keyed Tryd.underlying9) W.heap.size [(.string ⟨#[38]⟩, .func (.func 30) #[] #[]), (.string ⟨#[124]⟩, .func (.func 31) #[] #[]), (.string ⟨#[60]⟩, .func (.func 32) #[] #[])] rfl hT (.string ⟨#[62]⟩) (.func (.func 34) #[] #[]) rfl rfl _ (keyOf_string_mk Tryd.underlying9 (by decide)) (by simp only [List.forall_mem_cons]; exact ⟨⟨_, keyOf_string_mk Tryd.underlying9 (by decide)⟩, ⟨_, keyOf_string_mk Tryd.underlying9 (by decide)⟩, ⟨_, keyOf_string_mk Tryd.underlying9 (by decide)⟩, fun _ h => by cases h⟩) (by simp) ?_; clear hT; intro w1 hT hg; replace hB := mgrown hB hg (Nat.le_refl _) hB.size; clear hg)
    | (refine wpList_mput _ rfl _ _ _ 40 rfl 9 35 Tryd.underlying40 (string_keyed Tryd.underlying9) W.heap.size [(.string ⟨#[38]⟩, .func (.func 30) #[] #[]), (.string ⟨#[124]⟩, .func (.func 31) #[] #[]), (.string ⟨#[60]⟩, .func (.func 32) #[] #[]), (.string ⟨#[62]⟩, .func (.func 34) #[] #[])] rfl hT (.string ⟨#[61]⟩) (.func (.func 35) #[] #[]) rfl rfl _ (keyOf_string_mk Tryd.underlying9 (by decide)) (by simp only [List.forall_mem_cons]; exact ⟨⟨_, keyOf_string_mk Tryd.underlying9 (by decide)⟩, ⟨_, keyOf_string_mk Tryd.underlying9 (by decide)⟩, ⟨_, keyOf_string_mk Tryd.underlying9 (by decide)⟩, ⟨_, keyOf_string_mk Tryd.underlying9 (by decide)⟩, fun _ h => by cases h⟩) (by simp) ?_; clear hT; intro w1 hT hg; replace hB := mgrown hB hg (Nat.le_refl _) hB.size; clear hg)
    | (refine wpList_mput _ rfl _ _ _ 40 rfl 9 35 Tryd.underlying40 (string_keyed Tryd.underlying9) W.heap.size [(.string ⟨#[38]⟩, .func (.func 30) #[] #[]), (.string ⟨#[124]⟩, .func (.func 31) #[] #[]), (.string ⟨#[60]⟩, .func (.func 32) #[] #[]), (.string ⟨#[62]⟩, .func (.func 34) #[] #[]), (.string ⟨#[61]⟩, .func (.func 35) #[] #[])] rfl hT (.string ⟨#[126]⟩) (.func (.func 36) #[] #[]) rfl rfl _ (keyOf_string_mk Tryd.underlying9 (by decide)) (by simp only [List.forall_mem_cons]; exact ⟨⟨_, keyOf_string_mk Tryd.underlying9 (by decide)⟩, ⟨_, keyOf_string_mk Tryd.underlying9 (by decide)⟩, ⟨_, keyOf_string_mk Tryd.underlying9 (by decide)⟩, ⟨_, keyOf_string_mk Tryd.underlying9 (by decide)⟩, ⟨_, keyOf_string_mk Tryd.underlying9 (by decide)⟩, fun _ h => by cases h⟩) (by simp) ?_; clear hT; intro w1 hT hg; replace hB := mgrown hB hg (Nat.le_refl _) hB.size; clear hg)
    | fail)
  go_ret
  exact ⟨_, rfl, hT, hB⟩
theorem weighing_keys : ∀ p ∈ WL, ∃ m, keyOf Tryd.prog 9 p.1 = some m := by
  unfold WL
  simp only [List.forall_mem_cons]
  exact ⟨⟨_, keyOf_string_mk Tryd.underlying9 (by decide)⟩, ⟨_, keyOf_string_mk Tryd.underlying9 (by decide)⟩, ⟨_, keyOf_string_mk Tryd.underlying9 (by decide)⟩, ⟨_, keyOf_string_mk Tryd.underlying9 (by decide)⟩, ⟨_, keyOf_string_mk Tryd.underlying9 (by decide)⟩, ⟨_, keyOf_string_mk Tryd.underlying9 (by decide)⟩, fun _ h => by cases h⟩
theorem weighing_0 {w : World} {b : Nat} (h : Mq w b WL) : (Instr.lookup 40 (.map (some b)) (.string ⟨#[38]⟩) true).run Tryd.prog w = .ok (.tuple #[.func (.func 30) #[] #[], .bool true]) w :=
  h.look Tryd.underlying40 (string_keyed Tryd.underlying9) (keyOf_string_mk Tryd.underlying9 (by decide)) (v := .func (.func 30) #[] #[]) true weighing_keys ⟨.func (.func 30) #[] #[], by simp [WL]⟩ (by simp [WL])
theorem weighing_1 {w : World} {b : Nat} (h : Mq w b WL) : (Instr.lookup 40 (.map (some b)) (.string ⟨#[124]⟩) true).run Tryd.prog w = .ok (.tuple #[.func (.func 31) #[] #[], .bool true]) w :=
  h.look Tryd.underlying40 (string_keyed Tryd.underlying9) (keyOf_string_mk Tryd.underlying9 (by decide)) (v := .func (.func 31) #[] #[]) true weighing_keys ⟨.func (.func 31) #[] #[], by simp [WL]⟩ (by simp [WL])
theorem weighing_2 {w : World} {b : Nat} (h : Mq w b WL) : (Instr.lookup 40 (.map (some b)) (.string ⟨#[60]⟩) true).run Tryd.prog w = .ok (.tuple #[.func (.func 32) #[] #[], .bool true]) w :=
  h.look Tryd.underlying40 (string_keyed Tryd.underlying9) (keyOf_string_mk Tryd.underlying9 (by decide)) (v := .func (.func 32) #[] #[]) true weighing_keys ⟨.func (.func 32) #[] #[], by simp [WL]⟩ (by simp [WL])
theorem weighing_3 {w : World} {b : Nat} (h : Mq w b WL) : (Instr.lookup 40 (.map (some b)) (.string ⟨#[62]⟩) true).run Tryd.prog w = .ok (.tuple #[.func (.func 34) #[] #[], .bool true]) w :=
  h.look Tryd.underlying40 (string_keyed Tryd.underlying9) (keyOf_string_mk Tryd.underlying9 (by decide)) (v := .func (.func 34) #[] #[]) true weighing_keys ⟨.func (.func 34) #[] #[], by simp [WL]⟩ (by simp [WL])
theorem weighing_4 {w : World} {b : Nat} (h : Mq w b WL) : (Instr.lookup 40 (.map (some b)) (.string ⟨#[61]⟩) true).run Tryd.prog w = .ok (.tuple #[.func (.func 35) #[] #[], .bool true]) w :=
  h.look Tryd.underlying40 (string_keyed Tryd.underlying9) (keyOf_string_mk Tryd.underlying9 (by decide)) (v := .func (.func 35) #[] #[]) true weighing_keys ⟨.func (.func 35) #[] #[], by simp [WL]⟩ (by simp [WL])
theorem weighing_5 {w : World} {b : Nat} (h : Mq w b WL) : (Instr.lookup 40 (.map (some b)) (.string ⟨#[126]⟩) true).run Tryd.prog w = .ok (.tuple #[.func (.func 36) #[] #[], .bool true]) w :=
  h.look Tryd.underlying40 (string_keyed Tryd.underlying9) (keyOf_string_mk Tryd.underlying9 (by decide)) (v := .func (.func 36) #[] #[]) true weighing_keys ⟨.func (.func 36) #[] #[], by simp [WL]⟩ (by simp [WL])
theorem weighing_no {w : World} {b : Nat} (h : Mq w b WL) {op : ByteArray} (ho : op.size ≤ maxLen) (h0 : op ≠ ⟨#[38]⟩) (h1 : op ≠ ⟨#[124]⟩) (h2 : op ≠ ⟨#[60]⟩) (h3 : op ≠ ⟨#[62]⟩) (h4 : op ≠ ⟨#[61]⟩) (h5 : op ≠ ⟨#[126]⟩) : (Instr.lookup 40 (.map (some b)) (.string op) true).run Tryd.prog w = .ok (.tuple #[.nilFunc, .bool false]) w := by
  refine h.miss Tryd.underlying40 (string_keyed Tryd.underlying9) (keyOf_string_mk Tryd.underlying9 ho) true (by kernel_rfl) weighing_keys ?_
  unfold WL
  simp only [List.forall_mem_cons]
  exact ⟨fun e => h0 (by injection e with e; exact e.symm), fun e => h1 (by injection e with e; exact e.symm), fun e => h2 (by injection e with e; exact e.symm), fun e => h3 (by injection e with e; exact e.symm), fun e => h4 (by injection e with e; exact e.symm), fun e => h5 (by injection e with e; exact e.symm), fun _ h => by cases h⟩
set_option maxHeartbeats 1600000 in
set_option maxRecDepth 100000 in
theorem turning_is (W : World) : Calls Tryd.prog 23 #[] W fun e W' => ∃ b, e = .returned (.map (some b)) ∧ Mq W' b ML ∧ Below W.heap.size W W' := by
  have hmm := @run_makeMap Tryd.prog
  have hT := Mq.made W
  have hB : Below W.heap.size W (W.alloc (.map #[] 0)) := (Below.refl _ _).alloc (Nat.le_refl _) _
  go_enter Tryd.func23, Tryd.ntmps23
  go_wp2_with (first
    | (refine wpList_mput _ rfl _ _ _ 56 rfl 9 54 Tryd.underlying56 (string_keyed Tryd.underlying9) W.heap.size [] rfl hT (.string ⟨#[45]⟩) (.func (.func 42) #[] #[]) rfl rfl _ (keyOf_string_mk Tryd.underlying9 (by decide)) (fun _ h => by cases h) (by simp) ?_; clear hT; intro w1 hT hg; replace hB := mgrown hB hg (Nat.le_refl _) hB.size; clear hg)
    | (refine wpList_mput _ rfl _ _ _ 56 rfl 9 54 Tryd.underlying56 (string_keyed Tryd.underlying9) W.heap.size [(.string ⟨#[45]⟩, .func (.func 42) #[] #[])] rfl hT (.string ⟨#[126]⟩) (.func (.func 43) #[] #[]) rfl rfl _ (keyOf_string_mk Tryd.underlying9 (by decide)) (by simp only [List.forall_mem_cons]; exact ⟨⟨_, keyOf_string_mk Tryd.underlying9 (by decide)⟩, fun _ h => by cases h⟩) (by simp) ?_; clear hT; intro w1 hT hg; replace hB := mgrown hB hg (Nat.le_refl _) hB.size; clear hg)
    | (refine wpList_mput _ rfl _ _ _ 56 rfl 9 54 Tryd.underlying56 (string_keyed Tryd.underlying9) W.heap.size [(.string ⟨#[45]⟩, .func (.func 42) #[] #[]), (.string ⟨#[126]⟩, .func (.func 43) #[] #[])] rfl hT (.string ⟨#[42]⟩) (.func (.func 45) #[] #[]) rfl rfl _ (keyOf_string_mk Tryd.underlying9 (by decide)) (by simp only [List.forall_mem_cons]; exact ⟨⟨_, keyOf_string_mk Tryd.underlying9 (by decide)⟩, ⟨_, keyOf_string_mk Tryd.underlying9 (by decide)⟩, fun _ h => by cases h⟩) (by simp) ?_; clear hT; intro w1 hT hg; replace hB := mgrown hB hg (Nat.le_refl _) hB.size; clear hg)
    | fail)
  go_ret
  exact ⟨_, rfl, hT, hB⟩
theorem turning_keys : ∀ p ∈ ML, ∃ m, keyOf Tryd.prog 9 p.1 = some m := by
  unfold ML
  simp only [List.forall_mem_cons]
  exact ⟨⟨_, keyOf_string_mk Tryd.underlying9 (by decide)⟩, ⟨_, keyOf_string_mk Tryd.underlying9 (by decide)⟩, ⟨_, keyOf_string_mk Tryd.underlying9 (by decide)⟩, fun _ h => by cases h⟩
theorem turning_0 {w : World} {b : Nat} (h : Mq w b ML) : (Instr.lookup 56 (.map (some b)) (.string ⟨#[45]⟩) true).run Tryd.prog w = .ok (.tuple #[.func (.func 42) #[] #[], .bool true]) w :=
  h.look Tryd.underlying56 (string_keyed Tryd.underlying9) (keyOf_string_mk Tryd.underlying9 (by decide)) (v := .func (.func 42) #[] #[]) true turning_keys ⟨.func (.func 42) #[] #[], by simp [ML]⟩ (by simp [ML])
theorem turning_1 {w : World} {b : Nat} (h : Mq w b ML) : (Instr.lookup 56 (.map (some b)) (.string ⟨#[126]⟩) true).run Tryd.prog w = .ok (.tuple #[.func (.func 43) #[] #[], .bool true]) w :=
  h.look Tryd.underlying56 (string_keyed Tryd.underlying9) (keyOf_string_mk Tryd.underlying9 (by decide)) (v := .func (.func 43) #[] #[]) true turning_keys ⟨.func (.func 43) #[] #[], by simp [ML]⟩ (by simp [ML])
theorem turning_2 {w : World} {b : Nat} (h : Mq w b ML) : (Instr.lookup 56 (.map (some b)) (.string ⟨#[42]⟩) true).run Tryd.prog w = .ok (.tuple #[.func (.func 45) #[] #[], .bool true]) w :=
  h.look Tryd.underlying56 (string_keyed Tryd.underlying9) (keyOf_string_mk Tryd.underlying9 (by decide)) (v := .func (.func 45) #[] #[]) true turning_keys ⟨.func (.func 45) #[] #[], by simp [ML]⟩ (by simp [ML])
theorem turning_no {w : World} {b : Nat} (h : Mq w b ML) {op : ByteArray} (ho : op.size ≤ maxLen) (h0 : op ≠ ⟨#[45]⟩) (h1 : op ≠ ⟨#[126]⟩) (h2 : op ≠ ⟨#[42]⟩) : (Instr.lookup 56 (.map (some b)) (.string op) true).run Tryd.prog w = .ok (.tuple #[.nilFunc, .bool false]) w := by
  refine h.miss Tryd.underlying56 (string_keyed Tryd.underlying9) (keyOf_string_mk Tryd.underlying9 ho) true (by kernel_rfl) turning_keys ?_
  unfold ML
  simp only [List.forall_mem_cons]
  exact ⟨fun e => h0 (by injection e with e; exact e.symm), fun e => h1 (by injection e with e; exact e.symm), fun e => h2 (by injection e with e; exact e.symm), fun _ h => by cases h⟩

end Go.Proofs.YtogphdflgcdiiaaDoor

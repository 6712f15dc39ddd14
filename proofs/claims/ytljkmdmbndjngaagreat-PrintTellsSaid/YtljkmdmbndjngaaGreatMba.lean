import Derived.Test.YtljkmdmbndjngaaGreatMaz
import Derived.Test.YtljkmdmbndjngaaGreatMan
import Derived.Test.YtljkmdmbndjngaaGreatRows
import Derived.Test.YtljkmdmbndjngaaGreatMal
import Derived.Lib.SmallJoins
import Derived.SliceStrings
import Derived.Deep.Strs
import Derived.ProofKit
import Derived.Carry
import Derived.OpenShut
import Derived.SizedLaws
import Derived.Test.YtljkmdmbndjngaaGreatMao
/-
  The document's example; ParseTells, and ParseMay, at every text.
-/
namespace Go.Proofs.YtljkmdmbndjngaaGreat
set_option linter.unusedVariables false
set_option linter.unusedSimpArgs false
open Go.RowKit

def TrueEnd (W : World) (e : Ending) (W' : World) : Prop := e = .returned (.bool true) ∧ Below W.heap.size W W'
theorem run_one : Run numB [49, 32, 50, 43, 120] 0 [⟨1, [49], 0⟩, ⟨1, [50], 2⟩, ⟨4, [43], 3⟩, ⟨2, [120], 4⟩] none :=
  .byte (k := 1) (by decide) (by decide) (by decide) (.cons (by decide)) (fun _ => by decide) (.blank (by decide)
    (.byte (k := 1) (by decide) (by decide) (by decide) (.cons (by decide)) (fun _ => by decide)
      (.own (k := 4) (by decide) (by decide) (by decide) (.byte (k := 2) (by decide) (by decide) (by decide) (.nil _) (fun h => by cases h) (.nil _)))))
theorem ln_one : ∃ ns, Ln numT (pks [⟨1, [49], 0⟩, ⟨1, [50], 2⟩, ⟨4, [43], 3⟩, ⟨2, [120], 4⟩]) (some [⟨4, [43], [], [], []⟩, ⟨1, [], [], [], ns⟩, ⟨2, [], [], [120], []⟩]) [] := by
  have hnm : nmL (pks [⟨1, [49], 0⟩, ⟨1, [50], 2⟩, ⟨4, [43], 3⟩, ⟨2, [120], 4⟩]) = [[49], [50]] := by decide
  refine ⟨[[49], [50]].map numT, .plain ?_ ?_ (.e_term ?_ (.t_is (L := [⟨1, [], [], [], [[49], [50]].map numT⟩]) (r := pks [⟨4, [43], 3⟩, ⟨2, [120], 4⟩]) ?_ (.b_end ?_)) (.a_op (.inr (.inl rfl)) ?_))⟩
  · rintro ⟨h, _⟩
    exact absurd (show (1 : Int) = 2 from h) (by decide)
  · rintro ⟨h, _⟩
    exact absurd (show (1 : Int) = 3 from h) (by decide)
  · rintro (h | h | h)
    · exact absurd (show (1 : Int) = 3 from h) (by decide)
    · exact absurd (show (1 : Int) = 4 from h) (by decide)
    · exact absurd (show (1 : Int) = 6 from h.1) (by decide)
  · have h := Rd'.m_nums (M := numT) (ts := pks [⟨1, [49], 0⟩, ⟨1, [50], 2⟩, ⟨4, [43], 3⟩, ⟨2, [120], 4⟩]) (by rw [hnm]; decide) (by rw [hnm]; decide)
    rw [hnm] at h
    exact h
  · rintro ⟨h, _⟩
    exact absurd (show (4 : Int) = 6 from h) (by decide)
  · refine .o_is (V := [⟨4, [43], [], [], []⟩]) (x := some [⟨2, [], [], [120], []⟩]) (.v_one (.inr rfl) (.d_none ?_)) (.e_term ?_ (.t_is (.m_word rfl) (.b_end id)) (.a_end id))
    · intro h
      exact absurd (show (2 : Int) = 5 from h) (by decide)
    · rintro (h | h | h)
      · exact absurd (show (2 : Int) = 3 from h) (by decide)
      · exact absurd (show (2 : Int) = 4 from h) (by decide)
      · exact absurd (show (2 : Int) = 6 from h.1) (by decide)
theorem run_two : Run numB [40] 0 [⟨6, [40], 0⟩] none := .own (k := 6) (by decide) (by decide) (by decide) (.nil _)
theorem ln_two : Ln numT (pks [⟨6, [40], 0⟩]) none [] := by
  refine .plain ?_ ?_ (.e_bad ?_ (.t_bad (.m_par rfl rfl (.c_bad (.e_bad id (.t_bad (.m_bad id id id)))))))
  · rintro ⟨h, _⟩
    exact absurd (show (6 : Int) = 2 from h) (by decide)
  · rintro ⟨h, _⟩
    exact absurd (show (6 : Int) = 3 from h) (by decide)
  · rintro (h | h | h)
    · exact absurd (show (6 : Int) = 3 from h) (by decide)
    · exact absurd (show (6 : Int) = 4 from h) (by decide)
    · exact absurd (show ([40] : List UInt8) = [123] from h.2) (by decide)
/-- What is told, if it is known that there is a tree, and not too deep. -/
def PkEnd (X : List Tn) (W : World) (e : Ending) (W' : World) : Prop := ∃ a n c, e = .returned (.tuple #[.slice a n c, .int .i64 0, .int .i64 0]) ∧ Nx W' a n c X ∧ Below W.heap.size W W'
theorem PpEnd.tree {X : List Tn} {z : Int} {W : World} {e : Ending} {W' : World} (h : PpEnd (some X) [] z W e W') {d : Nat} (hd : Dp X 1 d) (h40 : d ≤ 40) : PkEnd X W e W' := by
  obtain ⟨hb, ⟨h1, _⟩ | ⟨Y, d2, h1, h2, ⟨h3, _⟩ | ⟨_, a, n, c, he, hN⟩⟩⟩ := h
  · cases h1
  · injection h1 with h1
    subst h1
    have := (hd.det h2).2
    omega
  · injection h1 with h1
    subst h1
    exact ⟨a, n, c, he, hN, hb⟩
theorem PpEnd.none {r : List Pk} {x : Option (List Tn)} {z : Int} {W : World} {e : Ending} {W' : World} (h : PpEnd x r z W e W') (ht : told x r = none) : e = .returned (.tuple #[.slice none 0 0, .int .i64 (plc r z), .int .i64 2]) ∧ Below W.heap.size W W' := by
  obtain ⟨hb, ⟨_, h1⟩ | ⟨Y, d2, h1, _⟩⟩ := h
  · exact ⟨h1, hb⟩
  · rw [ht] at h1; cases h1
/-- A head's kind, in memory. -/
theorem Nx.kinds {W : World} {a : Option Addr} {n c : Nat} {X : List Tn} (h : Nx W a n c X) (hX : 0 < X.length) : n = X.length ∧ ∃ b off, a = some ⟨b, off, none⟩ ∧ ∀ j (hj : j < X.length), W.cell? ⟨b, off + j * 5, none⟩ = some (.int .i64 X[j].k) := by
  obtain ⟨f, hq, _, _, rfl⟩ := h
  rw [tnF_len] at hX
  obtain ⟨b, off, e, hc⟩ := hq.ld hX
  refine ⟨by rw [tnF_len], b, off, e, fun j hj => ?_⟩
  rw [tnF_len] at hj
  rw [(hc j hj).c0]
  simp [tnF, tnOf]
theorem tn_same {f g : Nat → Nd} {n m : Nat} (h : tnF f n = tnF g m) : (decide (n = m) && sameL f g n) = true := same_tn.2 h
theorem Ln.few {M : List UInt8 → List UInt8} {ts r : List Pk} {x : Option (List Tn)} (h : Ln M ts x r) : ∀ X, x = some X → X.length ≤ ts.length := by
  cases h with
  | @assign q w r r' x h h2 ht h1 =>
    intro X hX
    cases x with
    | none => cases hX
    | some Y =>
      cases hX
      have := h1.few Y rfl
      simp only [Rl.many, List.length_cons] at *
      omega
  | defbad h h2 ht h1 => exact fun X hX => by cases hX
  | @define q w b r r' x h h2 ht h3 hb h1 =>
    intro X hX
    cases x with
    | none => cases hX
    | some Y =>
      cases hX
      have := h1.few Y rfl
      simp only [Rl.many, List.length_cons] at *
      omega
  | idxbad h h2 ht h1 => exact fun X hX => by cases hX
  | @amend q w d r r1 r' I x h h2 ht h1 h3 hd h4 =>
    intro X hX
    cases x with
    | none => cases hX
    | some Y =>
      cases hX
      have := h1.few I rfl
      have := h4.few Y rfl
      simp only [Rl.many, List.length_cons, List.length_append] at *
      omega
  | ixbad h h2 ht h1 h3 h4 => exact fun X hX => by cases hX
  | @index q w r r1 r2 r' I L x h h2 ht h1 h3 h4 h5 =>
    intro X hX
    have a1 := h1.few I rfl
    have a2 := h4.few L rfl
    have a3 := h5.few X hX
    simp only [Rl.many, List.length_cons, List.length_append, List.length_nil] at *
    omega
  | plain h1 h2 h =>
    intro X hX
    have := h.few X hX
    simp only [Rl.many] at this
    omega
theorem told_some {x : Option (List Tn)} {r : List Pk} {X : List Tn} (ht : told x r = some X) : x = some X ∧ r = [] := by
  rcases told_cases x r with ⟨h1, _⟩ | ⟨Y, h1, h2, h3⟩
  · rw [ht] at h1; cases h1
  · rw [ht] at h3; injection h3 with h3; rw [h3]; exact ⟨h1, h2⟩
theorem told_few {s : ByteArray} {ts : List Tk} (hs : s.size ≤ 256) (h : Run numB s.data.toList 0 ts none) {x : Option (List Tn)} {r : List Pk} (hR : Ln numT (pks ts) x r) {X : List Tn} (ht : told x r = some X) : X.length ≤ 256 := by
  have h1 := hR.few X (told_some ht).1
  rw [pks_len] at h1
  have := (run_few hs h).2.2
  omega
theorem Run.at_le {N : List UInt8 → Bool} {a : List UInt8} {p : Nat} {ts : List Tk} {e : Option Nat} (h : Run N a p ts e) : ∀ t ∈ ts, p ≤ t.at_ ∧ t.at_ < p + a.length := by
  induction h with
  | nil p => exact fun t ht => by cases ht
  | blank h hr ih => exact fun t ht => by have := ih t ht; simp only [List.length_cons]; omega
  | part h h1 h6 ht hs hn hr ih =>
    intro t hh
    rcases List.mem_cons.1 hh with rfl | hh
    · simp
    · have := ih t hh
      simp only [List.length_append, List.length_cons]
      omega
  | bad h => exact fun t ht => by cases ht
  | figs h ht hs hn => exact fun t ht => by cases ht
end Go.Proofs.YtljkmdmbndjngaaGreat
/-
  ParseFirst, at every two texts.
-/
namespace Go.Proofs.YtljkmdmbndjngaaGreat
set_option linter.unusedVariables false
set_option linter.unusedSimpArgs false
open Go.RowKit

theorem catblank (s m : ByteArray) : (s ++ ⟨#[32]⟩ ++ m).data.toList = s.data.toList ++ 32 :: m.data.toList := by
  rw [ByteArray.data_append, Array.toList_append, ByteArray.data_append, Array.toList_append]
  simp
/-- Nothing, and two numbers. -/
def FlEnd (p q : Int) (W : World) (e : Ending) (W' : World) : Prop := e = .returned (.tuple #[.slice none 0 0, .int .i64 p, .int .i64 q]) ∧ Below W.heap.size W W'
/-- A slice, and two numbers. -/
def SlEnd (p q : Int) (W : World) (e : Ending) (W' : World) : Prop := ∃ a n c, e = .returned (.tuple #[.slice a n c, .int .i64 p, .int .i64 q]) ∧ Below W.heap.size W W'
theorem FlEnd.sl {p q : Int} {W : World} {e : Ending} {W' : World} (h : FlEnd p q W e W') : SlEnd p q W e W' := ⟨_, _, _, h.1, h.2⟩
theorem LexEnd.sl {ts : List Tk} {W : World} {e : Ending} {W' : World} (h : LexEnd ts none W e W') : SlEnd 0 0 W e W' := by
  obtain ⟨a, c, rfl, _, _, hb⟩ := h
  exact ⟨a, _, c, rfl, hb⟩
end Go.Proofs.YtljkmdmbndjngaaGreat
/-
  Trees put together by Node, as they are plainly; Same of the same.
-/
namespace Go.Proofs.YtljkmdmbndjngaaGreat
set_option linter.unusedVariables false
set_option linter.unusedSimpArgs false
open Go.RowKit

theorem depth_nx {a : Option Addr} {n c : Nat} {X : List Tn} {w : World} {d : Nat} (hX : X.length ≤ 1000) (h1 : Nx w a n c X) (hd : Dp X 1 d) : Calls Tryz.prog 18 #[.slice a n c] w (ValEnd (.int .i64 (d : Int)) w) := by
  obtain ⟨f, h1, h2, h3, e1⟩ := h1
  have l1 : X.length = n := by rw [← e1, tnF_len]
  exact Depth_some a n c f n d w h1 h2 h3 (by omega) (deep_tn e1 hd)
/-- Few numbers in each node. -/
def Fw (X : List Tn) : Prop := X.length ≤ 900 ∧ ∀ t ∈ X, t.ns.length ≤ 100
def vnode (k : Int) (v a x : ByteArray) : Value := .agg #[.int .i64 k, .string v, .string a, .string x, .slice none 0 0]
def NnEnd (X : List Tn) (w : World) (e : Ending) (W' : World) : Prop := ∃ a n c, e = .returned (.slice a n c) ∧ Nx W' a n c X ∧ Below w.heap.size w W'
theorem Node_nx (w : World) (k : Int) (v a x : ByteArray) (hk : 0 ≤ k ∧ k ≤ 8) (hv : v.size ≤ 300) (ha : a.size ≤ 300) (hx : x.size ≤ 300) (kd : Nat → Kd) (Ts : List (List Tn)) (h : ∀ i (hi : i < Ts.length), Nx w (kd i).a (kd i).n (kd i).c Ts[i]) (hF : ∀ T ∈ Ts, Fw T) (hl : Ts.length ≤ 3) {cs : Array Value} (hcs : cs.toList = kvs kd Ts.length) (hw : wl Ts ≤ 1000) :
    Calls Tryz.prog 112 #[vnode k v a x, .slice (some ⟨w.heap.size, 0, none⟩) Ts.length Ts.length] (w.alloc (.cells cs 22)) (NnEnd (⟨k, v.data.toList, a.data.toList, x.data.toList, []⟩ :: Ts.flatten) w) := by
  have hbx := box_below w (.cells cs 22)
  obtain ⟨f, hf⟩ : ∃ f : Nat → Nat → Nd, ∀ i (hi : i < Ts.length), Nq w (kd i).a (kd i).n (f i) ∧ (kd i).n ≤ (kd i).c ∧ (kd i).c ≤ maxLen ∧ tnF (f i) (kd i).n = Ts[i] := by
    have h' : ∀ i, ∃ g : Nat → Nd, ∀ hi : i < Ts.length, Nq w (kd i).a (kd i).n g ∧ (kd i).n ≤ (kd i).c ∧ (kd i).c ≤ maxLen ∧ tnF g (kd i).n = Ts[i] := fun i => by
      by_cases hi : i < Ts.length
      · obtain ⟨g, hg⟩ := h i hi
        exact ⟨g, fun _ => hg⟩
      · exact ⟨fun _ => ⟨0, v, v, v, none, 0, 0, []⟩, fun h => absurd h hi⟩
    obtain ⟨f, hf⟩ := Classical.axiomOfChoice h'
    exact ⟨f, fun i hi => hf i hi⟩
  obtain ⟨k2, hk2⟩ : ∃ k2 : Nat → Kd, k2 = fun i => ⟨(kd i).a, (kd i).n, (kd i).c, f i⟩ := ⟨_, rfl⟩
  have hB : Bk 22 (w.alloc (.cells cs 22)) w.heap.size cs.toList := by
    have := Bk.new 22 w cs.toList
    rwa [Array.toArray_toList] at this
  have hNt : ∀ i (hi : i < Ts.length), Nq (w.alloc (.cells cs 22)) (k2 i).a (k2 i).n (k2 i).f ∧ tnF (k2 i).f (k2 i).n = Ts[i] := fun i hi => by
    rw [hk2]
    exact ⟨(hf i hi).1.below hbx, (hf i hi).2.2.2⟩
  have hn : ∀ m, m ≤ Ts.length → nM k2 m = 1 + wl (Ts.take m) := by
    intro m
    induction m with
    | zero => intro _; rfl
    | succ m ih =>
      intro hm
      show nM k2 m + (k2 m).n = _
      rw [ih (by omega), List.take_succ_eq_append_getElem (by omega), wl_app, wl_cons, ← (hNt m (by omega)).2, tnF_len]
      show _ = 1 + (_ + (_ + 0))
      omega
  have hns : ∀ m, m ≤ Ts.length → ∀ j, j < nM k2 m → (nF (Nd.mk k v a x none 0 0 []) k2 m j).m ≤ 100 := by
    intro m
    induction m with
    | zero => intro _ j _; exact Nat.zero_le _
    | succ m ih =>
      intro hm j hj
      show (ap (nF _ k2 m) (nM k2 m) (k2 m).f j).m ≤ 100
      unfold ap
      by_cases h1 : j < nM k2 m
      · rw [if_pos h1]; exact ih (by omega) j h1
      · rw [if_neg h1]
        have hj : j < nM k2 m + (k2 m).n := hj
        obtain ⟨hq, ht⟩ := hNt m (by omega)
        have hx := (hF Ts[m] (List.getElem_mem (by omega))).2 (tnOf ((k2 m).f (j - nM k2 m))) (by
          rw [← ht]
          exact List.mem_map.2 ⟨j - nM k2 m, List.mem_range.2 (by omega), rfl⟩)
        rw [← (hq.on (j - nM k2 m) (by omega)).nl]
        simpa [tnOf] using hx
  have hM := hn Ts.length (Nat.le_refl _)
  rw [List.take_length] at hM
  have hdon : (Nd.mk k v a x none 0 0 []).on (w.alloc (.cells cs 22)) := ⟨St.nil _ _, Nat.le_refl _, Nat.zero_le _, by show _ ≤ k; omega, by show k ≤ _; omega, by show v.size ≤ _; unfold maxLen; omega, by show a.size ≤ _; unfold maxLen; omega, by show x.size ≤ _; unfold maxLen; omega, fun s hs => by cases hs⟩
  refine (Node_is (Nd.mk k v a x none 0 0 []) (some ⟨w.heap.size, 0, none⟩) Ts.length Ts.length k2 (w.alloc (.cells cs 22)) hdon (fun i hi => (hNt i hi).1) (fun _ => ⟨w.heap.size, 0, rfl, fun i hi => ?_⟩) (by omega) (by omega) (fun j hj => by have := hns _ (Nat.le_refl _) j hj; omega)).mono ?_
  · rw [Nat.zero_add, hB.c i, hcs, kvs_get kd Ts.length i hi, hk2]
  · rintro e W' ⟨r, G, rfl, hown, hon, hsm, hb, _⟩
    obtain ⟨a1, c1, rfl, hc1, hc2, hq1⟩ := own_nq hown hon
    refine ⟨a1, _, c1, rfl, ⟨G, hq1, hc1, hc2, ?_⟩, hbx.trans (hb.mono hbx.size)⟩
    rw [tnF_same hsm, tnF_nF]
    congr 1
    rw [show ((List.range Ts.length).map fun j => tnF (k2 j).f (k2 j).n) = Ts from by
      apply List.ext_getElem?
      intro j
      rw [List.getElem?_map]
      by_cases hj : j < Ts.length
      · rw [List.getElem?_range hj, List.getElem?_eq_getElem hj, Option.map_some, (hNt j hj).2]
      · rw [List.getElem?_eq_none (by rw [List.length_range]; omega), List.getElem?_eq_none (by omega)]; rfl]
theorem Node_nx2 (w : World) (k : Int) (v a x : ByteArray) (hk : 0 ≤ k ∧ k ≤ 8) (hv : v.size ≤ 300) (ha : a.size ≤ 300) (hx : x.size ≤ 300) {a1 a2 : Option Addr} {n1 c1 n2 c2 : Nat} {X1 X2 : List Tn} (h1 : Nx w a1 n1 c1 X1) (h2 : Nx w a2 n2 c2 X2) (f1 : Fw X1) (f2 : Fw X2) (hl : X1.length + X2.length ≤ 1000) :
    Calls Tryz.prog 112 #[.agg #[.int .i64 k, .string v, .string a, .string x, .slice none 0 0], .slice (some ⟨w.heap.size, 0, none⟩) 2 2] (w.alloc (.cells #[.slice a1 n1 c1, .slice a2 n2 c2] 22)) (NnEnd (⟨k, v.data.toList, a.data.toList, x.data.toList, []⟩ :: (X1 ++ X2)) w) := by
  have := Node_nx w k v a x hk hv ha hx (fun i => if i = 0 then ⟨a1, n1, c1, fun _ => ⟨0, v, v, v, none, 0, 0, []⟩⟩ else ⟨a2, n2, c2, fun _ => ⟨0, v, v, v, none, 0, 0, []⟩⟩) [X1, X2] (fun i hi => by
    match i, hi with
    | 0, _ => exact h1
    | 1, _ => exact h2) (fun T hT => by rcases List.mem_cons.1 hT with rfl | hT; exact f1; rcases List.mem_singleton.1 hT with rfl; exact f2) (by simp) (cs := #[.slice a1 n1 c1, .slice a2 n2 c2]) rfl (by rw [wl_cons, wl_cons]; show _ + (_ + 0) ≤ _; omega)
  rw [show [X1, X2].flatten = X1 ++ X2 by simp] at this
  exact this
theorem Node_nx1 (w : World) (k : Int) (v a x : ByteArray) (hk : 0 ≤ k ∧ k ≤ 8) (hv : v.size ≤ 300) (ha : a.size ≤ 300) (hx : x.size ≤ 300) {a1 : Option Addr} {n1 c1 : Nat} {X1 : List Tn} (h1 : Nx w a1 n1 c1 X1) (f1 : Fw X1) :
    Calls Tryz.prog 112 #[.agg #[.int .i64 k, .string v, .string a, .string x, .slice none 0 0], .slice (some ⟨w.heap.size, 0, none⟩) 1 1] (w.alloc (.cells #[.slice a1 n1 c1] 22)) (NnEnd (⟨k, v.data.toList, a.data.toList, x.data.toList, []⟩ :: X1) w) := by
  have := Node_nx w k v a x hk hv ha hx (fun _ => ⟨a1, n1, c1, fun _ => ⟨0, v, v, v, none, 0, 0, []⟩⟩) [X1] (fun i hi => by
    obtain rfl : i = 0 := by simp at hi; omega
    exact h1) (fun T hT => by rcases List.mem_singleton.1 hT with rfl; exact f1) (by simp) (cs := #[.slice a1 n1 c1]) rfl (by rw [wl_cons]; show _ + 0 ≤ _; have := f1.1; omega)
  rw [show [X1].flatten = X1 by simp] at this
  exact this
theorem Ln.ns {P : Pk → Prop} {ts : List Pk} {X : List Tn} {r : List Pk} (h : Ln numT ts (some X) r) (hp : ∀ q ∈ ts, P q) (hb : ∀ q ∈ ts, q.k = 3 ∨ q.k = 4 → q.t ≠ [123]) : ∀ t ∈ X, t.ns.length ≤ 100 := by
  obtain ⟨n, Y, rfl, hn, hY⟩ := h.nodes hp hb
  have key : ∀ t, Nok numT P t → t.ns.length ≤ 100 := by
    intro t ht
    cases ht with
    | lit h0 h1 h => exact h1
    | name h h2 => exact Nat.zero_le _
    | one _ _ _ _ => exact Nat.zero_le _
    | body _ _ => exact Nat.zero_le _
    | index => exact Nat.zero_le _
  intro t ht
  rcases List.mem_cons.1 ht with rfl | ht
  · rcases hn with hn | hn
    · exact key _ hn
    · cases hn <;> exact Nat.zero_le _
  · exact key t (hY t ht)
/-- One node in a row of one. -/
theorem nx_one {w : World} {d : Nd} {cs : Array Value} (hcs : cs.toList = d.cells) (hd : d.on w) : Nx (w.alloc (.cells cs 37)) (some ⟨w.heap.size, 0, none⟩) 1 1 [tnOf d] := by
  have hB : Bk 37 (w.alloc (.cells cs 37)) w.heap.size d.cells := by
    have := Bk.new 37 w cs.toList
    rwa [Array.toArray_toList, hcs] at this
  obtain ⟨f, h1, h2, h3, h4, _⟩ := nl_one (B := 0) hB (hd.below (box_below w _)) (Nat.zero_le _) (fun _ _ _ => Nat.zero_le _)
  exact ⟨f, h1, h2, h3, h4⟩
end Go.Proofs.YtljkmdmbndjngaaGreat
/-
  Canonical, by what Parse tells; texts printed, parsed again.
-/
namespace Go.Proofs.YtljkmdmbndjngaaGreat
set_option linter.unusedVariables false
set_option linter.unusedSimpArgs false
open Go.RowKit Go.Maps

/-- A tree that may be, wherever it lies. -/
def Mx (X : List Tn) : Prop := X.length ≤ 900 ∧ (∀ t ∈ X, t.ns.length ≤ 100) ∧ ∀ (f : Nat → Nd) (n : Nat), tnF f n = X → mayP f n
theorem Mx.fw {X : List Tn} (h : Mx X) : Fw X := ⟨h.1, h.2.1⟩
/-- What Canonical tells. -/
def CnEnd (t : ByteArray) (p q : Int) (W : World) (e : Ending) (W' : World) : Prop := e = .returned (.tuple #[.string t, .int .i64 p, .int .i64 q]) ∧ Below W.heap.size W W'
theorem print_nx {a : Option Addr} {n c : Nat} {X : List Tn} {W : World} (hX : Mx X) {s : List UInt8} (hs : PrL numB numT X s) (h : Nx W a n c X) : Calls Tryz.prog 6 #[.slice a n c] W (PnEnd (tx s) 0 W) := by
  obtain ⟨f, h1, h2, h3, e⟩ := h
  have l1 : X.length = n := by rw [← e, tnF_len]
  have := hX.1
  exact Print_yes a n c f W h1 h2 h3 (by omega) (hX.2.2 f n e) (by rw [e]; exact hs)
set_option maxHeartbeats 1600000 in
theorem Can_no (s : ByteArray) (p q : Int) (hq : q = 10 ∨ q = 2 ∨ q = 8) (K : ∀ W, Calls Tryz.prog 15 #[.string s] W (FlEnd p q W)) (W : World) : Calls Tryz.prog 8 #[.string s] W (CnEnd ⟨#[]⟩ p q W) := by
  have KK := Lib.hid K
  clear K
  rcases hq with rfl | rfl | rfl
  all_goals
    go_enter Tryz.func8, Tryz.ntmps8
    go_wp2_with fail
    refine (KK.out _).mono ?_
    rintro e w1 ⟨rfl, hb⟩
    go_wp2_with fail
    go_ret3
    exact ⟨rfl, hb⟩
set_option maxHeartbeats 1600000 in
theorem Can_yes (s : ByteArray) {X : List Tn} (hX : Mx X) {t : List UInt8} (ht : PrL numB numT X t) (K : ∀ W, Calls Tryz.prog 15 #[.string s] W (PkEnd X W)) (W : World) : Calls Tryz.prog 8 #[.string s] W (CnEnd (tx t) 0 0 W) := by
  have KK := Lib.hid K
  have KP := Lib.hid (fun w a n c (h : Nx w a n c X) => print_nx hX ht h)
  clear K hX ht
  go_enter Tryz.func8, Tryz.ntmps8
  go_wp2_with fail
  refine (KK.out _).mono ?_
  rintro e w1 ⟨a, n, c, rfl, hN, hb⟩
  have KQ := Lib.hid (KP.out _ _ _ _ hN)
  clear hN
  go_wp2_with fail
  refine KQ.out.mono ?_
  rintro e w2 ⟨rfl, hb2⟩
  have HB := Lib.hid (hb.trans (hb2.mono hb.size))
  clear hb hb2
  go_wp2_with fail
  go_ret3
  exact ⟨rfl, HB.out⟩
/-- What Parse tells of a text of no more than 600 bytes: an error; or a tree, of the parts. -/
inductive Pc (s : ByteArray) : Prop
  | no (p q : Int) (hq : q = 10 ∨ q = 2 ∨ q = 8) (K : ∀ W, Calls Tryz.prog 15 #[.string s] W (FlEnd p q W))
  | yes (ts : List Tk) (X : List Tn) (d : Nat) (hz : s.size ≤ 256) (hr : Run numB s.data.toList 0 ts none) (hl : Ln numT (pks ts) (some X) []) (hd : Dp X 1 d) (h40 : d ≤ 40) (hX : Mx X) (K : ∀ W, Calls Tryz.prog 15 #[.string s] W (PkEnd X W))
theorem big_fl {s : ByteArray} (h : 256 < s.size) (hm : s.size ≤ 9223372036854775807) (W : World) : Calls Tryz.prog 15 #[.string s] W (FlEnd 0 8 W) :=
  (Parse_big s h hm W).mono fun _ _ ⟨h1, h2⟩ => ⟨h1, h2⟩
theorem mx_of {s : ByteArray} {ts : List Tk} {X : List Tn} {d : Nat} (hs : s.size ≤ 256) (hr : Run numB s.data.toList 0 ts none) (hl : Ln numT (pks ts) (some X) []) (hd : Dp X 1 d) (h40 : d ≤ 40) (hX : X.length ≤ 900) : Mx X := by
  refine ⟨hX, hl.ns (P := fun _ => True) (fun _ _ => trivial) (run_few hs hr).2.1, fun f n e => ?_⟩
  refine may_of (P := fun q => q ∈ pks ts) (fun q hq => ?_) hl (fun _ h => h) e hd h40
  have g := hr.ps q hq
  have hl : s.data.toList.length = s.size := Array.length_toList
  exact ⟨g.1, by omega⟩
theorem Pc.any (s : ByteArray) (hm : s.size ≤ 9223372036854775807) : Pc s := by
  by_cases hs : s.size ≤ 256
  · obtain ⟨ts, e, hrun⟩ := Run.any numB s.data.toList 0
    cases e with
    | some q => exact .no q 2 (.inr (.inl rfl)) fun W => Parse_bad s hs ts q hrun W
    | none =>
      obtain ⟨x, r, hR⟩ := Ln.any numT (pks ts)
      have k1 := fun W => Parse_ok s hs ts hrun hR W
      cases ht : told x r with
      | none => exact .no _ 2 (.inr (.inl rfl)) fun W => (k1 W).mono fun e W' h => h.none ht
      | some X =>
        have hfew := told_few hs hrun hR ht
        obtain ⟨rfl, rfl⟩ := told_some ht
        have hbr := (run_few hs hrun).2.1
        obtain ⟨d, hd⟩ := hR.tree hbr
        by_cases h40 : 40 < d
        · refine .no 0 10 (.inl rfl) fun W => (k1 W).mono ?_
          rintro e W' ⟨hb, ⟨h1, _⟩ | ⟨Y, d2, h1, h2, ⟨_, h3⟩ | ⟨h3, _⟩⟩⟩
          · cases h1
          · exact ⟨h3, hb⟩
          · injection h1 with h1
            subst h1
            have := (hd.det h2).2
            omega
        · exact .yes ts X d hs hrun hR hd (by omega) (mx_of hs hrun hR hd (by omega) (by omega)) fun W => (k1 W).mono fun e W' h => h.tree hd (by omega)
  · exact .no 0 8 (.inr (.inr rfl)) fun W => big_fl (by omega) hm W
theorem pks_is (ts : List Tk) : ts.map Tk.pk = pks ts := rfl
/-- What was printed, parsed again. -/
theorem back_parse {X : List Tn} {d : Nat} {t : List UInt8} (ht : PrL numB numT X t) (hz : t.length ≤ 256) (hd : Dp X 1 d) (h40 : d ≤ 40) (W : World) : Calls Tryz.prog 15 #[.string (tx t)] W (PkEnd X W) := by
  obtain ⟨ts, h1, h2⟩ := ht.back
  exact (Parse_ok (tx t) (by rw [tx_size]; exact hz) ts h1 h2 W).mono fun _ _ h => h.tree hd h40
theorem mayP.dp {f : Nat → Nd} {n : Nat} (h : mayP f n) : ∃ d, Dp (tnF f n) 1 d ∧ d ≤ 40 := by
  obtain ⟨d, hd, h40, _⟩ := h
  refine ⟨d, ?_, h40⟩
  unfold Dp
  rw [← ksF_tn, tnF_len]
  exact hd
end Go.Proofs.YtljkmdmbndjngaaGreat
/-
  What a row's node, and its slice of nodes, is, opened.
-/
namespace Go.Proofs.YtljkmdmbndjngaaGreat
set_option linter.unusedVariables false
set_option linter.unusedSimpArgs false
open Go.ChangeShapes Go.WideShapes Go.ChangeAt Go.RowKit

theorem own : ownKnob Tryz.prog.godebug = none := by kernel_rfl
theorem laidOut : laidOutB Tryz.prog = true := by kernel_rfl
theorem i64_le {x : Int} (h : (Lit.int .i64 x).wf = true) : -9223372036854775808 ≤ x ∧ x ≤ 9223372036854775807 := by
  have h1 : IntKind.i64.min = -9223372036854775808 := rfl
  have h2 : IntKind.i64.max = 9223372036854775807 := rfl
  simp only [Lit.wf, Bool.and_eq_true, decide_eq_true_eq] at h
  omega
theorem one_of {a b : Value} (h : [a] = [b]) : a = b := by cases h; rfl
set_option maxRecDepth 100000 in
/-- A node's five cells, as a row has them. -/
theorem node_trod {H : Type} {enc : TypeId × Value → H} {W : World} {fuel : Nat} {cs : List Value} {x : DataW H × List MemPlace} (h : DataW.trod enc Tryz.prog W 0 (fun _ => true) true fuel 37 cs = some x) :
    ∃ (d : Nd) (p0 p1 p2 p3 p4 : DataW H), cs = d.cells ∧ d.on W ∧ x.1 = .agg [p0, p1, p2, p3, p4] ∧ (d.m = 0 ∨ ∃ el sp, p4 = .slice el sp ∧ d.m ≤ el.length + sp.length) := by
  obtain ⟨xs, n, _, rfl, hl, hlen, hf⟩ := DataW.trod_struct Tryz.underlying37 h
  have hc : Tryz.prog.cellsOf 37 = 5 := by kernel_rfl
  have ki : Tryz.prog.cellsOf 3 = 1 := by kernel_rfl
  have ks : Tryz.prog.cellsOf 9 = 1 := by kernel_rfl
  have kl : Tryz.prog.cellsOf 35 = 1 := by kernel_rfl
  rw [hc] at hl
  match cs, hl with
  | [c0, c1, c2, c3, c4], _ =>
    match xs, hlen with
    | [y0, y1, y2, y3, y4], _ =>
      have h0 : DataW.trod enc Tryz.prog W 0 (fun _ => true) true n 3 (([c0, c1, c2, c3, c4].drop 0).take (Tryz.prog.cellsOf 3)) = some y0 := hf 0 _ rfl
      rw [ki] at h0
      have h1 : DataW.trod enc Tryz.prog W 0 (fun _ => true) true n 9 (([c0, c1, c2, c3, c4].drop 1).take (Tryz.prog.cellsOf 9)) = some y1 := hf 1 _ rfl
      rw [ks] at h1
      have h2 : DataW.trod enc Tryz.prog W 0 (fun _ => true) true n 9 (([c0, c1, c2, c3, c4].drop 2).take (Tryz.prog.cellsOf 9)) = some y2 := hf 2 _ rfl
      rw [ks] at h2
      have h3 : DataW.trod enc Tryz.prog W 0 (fun _ => true) true n 9 (([c0, c1, c2, c3, c4].drop 3).take (Tryz.prog.cellsOf 9)) = some y3 := hf 3 _ rfl
      rw [ks] at h3
      have h4 : DataW.trod enc Tryz.prog W 0 (fun _ => true) true n 35 (([c0, c1, c2, c3, c4].drop 4).take (Tryz.prog.cellsOf 35)) = some y4 := hf 4 _ rfl
      rw [kl] at h4
      obtain ⟨k, e0, _, hk⟩ := DataW.trod_int Tryz.underlying3 h0
      obtain ⟨v, e1, _, hv⟩ := DataW.trod_string Tryz.underlying9 h1
      obtain ⟨a, e2, _, ha⟩ := DataW.trod_string Tryz.underlying9 h2
      obtain ⟨z, e3, _, hz⟩ := DataW.trod_string Tryz.underlying9 h3
      replace e0 := one_of (show [_] = [_] from e0)
      replace e1 := one_of (show [_] = [_] from e1)
      replace e2 := one_of (show [_] = [_] from e2)
      replace e3 := one_of (show [_] = [_] from e3)
      have hkk := i64_le hk
      subst e0 e1 e2 e3
      rcases open_strings Tryz.underlying35 Tryz.underlying9 ks h4 with ⟨e4, _⟩ | ⟨ad, len, cap, ss, e4, _, hle, hm, hlen2, hx, hcell, hsz⟩
      · replace e4 := one_of (show [_] = [_] from e4)
        subst e4
        exact ⟨⟨k, v, a, z, none, 0, 0, []⟩, y0.1, y1.1, y2.1, y3.1, y4.1, rfl, ⟨St.nil _ _, Nat.le_refl _, Nat.zero_le _, hkk.1, hkk.2, hv, ha, hz, fun s hs => by cases hs⟩, rfl, .inl rfl⟩
      · replace e4 := one_of (show [_] = [_] from e4)
        subst e4
        simp only [if_true] at hlen2
        have hlt : (ss.take len).length = len := by rw [List.length_take]; omega
        refine ⟨⟨k, v, a, z, some ad, len, cap, ss.take len⟩, y0.1, y1.1, y2.1, y3.1, y4.1, rfl, ⟨⟨hlt, fun hn => ?_⟩, hle, hm, hkk.1, hkk.2, hv, ha, hz, fun s hs => hsz s (List.mem_of_mem_take hs)⟩, rfl, .inr ⟨_, _, by rw [hx], ?_⟩⟩
        · have hn : 0 < len := hn
          obtain ⟨b, off, spot⟩ := ad
          have hs0 := hcell 0 (by omega)
          have hspot : spot = none := by simpa [Addr.add] using World.cell?_spot hs0
          subst hspot
          refine ⟨b, off, rfl, fun j hj => ?_⟩
          have hj : j < len := hj
          have hc := hcell j (by omega)
          rw [Go.WideShapes.add_plain] at hc
          rw [hc]
          show some (Value.string (ss.getD j ByteArray.empty)) = some (.string ((ss.take len).getD j ByteArray.empty))
          rw [List.getD_eq_getElem?_getD, List.getD_eq_getElem?_getD, List.getElem?_take_of_lt hj]
        · unfold strs
          simp
          omega
set_option maxRecDepth 100000 in
/-- A row's node. -/
theorem node_opened {H : Type} {enc : TypeId × Value → H} {W : World} {r : Reach} {b0 : Nat} {v : Value} {dd : DataW H} {p : List MemPlace} (hv : Value.okWide Tryz.prog W r b0 37 v) (h : DataW.Trod enc Tryz.prog W 0 (fun _ => true) true 37 v dd p) :
    ∃ (d : Nd) (p0 p1 p2 p3 p4 : DataW H), v = d.val ∧ d.on W ∧ dd = .agg [p0, p1, p2, p3, p4] ∧ (d.m = 0 ∨ ∃ el sp, p4 = .slice el sp ∧ d.m ≤ el.length + sp.length) := by
  obtain ⟨cs, rfl, _⟩ := okWide_struct Tryz.underlying37 hv
  obtain ⟨fuel, hf⟩ := h
  obtain ⟨d, p0, p1, p2, p3, p4, hc, ho, hx, hw⟩ := node_trod hf
  refine ⟨d, p0, p1, p2, p3, p4, ?_, ho, hx, hw⟩
  have hc : cs.toList = d.cells := by simpa [Value.cells] using hc
  obtain ⟨l⟩ := cs
  have hc : l = d.cells := hc
  rw [hc]; rfl
/-- How many numbers a row's node may have: the form's own reach. -/
theorem node_sized {H : Type} {ts : List TypeId} {ds : List (DataW H)} {d : Nd} {p0 p1 p2 p3 p4 : DataW H} (h : (DataW.weightsEach Tryz.prog ts ds).all (· ≤ reachBytes) = true) {j : Nat} (ht : ts[j]? = some 37) (hd : ds[j]? = some (.agg [p0, p1, p2, p3, p4]))
    (hm : d.m = 0 ∨ ∃ el sp, p4 = .slice el sp ∧ d.m ≤ el.length + sp.length) : d.m * 16 ≤ 140737488351232 := by
  rcases hm with h0 | ⟨el, sp, rfl, hle⟩
  · rw [h0]; omega
  · have hb : Tryz.prog.bytesOf 9 = 16 := by kernel_rfl
    have := List.all_eq_true.1 h _ (DataW.weights_mem_each ht hd ((el.length + sp.length) * Tryz.prog.bytesOf 9) (by simp [DataW.weights, DataW.weightsEach, Tryz.underlying37, Tryz.underlying35]))
    rw [hb] at this
    have h2 : (el.length + sp.length) * 16 ≤ reachBytes := of_decide_eq_true this
    have h3 : reachBytes = 140737488351232 := by decide
    omega
set_option maxRecDepth 100000 in
/-- A row's slice of nodes. -/
theorem nodes_opened {H : Type} {enc : TypeId × Value → H} {W : World} {r : Reach} {b0 : Nat} {v : Value} {dd : DataW H} {p : List MemPlace} (hv : Value.okWide Tryz.prog W r b0 22 v) (h : DataW.Trod enc Tryz.prog W 0 (fun _ => true) true 22 v dd p) :
    ∃ a n c f, v = .slice a n c ∧ Nq W a n f ∧ n ≤ c ∧ c ≤ maxLen := by
  obtain ⟨a, n, c, rfl⟩ := okWide_slice Tryz.underlying22 hv
  obtain ⟨fuel, hf⟩ := h
  have hc5 : Tryz.prog.cellsOf 37 = 5 := by kernel_rfl
  rcases DataW.trod_slice Tryz.underlying22 hf with ⟨h0, _⟩ | ⟨a', n', c', elems, rest, m, _, h0, _, hb, hl, hm, hlen, hel, _, _⟩
  · simp [Value.cells] at h0
    obtain ⟨rfl, rfl, rfl⟩ := h0
    exact ⟨none, 0, 0, fun _ => ⟨0, ⟨#[]⟩, ⟨#[]⟩, ⟨#[]⟩, none, 0, 0, []⟩, rfl, Nq.nil _ _ _, Nat.le_refl _, by unfold maxLen; omega⟩
  · simp [Value.cells] at h0
    obtain ⟨rfl, rfl, rfl⟩ := h0
    rw [hc5] at hel
    have each : ∀ i, i < n → ∃ d : Nd, d.on W ∧ ∀ j, j < 5 → W.cell? ((a'.add (i * 5)).add j) = d.cells[j]? := by
      intro i hi
      obtain ⟨y, hy⟩ : ∃ y, elems[i]? = some y := ⟨_, List.getElem?_eq_getElem (by omega)⟩
      have hb' := hel i hi
      rw [hy, Option.bind_eq_some_iff] at hb'
      obtain ⟨cs, hcs, hy'⟩ := hb'
      obtain ⟨_, _, hcell⟩ := World.cells?_some hcs
      obtain ⟨d, _, _, _, _, _, hcd, ho, _, _⟩ := node_trod hy'
      exact ⟨d, ho, fun j hj => by rw [← hcd]; exact hcell j (by omega)⟩
    rcases Nat.eq_zero_or_pos n with h0 | h0
    · subst h0
      exact ⟨some a', 0, c, fun _ => ⟨0, ⟨#[]⟩, ⟨#[]⟩, ⟨#[]⟩, none, 0, 0, []⟩, rfl, Nq.nil _ _ _, hl, hm⟩
    · obtain ⟨b, off, spot⟩ := a'
      have hspot : spot = none := by
        obtain ⟨d, _, hx⟩ := each 0 h0
        have := hx 0 (by omega)
        simpa [Addr.add] using World.cell?_spot (show W.cell? _ = some (.int .i64 d.k) from this)
      subst hspot
      have each2 : ∀ i, ∃ d : Nd, i < n → d.on W ∧ Ld W b (off + i * 5) d := by
        intro i
        by_cases hi : i < n
        · obtain ⟨d, ho, hx⟩ := each i hi
          refine ⟨d, fun _ => ⟨ho, ?_⟩⟩
          have g : ∀ j, j < 5 → W.cell? ⟨b, off + i * 5 + j, none⟩ = d.cells[j]? := fun j hj => by
            have := hx j hj
            rw [Go.WideShapes.add_plain, Go.WideShapes.add_plain] at this
            exact this
          exact ⟨g 0 (by omega), g 1 (by omega), g 2 (by omega), g 3 (by omega), g 4 (by omega)⟩
        · exact ⟨⟨0, ⟨#[]⟩, ⟨#[]⟩, ⟨#[]⟩, none, 0, 0, []⟩, fun h => absurd h hi⟩
      obtain ⟨f, hf2⟩ := Classical.axiomOfChoice each2
      exact ⟨some ⟨b, off, none⟩, n, c, f, rfl, ⟨fun _ => ⟨b, off, rfl, fun j hj => (hf2 j hj).2⟩, fun j hj => (hf2 j hj).1⟩, hl, hm⟩
end Go.Proofs.YtljkmdmbndjngaaGreat
/-
  The document's example.
-/
namespace Go.Proofs.YtljkmdmbndjngaaGreat
set_option linter.unusedVariables false
set_option linter.unusedSimpArgs false
open Go.RowKit Go.Maps

def exTs : List Tk := [⟨6, [40], 1⟩, ⟨1, [49], 3⟩, ⟨4, [43], 4⟩, ⟨1, [50], 5⟩, ⟨6, [41], 7⟩, ⟨4, [42], 9⟩, ⟨2, [120], 11⟩]
def exL : List Tn := [⟨4, [43], [], [], []⟩, ⟨1, [], [], [], [numT [49]]⟩, ⟨1, [], [], [], [numT [50]]⟩]
def exX : List Tn := ⟨4, [42], [], [], []⟩ :: (exL ++ [⟨2, [], [], [120], []⟩])
theorem ex_run : Run numB [32, 40, 32, 49, 43, 50, 32, 41, 32, 42, 32, 120] 0 exTs none :=
  .blank (by decide) (.own (k := 6) (by decide) (by decide) (by decide) (.blank (by decide)
    (.byte (k := 1) (by decide) (by decide) (by decide) (.cons (by decide)) (fun _ => by decide) (.own (k := 4) (by decide) (by decide) (by decide)
      (.byte (k := 1) (by decide) (by decide) (by decide) (.cons (by decide)) (fun _ => by decide) (.blank (by decide) (.own (k := 6) (by decide) (by decide) (by decide) (.blank (by decide)
        (.own (k := 4) (by decide) (by decide) (by decide) (.blank (by decide) (.byte (k := 2) (by decide) (by decide) (by decide) (.nil _) (fun h => by cases h) (.nil _))))))))))))
theorem no_vb {q : Pk} {r : List Pk} (h : (decide (q.k = 3) || decide (q.k = 4) || decide (q.k = 6 ∧ q.t = [123])) = false) : ¬ isVb (q :: r) := fun g => by
  rcases (show q.k = 3 ∨ q.k = 4 ∨ (q.k = 6 ∧ q.t = [123]) from g) with g | g | g <;> simp [g] at h
theorem no_mk {q : Pk} {r : List Pk} {c : UInt8} (h : (decide (q.k = 6) && decide (q.t = [c])) = false) : ¬ isMk c (q :: r) := fun g => by
  obtain ⟨g1, g2⟩ := (show q.k = 6 ∧ q.t = [c] from g)
  simp [g1, g2] at h
theorem ex_num {c : UInt8} {p : Int} {q : Pk} {r : List Pk} (hq : q.k ≠ 1) : Rd' numT .atom (⟨1, [c], p⟩ :: q :: r) (some [⟨1, [], [], [], [numT [c]]⟩]) (q :: r) := by
  have e : nmL (⟨1, [c], p⟩ :: q :: r) = [[c]] := by
    show (if (1 : Int) = 1 then [c] :: nmL (q :: r) else []) = _
    rw [if_pos rfl, show nmL (q :: r) = [] from if_neg hq]
  have h := Rd'.m_nums (M := numT) (ts := ⟨1, [c], p⟩ :: q :: r) (by rw [e]; simp) (by rw [e]; simp)
  rw [e] at h
  exact h
theorem ex_ln : Ln numT (pks exTs) (some exX) [] := by
  refine .plain (fun h => absurd (show (6 : Int) = 2 from h.1) (by decide)) (fun h => absurd (show (6 : Int) = 3 from h.1) (by decide)) ?_
  refine .e_term (L := exL) (no_vb (by decide)) (.t_is (L := exL) (.m_par rfl rfl (.c_is (q := ⟨6, [41], 7⟩) (r := [⟨4, [42], 9⟩, ⟨2, [120], 11⟩]) ?_ rfl rfl)) (.b_end (no_mk (by decide)))) (.a_op (.inr (.inl rfl)) ?_)
  · refine .e_term (L := [⟨1, [], [], [], [numT [49]]⟩]) (no_vb (by decide)) (.t_is (L := [⟨1, [], [], [], [numT [49]]⟩]) (ex_num (by decide)) (.b_end (no_mk (by decide)))) (.a_op (.inr (.inl rfl)) ?_)
    exact .o_is (V := [⟨4, [43], [], [], []⟩]) (x := some [⟨1, [], [], [], [numT [50]]⟩]) (.v_one (.inr rfl) (.d_none (fun h => absurd (show (1 : Int) = 5 from h) (by decide)))) (.e_term (L := [⟨1, [], [], [], [numT [50]]⟩]) (no_vb (by decide)) (.t_is (L := [⟨1, [], [], [], [numT [50]]⟩]) (ex_num (by decide)) (.b_end (no_mk (by decide)))) (.a_end (no_vb (by decide))))
  · exact .o_is (V := [⟨4, [42], [], [], []⟩]) (x := some [⟨2, [], [], [120], []⟩]) (.v_one (.inr rfl) (.d_none (fun h => absurd (show (2 : Int) = 5 from h) (by decide)))) (.e_term (no_vb (by decide)) (.t_is (.m_word rfl) (.b_end id)) (.a_end id))
theorem nu_one {c : UInt8} (h : cls c = 1) (hn : numB [c] = true) : Nu numB [c] := ⟨⟨c, [], rfl, h, by simp⟩, hn⟩
theorem ex_pr : PrL numB numT exX [40, 49, 43, 50, 41, 42, 120] := by
  have one : ∀ {c : UInt8}, cls c = 1 → numB [c] = true → Pr numB numT .left [⟨1, [], [], [], [numT [c]]⟩] [c] := fun h hn => .lit (ss := [[_]]) (by simp) (by simp) (fun s hs => by
    obtain rfl : s = [_] := by simpa using hs
    exact nu_one h hn)
  have h1 : Pr numB numT .whole exL [49, 43, 50] := .dyad (V := [⟨4, [43], [], [], []⟩]) (L := [⟨1, [], [], [], [numT [49]]⟩]) (X := [⟨1, [], [], [], [numT [50]]⟩]) (l := [49]) (s := [43] ++ []) (t := [50]) (one (by decide) (by decide)) (.one (.sign (by decide)) (.inl rfl)) (.plain (one (by decide) (by decide)) (not_op (.inl rfl)))
  have h2 : Pr numB numT .left exL [40, 49, 43, 50, 41] := .paren h1 ⟨_, _, rfl, .inr rfl⟩
  exact .expr (.dyad (V := [⟨4, [42], [], [], []⟩]) (L := exL) (X := [⟨2, [], [], [120], []⟩]) (l := [40, 49, 43, 50, 41]) (s := [42] ++ []) (t := [120]) h2 (.one (.sign (by decide)) (.inl rfl)) (.plain (.name (by decide) (by simp)) (not_op (.inr (.inl rfl)))))
theorem ex_dp : Dp exX 1 3 := by
  have h1 : Dp [(⟨1, [], [], [], [numT [49]]⟩ : Tn)] 1 1 := .cons (k := 0) rfl .nil
  have h2 : Dp [(⟨1, [], [], [], [numT [50]]⟩ : Tn)] 1 1 := .cons (k := 0) rfl .nil
  have h3 : Dp [(⟨2, [], [], [120], []⟩ : Tn)] 1 1 := .cons (k := 0) rfl .nil
  have h4 : Dp exL 1 2 := .cons (k := 2) rfl (h1.app h2)
  exact .cons (k := 2) rfl (h4.app h3)
set_option maxHeartbeats 1600000 in
theorem shownP_is (W : World) : Calls Tryz.prog 4 #[] W (TrueEnd W) := by
  have hz : (⟨#[32, 40, 32, 49, 43, 50, 32, 41, 32, 42, 32, 120]⟩ : ByteArray).size ≤ 256 := by decide
  have K1 := Lib.hid (show Calls Tryz.prog 8 #[.string ⟨#[32, 40, 32, 49, 43, 50, 32, 41, 32, 42, 32, 120]⟩] W (CnEnd ⟨#[40, 49, 43, 50, 41, 42, 120]⟩ 0 0 W) from
    Can_yes _ (mx_of hz ex_run ex_ln ex_dp (by decide) (by decide)) ex_pr (fun W => (Parse_ok _ hz _ ex_run ex_ln W).mono fun e W' h => h.tree ex_dp (by decide)) W)
  go_enter Tryz.func4, Tryz.ntmps4
  go_wp2_with fail
  refine K1.out.mono ?_
  rintro e w1 ⟨rfl, hb⟩
  go_wp2_with fail
  go_ret
  exact ⟨rfl, hb⟩
end Go.Proofs.YtljkmdmbndjngaaGreat
/-
  PrintTwice, at every text.
-/
namespace Go.Proofs.YtljkmdmbndjngaaGreat
set_option linter.unusedVariables false
set_option linter.unusedSimpArgs false
open Go.RowKit Go.Maps

/-- Any plain nodes are those of some row. -/
theorem tn_ex (X : List Tn) : ∃ f, tnF f X.length = X := by
  refine ⟨fun i => ⟨(X.getD i ⟨0, [], [], [], []⟩).k, tx (X.getD i ⟨0, [], [], [], []⟩).v, tx (X.getD i ⟨0, [], [], [], []⟩).a, tx (X.getD i ⟨0, [], [], [], []⟩).x, none, 0, 0, (X.getD i ⟨0, [], [], [], []⟩).ns.map tx⟩, ?_⟩
  refine List.ext_getElem (by rw [tnF_len]) fun i h1 h2 => ?_
  have e : X.getD i ⟨0, [], [], [], []⟩ = X[i] := by simp [List.getD, h2]
  have g : (tnF (fun i => (⟨(X.getD i ⟨0, [], [], [], []⟩).k, tx (X.getD i ⟨0, [], [], [], []⟩).v, tx (X.getD i ⟨0, [], [], [], []⟩).a, tx (X.getD i ⟨0, [], [], [], []⟩).x, none, 0, 0, (X.getD i ⟨0, [], [], [], []⟩).ns.map tx⟩ : Nd)) X.length)[i]? = some X[i] := by
    rw [tnF_at h2]
    show some (Tn.mk _ _ _ _ _) = _
    rw [e]
    simp only [tx_list, List.map_map]
    have : ((fun x : ByteArray => x.data.toList) ∘ tx) = id := rfl
    rw [this, List.map_id]
  rw [List.getElem?_eq_getElem h1] at g
  exact Option.some.inj g
theorem Mx.pr {X : List Tn} (h : Mx X) : PrL numB numT X (prT X) ∧ (prT X).length ≤ 20000000000 := by
  obtain ⟨f, e⟩ := tn_ex X
  have hm := h.2.2 f _ e
  have g := may_prT hm
  have hz := (may_pt hm (by have := h.1; omega) g).size
  rw [e] at g hz
  exact ⟨g, hz⟩
end Go.Proofs.YtljkmdmbndjngaaGreat
/-
  The reference's Print and Canonical; PrintTells, at every row of nodes and every text.
-/
namespace Go.Proofs.YtljkmdmbndjngaaGreat
set_option linter.unusedVariables false
set_option linter.unusedSimpArgs false
open Go.RowKit Go.Maps

theorem rone_is {a : Option Addr} {n c : Nat} {f : Nat → Nd} {p : Nat} {s : List UInt8} (hz : Sz f n) (h : Pt numB numT (tnF f n) p s) : ∀ W, Hr a n c f W → Calls Tryz.prog 14 #[.slice a n c, .int .i64 (p : Int)] W (StB (tx s) W) := by
  induction h with
  | @mk p e d us ts s hn he hu hl hk hf hs ih =>
    intro W hW
    exact rone_step p d us ts s W hW hz hn ((un_place hn he).trans hu) hl (fun j u t h1 h2 => ⟨(hk j u t h1 h2).size, ih j u t h1 h2⟩) hf
set_option maxHeartbeats 1600000 in
theorem rPrint_no (a : Option Addr) (n c : Nat) (f : Nat → Nd) (W : World) (h : Nq W a n f) (hnc : n ≤ c) (hc : c ≤ maxLen) (hn : n ≤ 1000000) (hm : ¬ mayP f n) :
    Calls Tryz.prog 7 #[.slice a n c] W (PnEnd ⟨#[]⟩ 1 W) := by
  have KM := rTMay_is a n c f W h hn
  rw [mayB_no hm] at KM
  replace KM := Lib.hid KM
  clear hm
  go_enter Tryz.func7, Tryz.ntmps7
  go_wp2_with fail
  refine KM.out.mono ?_
  rintro e w1 ⟨rfl, hb⟩
  go_wp2_with fail
  go_ret2
  exact ⟨rfl, hb⟩
set_option maxHeartbeats 1600000 in
theorem rPrint_yes (a : Option Addr) (n c : Nat) (f : Nat → Nd) (W : World) (h : Nq W a n f) (hnc : n ≤ c) (hc : c ≤ maxLen) (hn : n ≤ 1000000) (hm : mayP f n) {s : List UInt8} (hs : PrL numB numT (tnF f n) s) :
    Calls Tryz.prog 7 #[.slice a n c] W (PnEnd (tx s) 0 W) := by
  have KM := rTMay_is a n c f W h hn
  rw [mayB_yes.2 hm] at KM
  replace KM := Lib.hid KM
  have KT := Lib.hid (fun W hW => rone_is (a := a) (c := c) (may_sz hm) (may_pt hm hn hs) W hW)
  have H := Lib.hid (Hr.mk h hn hnc hc)
  clear hm h hs
  go_enter Tryz.func7, Tryz.ntmps7
  go_wp2_with fail
  refine KM.out.mono ?_
  rintro e w1 ⟨rfl, hb⟩
  have HB := Lib.hid hb
  have KT2 := Lib.hid (KT.out _ (H.out.below hb))
  clear hb
  go_wp2_with fail
  refine KT2.out.mono ?_
  rintro e w3 ⟨rfl, hb3⟩
  go_wp2_with fail
  go_ret2
  exact ⟨rfl, HB.out.trans (hb3.mono HB.out.size)⟩
theorem rprint_nx {a : Option Addr} {n c : Nat} {X : List Tn} {W : World} (hX : Mx X) {s : List UInt8} (hs : PrL numB numT X s) (h : Nx W a n c X) : Calls Tryz.prog 7 #[.slice a n c] W (PnEnd (tx s) 0 W) := by
  obtain ⟨f, h1, h2, h3, e⟩ := h
  have l1 : X.length = n := by rw [← e, tnF_len]
  have := hX.1
  exact rPrint_yes a n c f W h1 h2 h3 (by omega) (hX.2.2 f n e) (by rw [e]; exact hs)
set_option maxHeartbeats 1600000 in
theorem rCan_no (s : ByteArray) (p q : Int) (hq : q = 10 ∨ q = 2 ∨ q = 8) (K : ∀ W, Calls Tryz.prog 16 #[.string s] W (FlEnd p q W)) (W : World) : Calls Tryz.prog 9 #[.string s] W (CnEnd ⟨#[]⟩ p q W) := by
  have KK := Lib.hid K
  clear K
  rcases hq with rfl | rfl | rfl
  all_goals
    go_enter Tryz.func9, Tryz.ntmps9
    go_wp2_with fail
    refine (KK.out _).mono ?_
    rintro e w1 ⟨rfl, hb⟩
    go_wp2_with fail
    go_ret3
    exact ⟨rfl, hb⟩
set_option maxHeartbeats 1600000 in
theorem rCan_yes (s : ByteArray) {X : List Tn} (hX : Mx X) {t : List UInt8} (ht : PrL numB numT X t) (K : ∀ W, Calls Tryz.prog 16 #[.string s] W (PkEnd X W)) (W : World) : Calls Tryz.prog 9 #[.string s] W (CnEnd (tx t) 0 0 W) := by
  have KK := Lib.hid K
  have KP := Lib.hid (fun w a n c (h : Nx w a n c X) => rprint_nx hX ht h)
  clear K hX ht
  go_enter Tryz.func9, Tryz.ntmps9
  go_wp2_with fail
  refine (KK.out _).mono ?_
  rintro e w1 ⟨a, n, c, rfl, hN, hb⟩
  have KQ := Lib.hid (KP.out _ _ _ _ hN)
  clear hN
  go_wp2_with fail
  refine KQ.out.mono ?_
  rintro e w2 ⟨rfl, hb2⟩
  have HB := Lib.hid (hb.trans (hb2.mono hb.size))
  clear hb hb2
  go_wp2_with fail
  go_ret3
  exact ⟨rfl, HB.out⟩
/-- What both sides' Print tells of few nodes is the same. -/
theorem print_both (a : Option Addr) (n c : Nat) (f : Nat → Nd) (hnc : n ≤ c) (hc : c ≤ maxLen) (hn : n ≤ 80) : ∃ t q, (∀ W, Nq W a n f → Calls Tryz.prog 6 #[.slice a n c] W (PnEnd t q W)) ∧ ∀ W, Nq W a n f → Calls Tryz.prog 7 #[.slice a n c] W (PnEnd t q W) := by
  by_cases hm : mayP f n
  · have hp := may_prT hm
    exact ⟨_, _, fun W h => Print_yes a n c f W h hnc hc (by omega) hm hp, fun W h => rPrint_yes a n c f W h hnc hc (by omega) hm hp⟩
  · exact ⟨_, _, fun W h => Print_no a n c f W h hnc hc (by omega) hm, fun W h => rPrint_no a n c f W h hnc hc (by omega) hm⟩
theorem rbig_fl {s : ByteArray} (h : 256 < s.size) (hm : s.size ≤ 9223372036854775807) (W : World) : Calls Tryz.prog 16 #[.string s] W (FlEnd 0 8 W) :=
  (rParse_big s h hm W).mono fun _ _ ⟨h1, h2⟩ => ⟨h1, h2⟩
theorem pp_deep {X : List Tn} {d : Nat} (hd : Dp X 1 d) (h40 : 40 < d) {z : Int} {W : World} {e : Ending} {W' : World} (h : PpEnd (some X) [] z W e W') : FlEnd 0 10 W e W' := by
  obtain ⟨hb, ⟨h1, _⟩ | ⟨Y, d2, h1, h2, ⟨_, h3⟩ | ⟨h3, _⟩⟩⟩ := h
  · cases h1
  · exact ⟨h3, hb⟩
  · injection h1 with h1
    subst h1
    have := (hd.det h2).2
    omega
/-- What both sides' Canonical tells of a text is the same. -/
theorem can_both (s : ByteArray) (hm : s.size ≤ 9223372036854775807) : ∃ t p q, (∀ W, Calls Tryz.prog 8 #[.string s] W (CnEnd t p q W)) ∧ ∀ W, Calls Tryz.prog 9 #[.string s] W (CnEnd t p q W) := by
  have no : ∀ p q, (q = 10 ∨ q = 2 ∨ q = 8) → (∀ W, Calls Tryz.prog 15 #[.string s] W (FlEnd p q W)) → (∀ W, Calls Tryz.prog 16 #[.string s] W (FlEnd p q W)) → ∃ t p q, (∀ W, Calls Tryz.prog 8 #[.string s] W (CnEnd t p q W)) ∧ ∀ W, Calls Tryz.prog 9 #[.string s] W (CnEnd t p q W) :=
    fun p q hq K1 K2 => ⟨_, p, q, fun W => Can_no s p q hq K1 W, fun W => rCan_no s p q hq K2 W⟩
  by_cases hs : s.size ≤ 256
  · obtain ⟨ts, e, hrun⟩ := Run.any numB s.data.toList 0
    cases e with
    | some q => exact no q 2 (.inr (.inl rfl)) (fun W => Parse_bad s hs ts q hrun W) (fun W => rParse_bad s hs ts q hrun W)
    | none =>
      obtain ⟨x, r, hR⟩ := Ln.any numT (pks ts)
      have k1 := fun W => Parse_ok s hs ts hrun hR W
      have k2 := fun W => (rParse_ok s hs ts hrun hR W).mono fun _ _ h => h.pp
      cases ht : told x r with
      | none => exact no _ 2 (.inr (.inl rfl)) (fun W => (k1 W).mono fun e W' h => h.none ht) (fun W => (k2 W).mono fun e W' h => h.none ht)
      | some X =>
        have hfew := told_few hs hrun hR ht
        obtain ⟨rfl, rfl⟩ := told_some ht
        have hbr := (run_few hs hrun).2.1
        obtain ⟨d, hd⟩ := hR.tree hbr
        by_cases h40 : 40 < d
        · exact no 0 10 (.inl rfl) (fun W => (k1 W).mono fun e W' h => pp_deep hd h40 h) (fun W => (k2 W).mono fun e W' h => pp_deep hd h40 h)
        · have hX := mx_of hs hrun hR hd (by omega) (by omega)
          obtain ⟨hpr, _⟩ := hX.pr
          exact ⟨_, _, _, fun W => Can_yes s hX hpr (fun W => (k1 W).mono fun e W' h => h.tree hd (by omega)) W, fun W => rCan_yes s hX hpr (fun W => (k2 W).mono fun e W' h => h.tree hd (by omega)) W⟩
  · exact no 0 8 (.inr (.inr rfl)) (fun W => big_fl (by omega) hm W) (fun W => rbig_fl (by omega) hm W)
set_option maxHeartbeats 6400000 in
set_option maxRecDepth 10000 in
theorem ptells_any (a : Option Addr) (n c : Nat) (f : Nat → Nd) (s : ByteArray) (W : World) (h : Nq W a n f) (hnc : n ≤ c) (hc : c ≤ maxLen) (hs : s.size ≤ 4611686018427387903) : Calls Tryz.prog 3 #[.slice a n c, .string s] W (TrueEnd W) := by
  have KS := Lib.hid (fun w => shownP_is w)
  have KF := Lib.hid (fun w (hb : Below W.heap.size W w) => Few_is a n c f w (h.below hb) (maxLen_le (Nat.le_trans hnc hc)))
  have KP := Lib.hid (fun hn => print_both a n c f hnc hc hn)
  obtain ⟨t2, p2, q2, C1, C2⟩ := can_both s (by omega)
  replace C1 := Lib.hid C1
  replace C2 := Lib.hid C2
  have H := Lib.hid h
  clear h hnc hc
  go_enter Tryz.func3, Tryz.ntmps3
  go_wp2_with fail
  refine (KS.out _).mono ?_
  rintro e w1 ⟨rfl, hb1⟩
  have KF1 := KF.out w1 hb1
  go_wp2_with fail
  refine KF1.mono ?_
  rintro e w2 ⟨r, rfl, hr, hb2⟩
  have HR := Lib.hid hr
  have HB2 := Lib.hid (hb1.trans (hb2.mono hb1.size))
  clear hb1 hb2 hr KF KF1 KS
  cases r with
  | false =>
    go_wp2_with fail
    go_ret
    exact ⟨rfl, HB2.out⟩
  | true =>
    by_cases hz : 600 < s.size
    · have e1 : (600 : Int) < (s.size : Int) := by omega
      clear hz
      go_wp2_with fail
      go_ret
      exact ⟨rfl, HB2.out⟩
    · have e1 : ¬ (600 : Int) < (s.size : Int) := by omega
      obtain ⟨t, q, P1, P2⟩ := KP.out (HR.out rfl).1
      have PP1 := Lib.hid (P1 _ (H.out.below HB2.out))
      have PP2 := Lib.hid (fun w hb => P2 w (H.out.below hb))
      clear hz P1 P2 KP HR
      go_wp2_with fail
      refine PP1.out.mono ?_
      rintro e w3 ⟨rfl, hb3⟩
      have HB3 := Lib.hid (HB2.out.trans (hb3.mono HB2.out.size))
      have PP3 := Lib.hid (PP2.out _ HB3.out)
      clear hb3 HB2 PP1 PP2
      go_wp2_with fail
      refine PP3.out.mono ?_
      rintro e w4 ⟨rfl, hb4⟩
      have HB4 := Lib.hid (HB3.out.trans (hb4.mono HB3.out.size))
      clear hb4 HB3 PP3
      go_wp2_with fail
      refine (C1.out _).mono ?_
      rintro e w5 ⟨rfl, hb5⟩
      have HB5 := Lib.hid (HB4.out.trans (hb5.mono HB4.out.size))
      clear hb5 HB4 C1
      go_wp2_with fail
      refine (C2.out _).mono ?_
      rintro e w6 ⟨rfl, hb6⟩
      have HB6 := Lib.hid (HB5.out.trans (hb6.mono HB5.out.size))
      clear hb6 HB5 C2
      go_wp2_with fail
      go_ret
      exact ⟨rfl, HB6.out⟩
end Go.Proofs.YtljkmdmbndjngaaGreat

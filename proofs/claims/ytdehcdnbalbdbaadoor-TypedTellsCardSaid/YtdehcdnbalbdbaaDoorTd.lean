/-
  Boxes with a typed array in them; typed.packed, by its contract.
-/
import Derived.Test.YtdehcdnbalbdbaaDoorTc
import Derived.Deep.RegionWith
namespace Go.Proofs.YtdehcdnbalbdbaaDoor
open Go.RowKit

/-- A block with a typed array in it, the program's or the reference's. -/
def Tx (t : TypeId) (W : World) (g : Nat) (w : Int) (a : Option Addr) (n c : Nat) (s : ByteArray) : Prop := W.heap[g]? = some (.cells #[.int .i64 w, .slice a n c, .string s] t (0, 0))
section
variable {t : TypeId} {W W' : World} {a : Option Addr} {g n c : Nat} {w : Int} {s : ByteArray}
theorem Tx.lt (h : Tx t W g w a n c s) : g < W.heap.size := (Array.getElem?_eq_some_iff.1 h).1
theorem Tx.c0 (h : Tx t W g w a n c s) : W.cell? ⟨g, 0, none⟩ = some (.int .i64 w) := by rw [cell_of_row _ _ 0 _ _ _ h]; rfl
theorem Tx.c1 (h : Tx t W g w a n c s) : W.cell? ⟨g, 1, none⟩ = some (.slice a n c) := by rw [cell_of_row _ _ 1 _ _ _ h]; rfl
theorem Tx.c2 (h : Tx t W g w a n c s) : W.cell? ⟨g, 2, none⟩ = some (.string s) := by rw [cell_of_row _ _ 2 _ _ _ h]; rfl
theorem Tx.f (h : Tx t W g w a n c s) (i : Nat) : W.frozen? ⟨g, i, none⟩ = false := frozen_of_row _ _ i _ _ h
theorem Tx.below (h : Tx t W g w a n c s) {B : Nat} (hb : Below B W W') (hg : g < B) : Tx t W' g w a n c s := (hb.block g hg).trans h
theorem Tx.on (h : Tx t W g w a n c s) (hb : Below W.heap.size W W') : Tx t W' g w a n c s := h.below hb h.lt
theorem Tx.alloc (h : Tx t W g w a n c s) (o : Obj) : Tx t (W.alloc o) g w a n c s := (Below.heap_alloc W o g h.lt).trans h
theorem Tx.new (t : TypeId) (W : World) (w : Int) (a : Option Addr) (n c : Nat) (s : ByteArray) : Tx t (W.alloc (.cells #[.int .i64 w, .slice a n c, .string s] t)) W.heap.size w a n c s := heap_alloc_new W _
theorem Tx.new' (t : TypeId) (W : World) {g : Nat} (hg : g = W.heap.size) (w : Int) (a : Option Addr) (n c : Nat) (s : ByteArray) : Tx t (W.alloc (.cells #[.int .i64 w, .slice a n c, .string s] t)) g w a n c s := by rw [hg]; exact heap_alloc_new W _
theorem Tx.set (h : Tx t W g w a n c s) (w' : Int) (a' : Option Addr) (n' c' : Nat) (s' : ByteArray) : Tx t (((W.setCell ⟨g, 0, none⟩ (.int .i64 w')).setCell ⟨g, 1, none⟩ (.slice a' n' c')).setCell ⟨g, 2, none⟩ (.string s')) g w' a' n' c' s' := by
  unfold Tx at h ⊢
  simp [World.setCell, Array.getElem?_modify, h]
theorem Tx.setOther (h : Tx t W g w a n c s) {p : Addr} (hp : g ≠ p.block) (u : Value) : Tx t (W.setCell p u) g w a n c s := (Below.heap_setCell W p u g hp).trans h
theorem Tx.drewN (h : Tx t W g w a n c s) (q : Nat) : Tx t (W.drewN q) g w a n c s := h
theorem below_made3 {B : Nat} (hb : Below B W W') (hg : B ≤ g) (u v x : Value) : Below B W (((W'.setCell ⟨g, 0, none⟩ u).setCell ⟨g, 1, none⟩ v).setCell ⟨g, 2, none⟩ x) := ((hb.setCell hg u).setCell hg v).setCell hg x
end
/-- What lies in another block stays, when a box is filled. -/
theorem setCell_other (W : World) {p q : Addr} (h : p.block ≠ q.block) (u : Value) : (W.setCell p u).cell? q = W.cell? q := World.cell?_setCell_other _ _ _ _ (by intro e; exact h (by rw [e]))
/-- A slice that reads so, and lies in a block from B on. -/
def Fs (W : World) (B : Nat) (a : Option Addr) (n : Nat) (l : List Int) : Prop := Sl W a n l ∧ (0 < n → ∀ p, a = some p → B ≤ p.block)
theorem Fs.set {W : World} {B n : Nat} {a : Option Addr} {l : List Int} (h : Fs W B a n l) {p : Addr} (hp : p.block < B) (u : Value) : Fs (W.setCell p u) B a n l := by
  refine ⟨⟨h.1.1, fun hn => ?_⟩, h.2⟩
  obtain ⟨b, off, e, hc⟩ := h.1.2 hn
  have hB := h.2 hn _ e
  refine ⟨b, off, e, fun j hj => ?_⟩
  rw [setCell_other _ (by show p.block ≠ b; have : B ≤ b := hB; omega), hc j hj]
theorem Fs.drewN {W : World} {B n : Nat} {a : Option Addr} {l : List Int} (h : Fs W B a n l) (q : Nat) : Fs (W.drewN q) B a n l := h
theorem Fs.base {W : World} {B B' n : Nat} {a : Option Addr} {l : List Int} (h : Fs W B a n l) (hB : B' ≤ B) : Fs W B' a n l := ⟨h.1, fun hn p e => Nat.le_trans hB (h.2 hn p e)⟩
theorem owns_fs {w : World} {base n : Nat} {v : Value} {l : List Int} (h : w.ownsRow base 3 1 v n (valsI l)) : ∃ a c, v = .slice a n c ∧ Fs w base a n l := by
  obtain ⟨a, c, rfl, hs⟩ := owns_sl h
  refine ⟨a, c, rfl, hs, fun hn p e => ?_⟩
  rcases h.2 with ⟨e1, e2⟩ | ⟨g, cap, cur, e1, hb, _⟩
  · omega
  · injection e1 with e1
    rw [e] at e1
    injection e1 with e1
    rw [e1]; exact hb
def FsPost (l : List Int) (W : World) (x : Ending) (W' : World) : Prop := ∃ a' n' c', x = .returned (.slice a' n' c') ∧ Fs W' W.heap.size a' n' l ∧ n' ≤ 20 ∧ Below W.heap.size W W'
theorem Clone_fs (a : Option Addr) (n c : Nat) (l : List Int) (W : World) (h : Sl W a n l) (hn : n ≤ 20) : Calls Tryd.prog 41 #[.slice a n c] W (FsPost l W) := by
  rcases a with _ | a
  · have h0 : n = 0 := by
      rcases Nat.eq_zero_or_pos n with h0 | h0
      · exact h0
      · obtain ⟨b, off, e, _⟩ := h.2 h0; cases e
    subst h0
    obtain rfl := List.length_eq_zero_iff.1 h.1
    refine (Tryd.slices_Clone_int_nil 0 c W).mono ?_
    rintro x w ⟨rfl, rfl⟩
    exact ⟨none, 0, 0, rfl, ⟨Sl.nil _ _, fun h => by omega⟩, by omega, Below.refl _ _⟩
  · by_cases h0 : n = 0
    · subst h0
      obtain rfl := List.length_eq_zero_iff.1 h.1
      refine (Tryd.slices_Clone_int_zero a c W).mono ?_
      rintro x w ⟨v', rfl, hown, _, hb⟩
      obtain ⟨a', c', rfl, hs⟩ := owns_fs (l := []) hown
      exact ⟨a', 0, c', rfl, hs, by omega, hb⟩
    · obtain ⟨b, off, e, hc⟩ := h.2 (by omega)
      injection e with e
      subst e
      refine (Tryd.slices_Clone_int b off n c l W (by rw [h.1]; exact Nat.le_refl _) (by omega) (fun j hj => hc j (by rw [← h.1]; exact hj))).mono ?_
      rintro x w ⟨v', rfl, hown, _, hb⟩
      rw [List.take_of_length_le (by rw [h.1]; exact Nat.le_refl _)] at hown
      obtain ⟨a', c', rfl, hs⟩ := owns_fs hown
      exact ⟨a', n, c', rfl, hs, hn, hb⟩

/-- A slice of whole numbers, read by a function. -/
def Sf (W : World) (a : Option Addr) (m : Nat) (f : Nat → Int) : Prop := 0 < m → ∃ b off, a = some ⟨b, off, none⟩ ∧ ∀ j, j < m → W.cell? ⟨b, off + j, none⟩ = some (.int .i64 (f j))
theorem Sf.below {W W' : World} {a : Option Addr} {m : Nat} {f : Nat → Int} (h : Sf W a m f) (hb : Below W.heap.size W W') : Sf W' a m f := by
  intro hn
  obtain ⟨b, off, e, hc⟩ := h hn
  exact ⟨b, off, e, fun j hj => (hb.cell (show (⟨b, off + j, none⟩ : Addr).block < W.heap.size from World.block_lt_of_cell? W _ (hc j hj))).trans (hc j hj)⟩
theorem run_mk8 (n : Nat) (z : Int) (hz : z = (n : Int)) (hn : n ≤ 1000000) (w : World) :
    (Instr.makeSlice 83 (.int .i64 0) (.int .i64 z)).run Tryd.prog w = .ok (.slice (some ⟨w.heap.size, 0, none⟩) 0 n) (w.alloc (.cells (madeCells #[.int .u8 0] n) 5)) := by
  subst hz
  obtain ⟨i, hi, hz0, hz1, hz2⟩ := info_parts infoU8
  have h := run_make (P := Tryd.prog) w 83 5 i _ Tryd.underlying83 hi hz0 .i64 .i64 0 n (by omega) (by omega) (by rw [hz2]; omega) (by omega)
  simpa [hz1, Value.cells] using h
theorem own_drew {w : World} {base e n : Nat} {v : Value} {xs : List Value} (h : w.ownsRow base e 1 v n xs) (q : Nat) : (w.drewN q).ownsRow base e 1 v n xs := h
set_option maxRecDepth 10000 in
theorem own_conv {w : World} {base n : Nat} {v : Value} {l : List UInt8} (h : w.ownsRow base 5 1 v n (bcs l)) (ha : v ≠ .slice none 0 0) :
    (convert 83 9 v).run Tryd.prog w = .ok (.string ⟨l.toArray⟩) w := by
  have hl : l.length = n := by have := h.1; rwa [bcs_len, Nat.mul_one] at this
  rcases h.2 with ⟨h0, _⟩ | ⟨g, cap, cur, rfl, _, hg, h1, h2, h3, h4⟩
  · exact absurd h0 ha
  · subst hl
    refine run_convert_bytes_back (P := Tryd.prog) w 83 9 5 ⟨g, 0, none⟩ cap l Tryd.underlying83 Tryd.underlying5 Tryd.underlying9 (fun j hj => ?_)
    rw [Lib.add_plain, cell_of_row w g (0 + j) cur 5 (0, 0) hg, Nat.zero_add]
    have : (cur.toList.take (l.length * 1))[j]? = (bcs l)[j]? := by rw [h4]
    rw [List.getElem?_take_of_lt (by omega)] at this
    rw [← Array.getElem?_toList, this]
    simp [bcs, hj]
theorem mul_wrap {m b : Nat} (h : m ≤ 4096) (hb : b ≤ 8) : IntKind.i64.wrap ((m : Int) * (b : Int)) = ((m * b : Nat) : Int) := by
  have h1 : ((m * b : Nat) : Int) = (m : Int) * (b : Int) := Int.natCast_mul m b
  have h2 : m * b ≤ 4096 * 8 := Nat.mul_le_mul h hb
  rw [← h1]
  exact IntWalk.i64_in _ (by omega)

/-! ### packed -/
def PkEnd (w : Int) (l : List Int) (s : ByteArray) (W : World) (e : Ending) (W' : World) : Prop :=
  ∃ a n c, e = .returned (.agg #[.int .i64 w, .slice a n c, .string s]) ∧ Fs W' W.heap.size a n l ∧ n ≤ 20 ∧ Below W.heap.size W W'
set_option maxRecDepth 10000 in
set_option maxHeartbeats 1600000 in
theorem packed_is {w : Int} {b : Nat} (h : Bw w b) {a a2 : Option Addr} {n c m c2 : Nat} {l : List Int} {f : Nat → Int} (W : World) (hl : Sl W a n l) (hn : n ≤ 20) (hf : Sf W a2 m f) (hm : m ≤ 4096) (hi : ∀ j, j < m → I64 (f j)) :
    Calls Tryd.prog 33 #[.int .i64 w, .slice a n c, .slice a2 m c2] W (PkEnd w l (Eb b f m) W) := by
  have K := Lib.hid (bytesOf_is h)
  have HB := Lib.hid h
  have KC := Lib.hid (fun w' (hb : Below W.heap.size W w') => Clone_fs a n c l w' (hl.below hb) hn)
  have HF := Lib.hid hf
  have HI := Lib.hid hi
  have hb8 : b ≤ 8 := h.le.2.1
  have hmb : m * b ≤ 4096 * 8 := Nat.mul_le_mul hm hb8
  have hw := mul_wrap hm hb8
  clear h hl hf hi
  generalize hq : m * b = q at hmb hw
  have HQ := Lib.hid hq
  clear hq
  have hmk := run_mk8 q q rfl (by omega)
  go_enter Tryd.func33, Tryd.ntmps33
  go_wp2_with fail
  refine (K.out _).mono ?_
  rintro e w1 ⟨rfl, rfl⟩
  go_wp2_with fail
  have hbx := (Tx.new 29 W 0 none 0 0 ⟨#[]⟩).alloc (.cells (madeCells #[.int .u8 0] q) 5)
  have s1 : (W.alloc (.cells #[.int .i64 0, .slice none 0 0, .string ⟨#[]⟩] 29)).heap.size = W.heap.size + 1 := by simp
  have how := World.ownsRow_made (base := W.heap.size + 1) (e := 5) (size := 1) (W.alloc (.cells #[.int .i64 0, .slice none 0 0, .string ⟨#[]⟩] 29)) (madeCells #[.int .u8 0] q) q (by omega) (by unfold maxLen; omega) (by rw [size_madeCells, Nat.mul_one])
  have hb0 := ((Below.refl W.heap.size W).alloc (Nat.le_refl _) (.cells #[.int .i64 0, .slice none 0 0, .string ⟨#[]⟩] 29)).alloc (by omega) (.cells (madeCells #[.int .u8 0] q) 5)
  rw [s1] at how
  go_loopw [7, 18] (fun d iv wr => ∃ k : Nat, iv = .int .i64 k ∧ k ≤ m ∧ wr.ownsRow (W.heap.size + 1) 5 1 d (k * b) (bcs (encs b f k)) ∧ Hid (d ≠ .slice none 0 0) ∧ Tx 29 wr W.heap.size 0 none 0 0 ⟨#[]⟩ ∧ Below W.heap.size W wr) (fun _ iv _ => m - (intOf iv).toNat)
  case atStart => exact ⟨0, rfl, by omega, by simpa [bcs, encs] using how, Lib.hid (by intro e; injection e with e; cases e), hbx, hb0⟩
  case round =>
    obtain ⟨k, rfl, hk, ho, HV, hB, hb⟩ := hrel
    clear how hbx hb0 s1
    by_cases hlt : k < m
    · have e2 : (k : Int) < (m : Int) := by omega
      obtain ⟨bb, off, rfl, hc⟩ := HF.out (by omega)
      have hck := (hb.cell (p := ⟨bb, off + k, none⟩) (World.block_lt_of_cell? W _ (hc k hlt))).trans (hc k hlt)
      have KL := Lib.hid (laid_is HB.out (HI.out k hlt) wr ho (by have : k * b ≤ m * b := Nat.mul_le_mul_right _ hk; rw [HQ.out] at this; omega) (by have := hB.lt; omega))
      have HE : Hid (encs b f (k + 1) = encs b f k ++ enc b (f k)) := Lib.hid rfl
      clear hc
      generalize f k = x at hck KL HE
      go_wp2_with fail
      refine KL.out.mono ?_
      rintro e w2 ⟨v', rfl, ho', hv', hb2⟩
      have hB' := hB.below hb2 (by omega)
      have hb' := hb.trans (hb2.mono (by omega))
      have HV' := Lib.hid (hv' HV.out)
      rw [← bcs_append, ← HE.out, show k * b + b = (k + 1) * b by rw [Nat.add_mul, Nat.one_mul]] at ho'
      clear ho hB hb hb2 hv' HV KL
      go_wp2_with fail
      go_roundw
      case rel => exact ⟨k + 1, by go_num, by omega, ho', HV', hB', hb'⟩
      case measure => simp [intOf]; omega
    · have e2 : ¬ (k : Int) < (m : Int) := by omega
      obtain rfl : k = m := by omega
      have HOC := Lib.hid (fun w' (hb : Below wr.heap.size wr w') => own_conv (own_below ho hb) HV.out)
      clear HF HI HB K hmk
      have hc0 := HOC.out wr (Below.refl _ _)
      have hc1 := HOC.out wr.drew (Below.refl _ _).drew
      have HBX := Lib.hid hB
      clear hB
      go_wp2_with fail
      go_region_with (go_at_call 41; refine (KC.out _ (by first | exact hb | exact hb.drew)).mono ?_; rintro e w9 ⟨a', n', c', rfl, hs9, hn9, hb9⟩; have hr9 : Below wr.heap.size wr w9 := (by first | exact hb9 | exact (Below.refl _ _).drew.trans hb9); have hc9 := HOC.out w9 hr9; have hB9 := HBX.out.on hr9; have y0 := hB9.c0; have y1 := hB9.c1; have y2 := hB9.c2; have f0 := hB9.f 0; have f1 := hB9.f 1; have f2 := hB9.f 2)
      all_goals
        have hsz : W.heap.size < wr.heap.size := HBX.out.lt
        have hS := ((hs9.set (p := ⟨W.heap.size, 0, none⟩) hsz (.int .i64 w)).set (p := ⟨W.heap.size, 1, none⟩) hsz (.slice a' n' c')).set (p := ⟨W.heap.size, 2, none⟩) hsz (.string ⟨(encs b f k).toArray⟩)
        have hB4 := hB9.set w a' n' c' ⟨(encs b f k).toArray⟩
        go_wp2_with fail
        have r0 := hB4.c0
        have r1 := hB4.c1
        have r2 := hB4.c2
        have hb7 := below_made3 (hb.trans (hr9.mono hb.size)) (g := W.heap.size) (Nat.le_refl _) (.int .i64 w) (.slice a' n' c') (.string ⟨(encs b f k).toArray⟩)
        exact bodyPost_ret (v := .agg #[.int .i64 w, .slice a' n' c', .string ⟨(encs b f k).toArray⟩]) (by simp [results, Tryd.results33, go_sem, r0, r1, r2]) rfl ⟨_, _, _, rfl, hS.base (Nat.le_of_lt hsz), hn9, hb7⟩
end Go.Proofs.YtdehcdnbalbdbaaDoor

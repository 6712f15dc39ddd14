/-
  typed's bytes: bytesOf, isWidth, read, laid, by their contracts.
-/
import Derived.Test.YtdehcdnbalbdbaaDoorTb
import Derived.Test.YtdehcdnbalbdbaaDoorVj
namespace Go.Proofs.YtdehcdnbalbdbaaDoor
open Go.RowKit

set_option maxRecDepth 10000 in
theorem bytesOf_is {w : Int} {b : Nat} (h : Bw w b) (W : World) : Calls Tryd.prog 47 #[.int .i64 w] W fun e W' => e = .returned (.int .i64 b) ∧ W = W' := by
  obtain ⟨h1, h2, h3, h4⟩ := h.le
  have h5 : (8 * (b : Int)) / 8 = b := by omega
  subst h3
  clear h h4
  go_enter Tryd.func47, Tryd.ntmps47
  go_wp2_with fail
  go_ret
  exact ⟨rfl, rfl⟩
theorem isW_fit (w : Int) : isW w = (decide (w ≠ 128) && decide (Fit 0 w)) := by
  unfold isW
  rw [Bool.eq_iff_iff, Bool.and_eq_true, decide_eq_true_eq, decide_eq_true_eq, decide_eq_true_eq]
  unfold Fit
  omega
set_option maxRecDepth 10000 in
theorem isWidth_is (w : Int) (W : World) (ht : WTab W) : Calls Tryd.prog 31 #[.int .i64 w] W fun e W' => e = .returned (.bool (isW w)) ∧ W = W' := by
  have K := Lib.hid (fits_any 0 w (by decide) (by decide))
  have HT := Lib.hid ht
  clear ht
  have HI := Lib.hid (isW_fit w)
  generalize isW w = v at HI ⊢
  by_cases h : w = 128
  · subst h
    have hv : v = false := by rw [HI.out]; rfl
    subst hv
    go_enter Tryd.func31, Tryd.ntmps31
    go_wp2_with fail
    go_ret
    exact ⟨rfl, rfl⟩
  · have hv : v = decide (Fit 0 w) := by rw [HI.out, decide_eq_true h, Bool.true_and]
    rw [← hv] at K
    have hne : (w != 128) = true := bne_iff_ne.2 h
    clear hv HI
    go_enter Tryd.func31, Tryd.ntmps31
    go_wp2_with fail
    refine (K.out _ HT.out).mono ?_
    rintro x w1 ⟨rfl, rfl⟩
    go_wp2_with fail
    go_ret
    exact ⟨rfl, rfl⟩

/-! ### read -/
def ReadInv (l : List UInt8) (k : Nat) (x : Int) : Prop := x = decS (sg l) (l.take (k + 1))
theorem ReadInv.start {l : List UInt8} (h : 0 < l.length) : ReadInv l 0 (IntKind.i8.wrap (l[0].toNat : Int)) := by
  cases l with
  | nil => simp at h
  | cons c r =>
    have hc := u8_lt c
    show _ = decS (sg (c :: r)) [c]
    show IntKind.i8.wrap (c.toNat : Int) = sg (c :: r) * 256 + (c.toNat : Int)
    have hw : IntKind.i8.wrap (c.toNat : Int) = ((c.toNat : Int) + 128) % 256 - 128 := by
      simp [IntKind.wrap, IntKind.bits, IntKind.signed]; omega
    rw [hw]
    unfold sg sgB
    by_cases hh : 128 ≤ c.toNat
    · rw [show ((c :: r).headD 0).toNat = c.toNat from rfl, decide_eq_true hh, if_pos rfl]; omega
    · rw [show ((c :: r).headD 0).toNat = c.toNat from rfl, decide_eq_false hh, if_neg (by decide)]; omega
theorem ReadInv.step {l : List UInt8} {k : Nat} {x : Int} (h : ReadInv l k x) (hk : k + 1 < l.length) : ReadInv l (k + 1) (x * 256 + (l[k + 1].toNat : Int)) := by
  show _ = decS (sg l) (l.take (k + 1 + 1))
  rw [List.take_add_one, List.getElem?_eq_getElem hk]
  show _ = decS (sg l) (l.take (k + 1) ++ [l[k + 1]])
  rw [decS_snoc, ← h]
theorem ReadInv.bound {l : List UInt8} {k : Nat} {x : Int} (h : ReadInv l k x) (hk : k + 1 < l.length) (hl : l.length ≤ 8) : -36028797018963968 ≤ x ∧ x < 36028797018963968 := by
  rw [h]; exact dec_some (by omega) (by omega) (by omega)
set_option maxRecDepth 10000 in
set_option maxHeartbeats 800000 in
theorem read_is (s : ByteArray) (h0 : 0 < s.size) (h8 : s.size ≤ 8) (W : World) : Calls Tryd.prog 60 #[.string s] W fun e W' => e = .returned (.int .i64 (dec s.data.toList)) ∧ W = W' := by
  have hst := ReadInv.start (l := s.data.toList) (by simpa using h0)
  have hst' : ReadInv s.data.toList 0 (IntKind.i8.wrap (s[0].toNat : Int)) := hst
  have HST := Lib.hid hst'
  have hls : s.data.toList.length = s.size := by simp
  have HL := Lib.hid hls
  clear hst hst' hls
  have HX := Lib.hid (show -128 ≤ IntKind.i8.wrap (s[0].toNat : Int) ∧ IntKind.i8.wrap (s[0].toNat : Int) ≤ 127 by
    simp [IntKind.wrap, IntKind.bits, IntKind.signed]; omega)
  generalize hx0 : IntKind.i8.wrap (s[0].toNat : Int) = x0 at HST HX
  go_enter Tryd.func60, Tryd.ntmps60
  go_wp2_with fail
  go_loop [3, 12] (fun xv iv => ∃ (k : Nat) (x : Int), iv = .int .i64 k ∧ xv = .int .i64 x ∧ k + 1 ≤ s.size ∧ Hid (ReadInv s.data.toList k x)) (fun _ iv => s.size - (intOf iv).toNat)
  case atStart => exact ⟨0, x0, rfl, congrArg (Value.int .i64) (w64 (by have := HX.out; omega) (by have := HX.out; omega)), by omega, HST⟩
  case round =>
    obtain ⟨k, x, rfl, rfl, hk, HI⟩ := hrel
    clear HST hx0
    by_cases hlt : k + 1 < s.size
    · have e2 : (k : Int) < (s.size : Int) - 1 := by omega
      obtain ⟨hb0, hb1⟩ := HI.out.bound (by rw [HL.out]; exact hlt) (by rw [HL.out]; exact h8)
      have HN := Lib.hid (HI.out.step (by rw [HL.out]; exact hlt))
      have hor := or_256 hb0 hb1 (show (s[k + 1]).toNat < 256 from by have := (s[k + 1]).toNat_lt; omega)
      have hc := u8_lt s[k + 1]
      have hwc := w64 (x := ((s[k + 1]).toNat : Int)) (by omega) (by omega)
      go_wp2_with fail
      refine ⟨⟨k + 1, x * 256 + ((s[k + 1]).toNat : Int), by go_num, rfl, by omega, HN⟩, by simp [intOf]; omega⟩
    · have e2 : ¬ (k : Int) < (s.size : Int) - 1 := by omega
      obtain rfl : k = s.size - 1 := by omega
      have hx : x = dec s.data.toList := by
        have := HI.out
        unfold ReadInv at this
        rw [this, List.take_of_length_le (by rw [HL.out]; omega)]; rfl
      have HE := Lib.hid hx
      clear hx HI
      go_wp2_with fail
      go_ret
      exact ⟨by rw [← HE.out]; rfl, rfl⟩

/-! ### laid -/
def bcs (l : List UInt8) : List Value := l.map fun b => Value.int .u8 b.toNat
theorem bcs_len (l : List UInt8) : (bcs l).length = l.length := by simp [bcs]
theorem bcs_append (l k : List UInt8) : bcs (l ++ k) = bcs l ++ bcs k := by simp [bcs]
theorem infoU8 : (Tryd.prog.info? 5).map (fun i => (i.zero, i.size, i.bytes)) = some (some (.int .u8 0), 1, 1) := by kernel_rfl
theorem cell_new_t (w : World) (v : Value) (t : TypeId) : (w.alloc (.cells #[v] t)).cell? ⟨w.heap.size, 0, none⟩ = some v := cell_of_one (heap_alloc_new w _)
def LaidEnd (v : Value) (B n b : Nat) (xs : List Value) (x : Int) (W : World) (e : Ending) (W' : World) : Prop :=
  ∃ v', e = .returned v' ∧ W'.ownsRow B 5 1 v' (n + b) (xs ++ bcs (enc b x)) ∧ (v ≠ .slice none 0 0 → v' ≠ .slice none 0 0) ∧ Below B W W'
theorem laid_step {b k : Nat} {x : Int} (hk : k < b) {xs : List Value} : xs ++ (bcs ((enc b x).take k) ++ [.int .u8 (x / 2 ^ (8 * (b - 1 - k)) % 256)]) = xs ++ bcs ((enc b x).take (k + 1)) := by
  rw [enc_take hk, bcs_append]
  have h : (x / 2 ^ (8 * (b - 1 - k)) % 256) = ((dg (x / 256 ^ (b - 1 - k))).toNat : Int) := by
    rw [dg_nat, Int.pow_mul]; rfl
  rw [h]; rfl
set_option maxRecDepth 10000 in
set_option maxHeartbeats 1600000 in
theorem laid_is {w x : Int} {b n B : Nat} {v : Value} {xs : List Value} (h : Bw w b) (hx : I64 x) (W : World) (hown : W.ownsRow B 5 1 v n xs) (hn : n ≤ 1000000) (hB : B ≤ W.heap.size) :
    Calls Tryd.prog 55 #[v, .int .i64 x, .int .i64 w] W (LaidEnd v B n b xs x W) := by
  have K := Lib.hid (bytesOf_is h)
  have hx0 := hx.1
  have hx1 := hx.2
  have hb8 : b ≤ 8 := h.le.2.1
  clear h hx
  go_enter Tryd.func55, Tryd.ntmps55
  go_wp2_with fail
  refine (K.out _).mono ?_
  rintro e w1 ⟨rfl, rfl⟩
  go_wp2_with fail
  go_loopw [0, 13] (fun d iv wr => ∃ k : Nat, iv = .int .i64 k ∧ k ≤ b ∧ wr.ownsRow B 5 1 d (n + k) (xs ++ bcs ((enc b x).take k)) ∧ Hid (v ≠ .slice none 0 0 → d ≠ .slice none 0 0) ∧ Below B W wr) (fun _ iv _ => b - (intOf iv).toNat)
  case atStart => exact ⟨0, rfl, by omega, by simpa [bcs] using hown, Lib.hid id, Below.refl _ _⟩
  case round =>
    obtain ⟨k, rfl, hk, ho, HV, hb⟩ := hrel
    clear hown
    by_cases hlt : k < b
    · have e2 : (k : Int) < (b : Int) := by omega
      have HS := Lib.hid (laid_step (x := x) (xs := xs) hlt)
      obtain ⟨i0, hi, hz0, hz1', hz2'⟩ := info_parts infoU8
      generalize hz : x / 2 ^ (8 * (b - 1 - k)) % 256 = z at HS
      go_wp2_with (at_builtin; refine wpList_append_own _ rfl (.tmp 20) (.tmp 26) 83 rfl B 5 i0 (.int .u8 0) 1 1 Tryd.underlying83 hi hz0 hz1' hz2' rfl (by decide) _ _ _ rfl (ho.alloc _) ⟨wr.heap.size, 0, none⟩ 1 1 [.int .u8 z] rfl rfl ?c1 ?c2 ?c3 ?c4 ?c5 ?_)
      case c1 => intro j u hj; rcases j with _ | j
                 · simp at hj; subst hj; rw [← hz]; exact cell_new_t _ _ _
                 · simp at hj
      case c2 => simp [Value.oneCell']
      case c3 => unfold maxLen; omega
      case c4 => omega
      case c5 => have := hb.size; simp; omega
      intro v' w1 hown' hgrow hnn
      have HV' : Hid (v ≠ .slice none 0 0 → v' ≠ .slice none 0 0) := Lib.hid fun _ e => hnn e
      have hb' : Below B W w1 := (hb.alloc (by have := hb.size; omega) _).grown hgrow (by have := hb.size; simp; omega) (fun k hk => (ho.lt k hk).1)
      rw [HS.out] at hown'
      clear hgrow ho hb hz hnn HV
      go_wp2_with fail
      go_roundw
      case rel => exact ⟨k + 1, by go_num, by omega, hown', HV', hb'⟩
      case measure => simp [intOf]; omega
    · have e2 : ¬ (k : Int) < (b : Int) := by omega
      obtain rfl : k = b := by omega
      have HE := Lib.hid (show (enc k x).take k = enc k x from List.take_of_length_le (by rw [enc_len]; exact Nat.le_refl _))
      go_wp2_with fail
      go_ret
      rw [HE.out] at ho
      exact ⟨_, rfl, ho, HV.out, hb⟩
end Go.Proofs.YtdehcdnbalbdbaaDoor

/-
  Numbers as bytes, the highest one first, there and back; rows of numbers as bytes. Plain facts.
-/
import Derived.Test.YtdehcdnbalbdbaaDoorVp
namespace Go.Proofs.YtdehcdnbalbdbaaDoor
open Go.RowKit

/-- A number's lowest byte. -/
def dg (x : Int) : UInt8 := UInt8.ofNat (x % 256).toNat
theorem dg_nat (x : Int) : ((dg x).toNat : Int) = x % 256 := by
  unfold dg; rw [UInt8.toNat_ofNat']; omega
theorem u8_eq {a b : UInt8} (h : (a.toNat : Int) = b.toNat) : a = b := UInt8.toNat_inj.1 (by omega)
theorem u8_lt (c : UInt8) : (c.toNat : Int) < 256 := by have := c.toNat_lt; omega
/-- A number as so many bytes. -/
def enc : Nat → Int → List UInt8
  | 0, _ => []
  | b + 1, x => enc b (x / 256) ++ [dg x]
theorem enc_len : ∀ (b : Nat) (x : Int), (enc b x).length = b
  | 0, _ => rfl
  | b + 1, x => by simp [enc, enc_len b]
theorem enc_get : ∀ (b : Nat) (x : Int) (i : Nat), i < b → (enc b x)[i]? = some (dg (x / 256 ^ (b - 1 - i)))
  | 0, _, _, h => by omega
  | b + 1, x, i, h => by
    rcases Nat.lt_or_ge i b with h1 | h1
    · rw [enc, List.getElem?_append_left (by rw [enc_len]; exact h1), enc_get b (x / 256) i h1, Int.ediv_ediv_of_nonneg (by decide), show (256 : Int) * 256 ^ (b - 1 - i) = 256 ^ (b + 1 - 1 - i) by rw [show b + 1 - 1 - i = (b - 1 - i) + 1 by omega, Int.pow_succ]; exact Int.mul_comm _ _]
    · obtain rfl : i = b := by omega
      rw [enc, List.getElem?_append_right (by rw [enc_len]; exact Nat.le_refl _), enc_len, show i + 1 - 1 - i = 0 by omega]
      simp
theorem enc_take {b : Nat} {x : Int} {i : Nat} (h : i < b) : (enc b x).take (i + 1) = (enc b x).take i ++ [dg (x / 256 ^ (b - 1 - i))] := by
  rw [List.take_add_one, enc_get b x i h]; rfl
/-- Bytes behind a number. -/
def decS (a : Int) (l : List UInt8) : Int := l.foldl (fun a c => a * 256 + c.toNat) a
theorem decS_snoc (a : Int) (l : List UInt8) (c : UInt8) : decS a (l ++ [c]) = decS a l * 256 + c.toNat := by simp [decS]
theorem decS_cons (a : Int) (l : List UInt8) (c : UInt8) : decS a (c :: l) = decS (a * 256 + c.toNat) l := rfl
theorem mod_join (x m : Int) (hm : 0 < m) : x / 256 % m * 256 + x % 256 = x % (m * 256) := by
  have h1 := Int.emod_nonneg (x / 256) (show m ≠ 0 by omega)
  have h2 := Int.emod_lt_of_pos (x / 256) hm
  have h3 := Int.mul_ediv_add_emod (x / 256) m
  have h4 : x = (x / 256 % m * 256 + x % 256) + (m * 256) * (x / 256 / m) := by
    have : m * 256 * (x / 256 / m) = 256 * (m * (x / 256 / m)) := by rw [Int.mul_comm m 256, Int.mul_assoc]
    rw [this]
    generalize m * (x / 256 / m) = z at *
    omega
  conv => rhs; rw [h4]
  rw [Int.add_mul_emod_self_left]
  exact (Int.emod_eq_of_lt (by omega) (by omega)).symm
theorem decS_enc (a : Int) : ∀ (b : Nat) (x : Int), decS a (enc b x) = a * 256 ^ b + x % 256 ^ b
  | 0, x => by simp [enc, decS]
  | b + 1, x => by
    rw [enc, decS_snoc, decS_enc a b, dg_nat, Int.pow_succ, Int.add_mul, Int.mul_assoc, Int.add_assoc]
    congr 1
    have hm : (0 : Int) < 256 ^ b := Int.pow_pos (by decide)
    generalize (256 : Int) ^ b = m at hm
    exact mod_join x m hm
theorem decS_ex (a : Int) (l : List UInt8) : ∃ v : Int, decS a l = a * 256 ^ l.length + v ∧ 0 ≤ v ∧ v < 256 ^ l.length := by
  induction l using snocInd with
  | nil => exact ⟨0, by simp [decS], by decide, by decide⟩
  | snoc l c ih =>
    obtain ⟨v, e, h0, h1⟩ := ih
    have hc := u8_lt c
    rw [decS_snoc, e, List.length_append, List.length_cons, List.length_nil, Nat.zero_add, Int.pow_succ]
    generalize (256 : Int) ^ l.length = m at *
    refine ⟨v * 256 + c.toNat, ?_, by omega, by omega⟩
    rw [Int.add_mul, Int.mul_assoc, Int.add_assoc]
theorem enc_decS (a : Int) (l : List UInt8) : enc l.length (decS a l) = l := by
  induction l using snocInd with
  | nil => rfl
  | snoc l c ih =>
    have hc := u8_lt c
    rw [decS_snoc, List.length_append, List.length_cons, List.length_nil, Nat.zero_add, enc, show (decS a l * 256 + (c.toNat : Int)) / 256 = decS a l by omega, ih]
    congr 2
    exact u8_eq (by rw [dg_nat]; omega)
/-- Below 0, by the first byte. -/
def sgB (l : List UInt8) : Bool := decide (128 ≤ (l.headD 0).toNat)
def sg (l : List UInt8) : Int := if sgB l then -1 else 0
def dec (l : List UInt8) : Int := decS (sg l) l
/-- A width, and how many bytes that is. -/
def Bw (w : Int) (b : Nat) : Prop := (w = 8 ∧ b = 1) ∨ (w = 16 ∧ b = 2) ∨ (w = 32 ∧ b = 4) ∨ (w = 64 ∧ b = 8)
def isW (w : Int) : Bool := decide (w = 8 ∨ w = 16 ∨ w = 32 ∨ w = 64)
theorem isW_yes {w : Int} : isW w = true ↔ ∃ b, Bw w b := by
  unfold isW Bw
  rw [decide_eq_true_eq]
  constructor
  · rintro (h | h | h | h)
    · exact ⟨1, by omega⟩
    · exact ⟨2, by omega⟩
    · exact ⟨4, by omega⟩
    · exact ⟨8, by omega⟩
  · rintro ⟨b, h⟩; omega
theorem Bw.isW {w : Int} {b : Nat} (h : Bw w b) : isW w = true := isW_yes.2 ⟨b, h⟩
theorem Bw.le {w : Int} {b : Nat} (h : Bw w b) : 1 ≤ b ∧ b ≤ 8 ∧ w = 8 * (b : Int) ∧ w / 8 = b := by unfold Bw at h; omega
theorem Bw.one {w : Int} {b c : Nat} (h : Bw w b) (k : Bw w c) : b = c := by unfold Bw at h k; omega
theorem head_enc {b : Nat} {x : Int} (h : 0 < b) : ((enc b x).headD 0).toNat = (dg (x / 256 ^ (b - 1))).toNat := by
  have := enc_get b x 0 h
  rw [List.headD_eq_head?_getD, List.head?_eq_getElem?, this]; rfl
theorem Fit.i64 {x w : Int} {b : Nat} (h : Fit x w) (k : Bw w b) : I64 x := by unfold Fit at h; unfold Bw at k; unfold I64; omega
theorem dec_enc {b : Nat} {x w : Int} (h : Bw w b) (hx : Fit x w) : dec (enc b x) = x := by
  unfold dec sg sgB
  rw [decS_enc, head_enc (by have := h.le; omega)]
  have hd := dg_nat (x / 256 ^ (b - 1))
  generalize (dg (x / 256 ^ (b - 1))).toNat = d at hd ⊢
  unfold Fit at hx
  rcases h with ⟨rfl, rfl⟩ | ⟨rfl, rfl⟩ | ⟨rfl, rfl⟩ | ⟨rfl, rfl⟩
  all_goals
    simp only [Nat.reduceSub, Int.reducePow] at hd ⊢
    by_cases hh : 128 ≤ d
    · rw [decide_eq_true hh, if_pos rfl]; omega
    · rw [decide_eq_false hh, if_neg (by decide)]; omega
theorem enc_dec {b : Nat} {l : List UInt8} (h : l.length = b) : enc b (dec l) = l := by rw [← h]; exact enc_decS _ l
theorem sg_first (c : UInt8) (r : List UInt8) : -128 ≤ sg (c :: r) * 256 + (c.toNat : Int) ∧ sg (c :: r) * 256 + (c.toNat : Int) ≤ 127 := by
  have hc := u8_lt c
  unfold sg sgB
  by_cases hh : 128 ≤ ((c :: r).headD 0).toNat
  · rw [decide_eq_true hh, if_pos rfl]
    have : 128 ≤ c.toNat := hh
    omega
  · rw [decide_eq_false hh, if_neg (by decide)]
    have : ¬ 128 ≤ c.toNat := hh
    omega
theorem dec_fit {b : Nat} {l : List UInt8} {w : Int} (h : Bw w b) (hl : l.length = b) : Fit (dec l) w := by
  cases l with
  | nil => have := h.le; simp at hl; omega
  | cons c r =>
    have h1 := sg_first c r
    unfold dec
    rw [decS_cons]
    obtain ⟨v, e, h2, h3⟩ := decS_ex (sg (c :: r) * 256 + (c.toNat : Int)) r
    rw [e]
    generalize sg (c :: r) * 256 + (c.toNat : Int) = s at h1 ⊢
    have hr : r.length = b - 1 := by simp at hl; omega
    rw [hr] at h3 ⊢
    rcases h with ⟨rfl, rfl⟩ | ⟨rfl, rfl⟩ | ⟨rfl, rfl⟩ | ⟨rfl, rfl⟩
    all_goals simp only [Nat.reduceSub, Int.reducePow] at h3 ⊢
    · exact .inl ⟨rfl, by omega, by omega⟩
    · exact .inr (.inl ⟨rfl, by omega, by omega⟩)
    · exact .inr (.inr (.inl ⟨rfl, by omega, by omega⟩))
    · exact .inr (.inr (.inr (.inl ⟨rfl, by omega, by omega⟩)))
/-- As long as bytes are to come, what is read is not too far from 0. -/
theorem dec_some {l : List UInt8} {k : Nat} (h0 : 0 < k) (hk : k ≤ 7) (hl : k ≤ l.length) : -36028797018963968 ≤ decS (sg l) (l.take k) ∧ decS (sg l) (l.take k) < 36028797018963968 := by
  cases l with
  | nil => simp at hl; omega
  | cons c r =>
    have h1 := sg_first c r
    obtain ⟨j, rfl⟩ : ∃ j, k = j + 1 := ⟨k - 1, by omega⟩
    rw [List.take_succ_cons, decS_cons]
    obtain ⟨v, e, h2, h3⟩ := decS_ex (sg (c :: r) * 256 + (c.toNat : Int)) (r.take j)
    rw [e]
    generalize sg (c :: r) * 256 + (c.toNat : Int) = s at h1 ⊢
    rw [show (r.take j).length = j by rw [List.length_take]; simp at hl; omega] at h3 ⊢
    clear e hl
    obtain rfl | rfl | rfl | rfl | rfl | rfl | rfl : j = 0 ∨ j = 1 ∨ j = 2 ∨ j = 3 ∨ j = 4 ∨ j = 5 ∨ j = 6 := by omega
    all_goals
      simp only [Int.reducePow] at h3 ⊢
      omega
/-- 'x<<8 | c'. -/
theorem or_256 {x : Int} {c : Nat} (h0 : -36028797018963968 ≤ x) (h1 : x < 36028797018963968) (hc : c < 256) : bits .or .i64 (x * 256) (c : Int) = x * 256 + c := by
  show IntKind.i64.wrap ((BitVec.ofInt 64 (x * 256) ||| BitVec.ofInt 64 (c : Int)).toNat : Int) = _
  obtain ⟨q, hq⟩ : ∃ q : Nat, (q : Int) = x % 72057594037927936 := ⟨(x % 72057594037927936).toNat, by omega⟩
  have e1 : (BitVec.ofInt 64 (x * 256)).toNat = 2 ^ 8 * q := by
    rw [BitVec.toNat_ofInt]
    have : (x * 256) % ((2 ^ 64 : Nat) : Int) = 256 * (q : Int) := by
      rw [show ((2 ^ 64 : Nat) : Int) = 18446744073709551616 by decide]; omega
    rw [this]; omega
  have e2 : (BitVec.ofInt 64 (c : Int)).toNat = c := by
    rw [BitVec.ofInt_natCast, BitVec.toNat_ofNat]; exact Nat.mod_eq_of_lt (by omega)
  rw [BitVec.toNat_or, e1, e2, ← Nat.two_pow_add_eq_or_of_lt (by omega), IntKind.wrap_i64]
  have : ((2 ^ 8 * q + c : Nat) : Int) = 256 * (q : Int) + c := by omega
  rw [this]; omega

/-! ### Rows of numbers -/
/-- An element's bytes. -/
def cut (s : ByteArray) (b i : Nat) : List UInt8 := (s.data.toList.drop (i * b)).take b
def el (s : ByteArray) (b i : Nat) : Int := dec (cut s b i)
theorem cut_len {s : ByteArray} {b i m : Nat} (hs : s.size = m * b) (hi : i < m) : (cut s b i).length = b := by
  unfold cut
  have h1 : (i + 1) * b ≤ m * b := Nat.mul_le_mul_right _ hi
  rw [Nat.add_mul, Nat.one_mul] at h1
  rw [List.length_take, List.length_drop, show s.data.toList.length = s.size from rfl, hs]; omega
theorem el_fit {s : ByteArray} {b i m : Nat} {w : Int} (h : Bw w b) (hs : s.size = m * b) (hi : i < m) : Fit (el s b i) w := dec_fit h (cut_len hs hi)
theorem enc_el {s : ByteArray} {b i m : Nat} (hs : s.size = m * b) (hi : i < m) : enc b (el s b i) = cut s b i := enc_dec (cut_len hs hi)
/-- The first k numbers' bytes. -/
def encs (b : Nat) (f : Nat → Int) : Nat → List UInt8
  | 0 => []
  | k + 1 => encs b f k ++ enc b (f k)
theorem encs_len (b : Nat) (f : Nat → Int) : ∀ k, (encs b f k).length = k * b
  | 0 => by simp [encs]
  | k + 1 => by rw [encs, List.length_append, encs_len b f k, enc_len, Nat.add_mul, Nat.one_mul]
theorem encs_congr {b : Nat} {f g : Nat → Int} : ∀ {k : Nat}, (∀ i, i < k → f i = g i) → encs b f k = encs b g k
  | 0, _ => rfl
  | k + 1, h => by rw [encs, encs, encs_congr (k := k) fun i hi => h i (by omega), h k (by omega)]
theorem encs_more (b : Nat) (f : Nat → Int) (k : Nat) : ∀ j, ∃ t, encs b f (k + j) = encs b f k ++ t
  | 0 => ⟨[], by simp⟩
  | j + 1 => by
    obtain ⟨t, e⟩ := encs_more b f k j
    exact ⟨t ++ enc b (f (k + j)), by rw [show k + (j + 1) = (k + j) + 1 by omega, encs, e, List.append_assoc]⟩
/-- Numbers' bytes, as a text. -/
def Eb (b : Nat) (f : Nat → Int) (k : Nat) : ByteArray := ⟨(encs b f k).toArray⟩
theorem Eb_list (b : Nat) (f : Nat → Int) (k : Nat) : (Eb b f k).data.toList = encs b f k := rfl
theorem Eb_size (b : Nat) (f : Nat → Int) (k : Nat) : (Eb b f k).size = k * b := by
  show (encs b f k).toArray.size = _
  rw [List.size_toArray, encs_len]
theorem cut_encs {b : Nat} {f : Nat → Int} {i k : Nat} (h : i < k) : cut (Eb b f k) b i = enc b (f i) := by
  unfold cut
  rw [Eb_list]
  obtain ⟨t, e⟩ := encs_more b f (i + 1) (k - (i + 1))
  rw [show i + 1 + (k - (i + 1)) = k by omega, encs, List.append_assoc] at e
  rw [e, List.drop_append_of_le_length (by rw [encs_len]; exact Nat.le_refl _), List.drop_of_length_le (by rw [encs_len]; exact Nat.le_refl _), List.nil_append, List.take_append_of_le_length (by rw [enc_len]; exact Nat.le_refl _), List.take_of_length_le (by rw [enc_len]; exact Nat.le_refl _)]
theorem el_encs {b : Nat} {f : Nat → Int} {i k : Nat} {w : Int} (hb : Bw w b) (h : i < k) (hf : Fit (f i) w) : el (Eb b f k) b i = f i := by
  unfold el
  rw [cut_encs h, dec_enc hb hf]
theorem encs_take {s : ByteArray} {b m : Nat} (hs : s.size = m * b) : ∀ k, k ≤ m → encs b (el s b) k = s.data.toList.take (k * b)
  | 0, _ => by simp [encs]
  | k + 1, h => by
    rw [encs, encs_take hs k (by omega), enc_el hs (by omega), Nat.add_mul, Nat.one_mul, List.take_add]; rfl
theorem Eb_el {s : ByteArray} {b m : Nat} (hs : s.size = m * b) : Eb b (el s b) m = s := by
  apply ByteArray.ext
  show (encs b (el s b) m).toArray = s.data
  rw [encs_take hs m (Nat.le_refl _), List.take_of_length_le (by rw [show s.data.toList.length = s.size from rfl, hs]; exact Nat.le_refl _)]
theorem Eb_congr {b : Nat} {f g : Nat → Int} {k : Nat} (h : ∀ i, i < k → f i = g i) : Eb b f k = Eb b g k := by unfold Eb; rw [encs_congr h]
end Go.Proofs.YtdehcdnbalbdbaaDoor

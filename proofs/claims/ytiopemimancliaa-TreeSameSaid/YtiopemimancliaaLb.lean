/-
  lex's small functions: which byte is one of some, how far a part goes, a part as a number, a number as a part.
-/
import Derived.Test.YtiopemimancliaaLa
import Derived.Test.YtiopemimancliaaBm
import Derived.Test.YtiopemimancliaaShelf
import Derived.Lib.Bytealg
namespace Go.Proofs.Ytiopemimancliaa
open Go.RowKit

theorem indexByte_nn (l : List UInt8) (c : UInt8) : (0 ≤ Lib.indexByte l c) ↔ l.contains c = true := by
  induction l with
  | nil => simp [Lib.indexByte]
  | cons b l ih =>
    have hg := Lib.indexByte_ge l c
    have hc : (c == b) = (b == c) := Bool.eq_iff_iff.2 (by rw [beq_iff_eq, beq_iff_eq]; exact eq_comm)
    unfold Lib.indexByte
    rw [List.contains_cons, hc]
    cases h : (b == c) with
    | true => simp
    | false =>
      rw [Bool.false_or, ← ih]
      by_cases h1 : Lib.indexByte l c = -1
      · rw [h1]; simp
      · rw [beq_false_of_ne h1]; simp; omega
theorem u8_back (c : UInt8) : ((c.toNat : Int).toNat).toUInt8 = c := by simp
def BoolEnd (v : Bool) (w : World) (e : Ending) (w' : World) : Prop := e = .returned (.bool v) ∧ w = w'
theorem isOf_is (m : ByteArray) (c : UInt8) (v : Bool) (hv : m.data.toList.contains c = v) (w : World) : Calls Try.prog 46 #[.string m, .int .u8 (c.toNat : Int)] w (BoolEnd v w) := by
  have K := Try.strings_IndexByte m (c.toNat : Int) w
  rw [u8_back] at K
  obtain ⟨z, hz⟩ : ∃ z, z = Lib.indexByte m.data.toList c := ⟨_, rfl⟩
  have hn := indexByte_nn m.data.toList c
  rw [hv, ← hz] at hn
  rw [← hz] at K
  have HK := Lib.hid K
  clear K hz hv
  cases v with
  | true =>
    have h0 : 0 ≤ z := hn.2 rfl
    clear hn
    go_enter Try.func46, Try.ntmps46
    go_wp2_with fail
    refine HK.out.mono ?_
    rintro e w1 ⟨rfl, rfl⟩
    go_wp2_with fail
    go_ret
    exact ⟨rfl, rfl⟩
  | false =>
    have h0 : z < 0 := by
      by_cases h : 0 ≤ z
      · exact absurd (hn.1 h) (by decide)
      · omega
    clear hn
    go_enter Try.func46, Try.ntmps46
    go_wp2_with fail
    refine HK.out.mono ?_
    rintro e w1 ⟨rfl, rfl⟩
    go_wp2_with fail
    go_ret
    exact ⟨congrArg (fun b => Ending.returned (.bool b)) (decide_eq_false (by omega)), rfl⟩
/-- What ends a part: a byte that isn't one of those in a box. -/
theorem ends_is (B : Nat) (m : ByteArray) (c : UInt8) (v : Bool) (hv : m.data.toList.contains c = v) (w : World) (hc : w.cell? ⟨B, 0, none⟩ = some (.string m)) :
    Calls Try.prog 48 #[.int .u8 (c.toNat : Int), .pointer (some ⟨B, 0, none⟩)] w (BoolEnd (!v) w) := by
  have K := Lib.hid (isOf_is m c v hv)
  clear hv
  go_enter Try.func48, Try.ntmps48
  go_wp2_with fail
  refine (K.out _).mono ?_
  rintro e w1 ⟨rfl, rfl⟩
  go_wp2_with fail
  go_ret
  exact ⟨rfl, rfl⟩
theorem bytes_ext {a b : ByteArray} (h : a.data.toList = b.data.toList) : a = b := by
  cases a; cases b
  simp only [ByteArray.mk.injEq]
  exact Array.toList_inj.1 h
theorem extract_list (s : ByteArray) (i j : Nat) : (s.extract i j).data.toList = (s.data.toList.drop i).take (j - i) := by
  rw [ByteArray.data_extract, Array.toList_extract, List.extract_eq_take_drop]
def StrEnd (t : ByteArray) (w : World) (e : Ending) (w' : World) : Prop := e = .returned (.string t) ∧ w = w'
theorem get_list {s : ByteArray} {k : Nat} (h : k < s.size) {c : UInt8} (hc : s.data.toList[k]? = some c) : s[k] = c := by
  have h2 : k < s.data.toList.length := by simpa using h
  rw [List.getElem?_eq_getElem h2] at hc
  exact Option.some.inj hc
set_option maxHeartbeats 800000 in
theorem part_is (B k : Nat) (m s : ByteArray) (c : UInt8) (t r : List UInt8) (hm : m.data.toList = moreL k) (hl : s.data.toList = c :: t ++ r) (ht : ∀ x ∈ t, (moreL k).contains x = true) (hs : Stop k r) (hz : s.size ≤ 9223372036854775807)
    (w : World) (hc : w.cell? ⟨B, 0, none⟩ = some (.string m)) :
    Calls Try.prog 47 #[.string s, .func (.func 48) #[] #[.pointer (some ⟨B, 0, none⟩)]] w (StrEnd ⟨(c :: t).toArray⟩ w) := by
  have hsz : s.size = t.length + 1 + r.length := by
    have : s.data.toList.length = s.size := by simp
    rw [← this, hl]; simp; omega
  have HE := Lib.hid (fun (x : UInt8) (v : Bool) (hv : (moreL k).contains x = v) => ends_is B m x v (by rw [hm]; exact hv) w hc)
  have HT : Hid (∀ j, 1 ≤ j → j < t.length + 1 → ∀ (hj : j < s.size), (moreL k).contains s[j] = true) := Lib.hid (by
    intro j h1 h2 hj
    obtain ⟨i, rfl⟩ : ∃ i, j = i + 1 := ⟨j - 1, by omega⟩
    have : s[i + 1] = t[i]'(by omega) := get_list hj (by
      rw [hl, show c :: t ++ r = c :: (t ++ r) from rfl, List.getElem?_cons_succ, List.getElem?_append_left (by omega), List.getElem?_eq_getElem (by omega)])
    rw [this]
    exact ht _ (List.getElem_mem _))
  have HR : Hid (∀ (hj : t.length + 1 < s.size), (moreL k).contains s[t.length + 1] = false) := Lib.hid (by
    intro hj
    cases r with
    | nil => simp at hsz; omega
    | cons d r =>
      have : s[t.length + 1] = d := get_list hj (by
        rw [hl, show c :: t ++ d :: r = c :: (t ++ d :: r) from rfl, List.getElem?_cons_succ, List.getElem?_append_right (by omega)]; simp)
      rw [this]
      exact hs d rfl)
  have HX : Hid (s.extract 0 (t.length + 1) = ⟨(c :: t).toArray⟩) := Lib.hid (bytes_ext (by
    rw [extract_list, List.drop_zero, hl, Nat.sub_zero]
    exact List.take_left (l₁ := c :: t)))
  have hlt : t.length + 1 ≤ s.size := by omega
  clear hm hl ht hs hsz hc
  generalize t.length = n at *
  go_enter Try.func47, Try.ntmps47
  go_wp2_with fail
  go_loop [5] (fun i => ∃ j : Nat, i = .int .i64 j ∧ 1 ≤ j ∧ j ≤ n + 1) (fun i => n + 1 - (intOf i).toNat)
  case atStart => exact ⟨1, rfl, by omega, by omega⟩
  case round =>
    obtain ⟨j, rfl, h1, h2⟩ := hrel
    by_cases h3 : j < n + 1
    · have hj : j < s.size := by omega
      have K := Lib.hid (HE.out _ _ (HT.out j h1 h3 hj))
      have e1 : (j : Int) < (s.size : Int) := by omega
      go_wp2_with fail
      refine K.out.mono ?_
      rintro e w1 ⟨rfl, rfl⟩
      go_wp2_with fail
      go_round
      case rel => exact ⟨j + 1, by go_num, by omega, by omega⟩
      case measure => simp [intOf]; omega
    · obtain rfl : j = n + 1 := by omega
      by_cases h4 : n + 1 < s.size
      · have K := Lib.hid (HE.out _ _ (HR.out h4))
        go_wp2_with fail
        refine K.out.mono ?_
        rintro e w1 ⟨rfl, rfl⟩
        go_wp2_with fail
        go_ret
        exact ⟨by rw [← HX.out]; rfl, rfl⟩
      · have e5 : s.size ≤ n + 1 := by omega
        go_wp2_with fail
        go_ret
        exact ⟨by rw [← HX.out]; rfl, rfl⟩
end Go.Proofs.Ytiopemimancliaa

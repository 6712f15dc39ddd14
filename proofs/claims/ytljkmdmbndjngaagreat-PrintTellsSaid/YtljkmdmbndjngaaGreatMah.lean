import Derived.Test.YtljkmdmbndjngaaGreatMag
import Derived.Laws.AppendOwn
import Derived.WideShapes
/-
  The reference's small functions: has, all, Number, Literal.
-/
namespace Go.Proofs.YtljkmdmbndjngaaGreat
set_option linter.unusedVariables false
set_option linter.unusedSimpArgs false
open Go.RowKit

theorem drop_at (s : ByteArray) (j : Nat) (h : j < s.size) : s.data.toList.drop j = s[j] :: s.data.toList.drop (j + 1) := by
  rw [List.drop_eq_getElem_cons (by simpa using h)]; rfl
theorem drop_end (s : ByteArray) (j : Nat) (h : s.size ≤ j) : s.data.toList.drop j = [] := List.drop_eq_nil_of_le (by simpa using h)
theorem has_is (m : ByteArray) (c : UInt8) (v : Bool) (hv : m.data.toList.contains c = v) (hz : m.size ≤ 9223372036854775807) (w : World) : Calls Tryz.prog 79 #[.string m, .int .u8 (c.toNat : Int)] w (BoolEnd v w) := by
  have HV := Lib.hid hv
  clear hv
  go_enter Tryz.func79, Tryz.ntmps79
  go_wp2_with fail
  go_loop [5] (fun i => ∃ j : Nat, i = .int .i64 j ∧ j ≤ m.size ∧ m.data.toList.contains c = (m.data.toList.drop j).contains c) (fun i => m.size - (intOf i).toNat)
  case atStart => exact ⟨0, rfl, Nat.zero_le _, rfl⟩
  case round =>
    obtain ⟨j, rfl, hj, hI⟩ := hrel
    have HI := Lib.hid hI
    clear hI
    by_cases h1 : j < m.size
    · have hd := drop_at m j h1
      by_cases h2 : m[j] = c
      · have e2 : (m[j]).toNat = c.toNat := by rw [h2]
        obtain rfl : v = true := by rw [← HV.out, HI.out, hd, List.contains_cons, h2]; simp
        clear hd h2
        go_wp2_with fail
        go_ret
        exact ⟨rfl, rfl⟩
      · have e2 : ¬ (m[j]).toNat = c.toNat := fun h => h2 (UInt8.toNat_inj.1 h)
        have HN := Lib.hid (show m.data.toList.contains c = (m.data.toList.drop (j + 1)).contains c by
          rw [HI.out, hd, List.contains_cons, beq_false_of_ne (fun h => h2 h.symm), Bool.false_or])
        clear hd h2
        go_wp2_with fail
        go_round
        case rel => exact ⟨j + 1, by go_num, by omega, HN.out⟩
        case measure => simp [intOf]; omega
    · obtain rfl : v = false := by rw [← HV.out, HI.out, drop_end m j (by omega)]; rfl
      go_wp2_with fail
      go_ret
      exact ⟨rfl, rfl⟩
theorem all_is (s m : ByteArray) (a : Nat) (v : Bool) (hv : (s.data.toList.drop a).all m.data.toList.contains = v) (hz : m.size ≤ 9223372036854775807) (ha : a ≤ s.size) (hs : s.size ≤ 9223372036854775807) (w : World) :
    Calls Tryz.prog 80 #[.string s, .int .i64 a, .string m] w (BoolEnd v w) := by
  have HV := Lib.hid hv
  clear hv
  have K := Lib.hid (fun c v hv => has_is m c v hv hz)
  clear hz
  go_enter Tryz.func80, Tryz.ntmps80
  go_wp2_with fail
  go_loop [7] (fun i => ∃ j : Nat, i = .int .i64 j ∧ j ≤ s.size ∧ (s.data.toList.drop a).all m.data.toList.contains = (s.data.toList.drop j).all m.data.toList.contains) (fun i => s.size - (intOf i).toNat)
  case atStart => exact ⟨a, rfl, ha, rfl⟩
  case round =>
    obtain ⟨j, rfl, hj, hI⟩ := hrel
    have HI := Lib.hid hI
    clear hI
    by_cases h1 : j < s.size
    · have hd := drop_at s j h1
      by_cases h2 : m.data.toList.contains s[j] = true
      · have K2 := Lib.hid (K.out s[j] true h2)
        have HN := Lib.hid (show (s.data.toList.drop a).all m.data.toList.contains = (s.data.toList.drop (j + 1)).all m.data.toList.contains by
          rw [HI.out, hd, List.all_cons, h2, Bool.true_and])
        clear hd h2
        go_wp2_with fail
        refine (K2.out _).mono ?_
        rintro e w1 ⟨rfl, rfl⟩
        go_wp2_with fail
        go_round
        case rel => exact ⟨j + 1, by go_num, by omega, HN.out⟩
        case measure => simp [intOf]; omega
      · have h3 : m.data.toList.contains s[j] = false := by simpa using h2
        have K2 := Lib.hid (K.out s[j] false h3)
        obtain rfl : v = false := by rw [← HV.out, HI.out, hd, List.all_cons, h3, Bool.false_and]
        clear hd h2 h3
        go_wp2_with fail
        refine (K2.out _).mono ?_
        rintro e w1 ⟨rfl, rfl⟩
        go_wp2_with fail
        go_ret
        exact ⟨rfl, rfl⟩
    · obtain rfl : v = true := by rw [← HV.out, HI.out, drop_end s j (by omega)]; rfl
      go_wp2_with fail
      go_ret
      exact ⟨rfl, rfl⟩
theorem rMay_tx (l : List UInt8) (h : l.length ≤ 140737488355328) (v : Bool) (hv : mayL l = v) (w : World) : Calls Tryz.prog 52 #[.string (tx l)] w (BoolEnd v w) := by
  have := rMay_any (tx l) (by rw [tx_size]; unfold maxLen; omega) w
  rw [tx_list, hv] at this
  exact this
theorem tx_empty (l : List UInt8) : (tx l).toList.isEmpty = l.isEmpty := by rw [str_tl, tx_list]
theorem tx_get0 (c : UInt8) (r : List UInt8) (h : 0 < (tx (c :: r)).size) : (tx (c :: r))[0] = c := rfl
theorem tx_drop1 (c : UInt8) (r : List UInt8) : (tx (c :: r)).extract 1 (r.length + 1) = tx r := bytes_ext (by
  rw [extract_list, tx_list, tx_list]
  simp)
set_option maxHeartbeats 1600000 in
theorem rNumber_is (l : List UInt8) (h : l.length ≤ 140737488355327) (w : World) : Calls Tryz.prog 62 #[.string (tx l)] w (PairEnd (numT l) (numB l) w) := by
  cases l with
  | nil =>
    have KM := Lib.hid (rMay_tx [] (by simp) false (by decide) w)
    have e0 := Lib.hid (show numB [] = false by decide)
    have e1 := Lib.hid (show numT [] = [] by decide)
    have he := tx_empty []
    rw [show ([] : List UInt8).isEmpty = true from rfl] at he
    rw [e0.out, e1.out]
    have HX := Lib.hid (show (⟨#[]⟩ : ByteArray) = tx [] from rfl)
    rw [← HX.out] at KM
    go_enter Tryz.func62, Tryz.ntmps62
    go_wp2_with fail
    refine KM.out.mono ?_
    rintro e w1 ⟨rfl, rfl⟩
    go_wp2_with fail
    go_ret2
    exact ⟨rfl, rfl⟩
  | cons c r =>
    have he := tx_empty (c :: r)
    rw [show (c :: r).isEmpty = false from rfl] at he
    have hl : r.length + 1 ≤ 140737488355327 := h
    have hp : 0 < (tx (c :: r)).size := by rw [tx_size]; simp
    have h00 := tx_get0 c r hp
    by_cases h1 : c = 45
    · subst h1
      have e0 := Lib.hid (show numB (45 :: r) = false by unfold numB; rfl)
      have e1 := Lib.hid (show numT (45 :: r) = [] by unfold numT; rw [e0.out]; rfl)
      have e2 : (((tx (45 :: r))[0].toNat : Int) == 45) = true := by rw [h00]; rfl
      have e3 : (((tx (45 :: r))[0].toNat : Int) == 95) = false := by rw [h00]; rfl
      rw [e0.out, e1.out]
      clear h h00
      generalize tx (45 :: r) = s at *
      go_enter Tryz.func62, Tryz.ntmps62
      go_wp2_with fail
      go_ret2
      exact ⟨rfl, rfl⟩
    · have hh : ((c :: r).head? == some 45) = false := beq_eq_false_iff_ne.2 (fun h => h1 (Option.some.inj h))
      have g1 : ((c.toNat : Int) == 45) = false := beq_false_of_ne (fun h => h1 (UInt8.toNat_inj.1 (by simp; omega)))
      have e2 : (((tx (c :: r))[0].toNat : Int) == 45) = false := by rw [h00]; exact g1
      by_cases h2 : c = 95
      · subst h2
        have e3 : (((tx (95 :: r))[0].toNat : Int) == 95) = true := by rw [h00]; rfl
        have e0 := Lib.hid (show numB (95 :: r) = mayL (45 :: r) by unfold numB; rw [hh]; rfl)
        have hc : (⟨#[45]⟩ : ByteArray) ++ tx r = tx (45 :: r) := tx_cat [45] r
        have KM := Lib.hid (rMay_tx (45 :: r) (by simp; omega) (mayL (45 :: r)) rfl w)
        have ez := Lib.hid (show numT (95 :: r) = if mayL (45 :: r) then 45 :: r else [] by unfold numT; rw [e0.out]; rfl)
        have hx := tx_drop1 95 r
        rw [e0.out, ez.out]
        rw [← hc] at KM
        have HC := Lib.hid hc
        have hq : (tx (95 :: r)).size = r.length + 1 := rfl
        have hzr : (tx r).size ≤ 140737488355327 := by rw [tx_size]; omega
        rw [← hq] at hx
        have hzs : (tx (95 :: r)).size ≤ 140737488355327 := by rw [hq]; omega
        clear hh g1 hc hq h00
        generalize tx (95 :: r) = s at *
        rcases hb : mayL (45 :: r) with _ | _
        all_goals
          rw [hb] at KM
          clear hb
          go_enter Tryz.func62, Tryz.ntmps62
          go_wp2_with fail
          refine KM.out.mono ?_
          rintro e w1 ⟨rfl, rfl⟩
          go_wp2_with fail
          go_ret2
          first | exact ⟨rfl, rfl⟩ | exact ⟨by rw [HC.out]; rfl, rfl⟩
      · have g2 : ((c.toNat : Int) == 95) = false := beq_false_of_ne (fun h => h2 (UInt8.toNat_inj.1 (by simp; omega)))
        have e3 : (((tx (c :: r))[0].toNat : Int) == 95) = false := by rw [h00]; exact g2
        have hsw : swapN (c :: r) = c :: r := if_neg h2
        have e0 := Lib.hid (show numB (c :: r) = mayL (c :: r) by unfold numB; rw [hh, hsw]; rfl)
        have KM := Lib.hid (rMay_tx (c :: r) (by simp; omega) (mayL (c :: r)) rfl w)
        have ez := Lib.hid (show numT (c :: r) = if mayL (c :: r) then c :: r else [] by unfold numT; rw [e0.out, hsw])
        rw [e0.out, ez.out]
        clear h1 hh h2 hsw g1 g2 h00
        rcases hb : mayL (c :: r) with _ | _
        all_goals
          rw [hb] at KM
          clear hb
          go_enter Tryz.func62, Tryz.ntmps62
          go_wp2_with fail
          refine KM.out.mono ?_
          rintro e w1 ⟨rfl, rfl⟩
          go_wp2_with fail
          go_ret2
          exact ⟨rfl, rfl⟩
set_option maxHeartbeats 1600000 in
theorem rLiteral_is (l : List UInt8) (h : l.length ≤ 140737488355327) (w : World) : Calls Tryz.prog 34 #[.string (tx l)] w (PairEnd (litT l) (mayL l) w) := by
  have KM := Lib.hid (rMay_tx l (by omega) (mayL l) rfl w)
  have e0 := Lib.hid (show litT l = if mayL l then swapL l else [] from rfl)
  rw [e0.out]
  clear e0
  rcases hb : mayL l with _ | _
  · rw [hb] at KM
    clear hb
    generalize tx l = s at *
    go_enter Tryz.func34, Tryz.ntmps34
    go_wp2_with fail
    refine KM.out.mono ?_
    rintro e w1 ⟨rfl, rfl⟩
    go_wp2_with fail
    go_ret2
    exact ⟨rfl, rfl⟩
  · rw [hb] at KM
    cases l with
    | nil => exact absurd hb (by decide)
    | cons c r =>
      clear hb
      have hl : r.length + 1 ≤ 140737488355327 := h
      have hp : 0 < (tx (c :: r)).size := by rw [tx_size]; simp
      have h00 := tx_get0 c r hp
      by_cases h2 : c = 45
      · subst h2
        have e3 : (((tx (45 :: r))[0].toNat : Int) == 45) = true := by rw [h00]; rfl
        have hc : (⟨#[95]⟩ : ByteArray) ++ tx r = tx (95 :: r) := tx_cat [95] r
        have HC := Lib.hid hc
        have hx := tx_drop1 45 r
        have hq : (tx (45 :: r)).size = r.length + 1 := rfl
        have hzr : (tx r).size ≤ 140737488355327 := by rw [tx_size]; omega
        rw [← hq] at hx
        have hzs : (tx (45 :: r)).size ≤ 140737488355327 := by rw [hq]; omega
        have es := Lib.hid (show (if true = true then swapL (45 :: r) else []) = 95 :: r from rfl)
        rw [es.out]
        clear hc hq h00 es
        generalize tx (45 :: r) = s at *
        go_enter Tryz.func34, Tryz.ntmps34
        go_wp2_with fail
        refine KM.out.mono ?_
        rintro e w1 ⟨rfl, rfl⟩
        go_wp2_with fail
        go_ret2
        first | exact ⟨rfl, rfl⟩ | exact ⟨by rw [HC.out]; rfl, rfl⟩
      · have g2 : ((c.toNat : Int) == 45) = false := beq_false_of_ne (fun h => h2 (UInt8.toNat_inj.1 (by simp; omega)))
        have e3 : (((tx (c :: r))[0].toNat : Int) == 45) = false := by rw [h00]; exact g2
        have es := Lib.hid (show (if true = true then swapL (c :: r) else []) = c :: r from if_neg h2)
        rw [es.out]
        clear h2 g2 h00 es
        go_enter Tryz.func34, Tryz.ntmps34
        go_wp2_with fail
        refine KM.out.mono ?_
        rintro e w1 ⟨rfl, rfl⟩
        go_wp2_with fail
        go_ret2
        exact ⟨rfl, rfl⟩
end Go.Proofs.YtljkmdmbndjngaaGreat
/-
  The reference's kind of a text.
-/
namespace Go.Proofs.YtljkmdmbndjngaaGreat
set_option linter.unusedVariables false
set_option linter.unusedSimpArgs false
open Go.RowKit

def IntEnd (v : Int) (w : World) (e : Ending) (w' : World) : Prop := e = .returned (.int .i64 v) ∧ w = w'
def nine : List (Nat × Bool × Bool × Bool × Bool × Bool × Bool × Bool) :=
  [(0, false, false, false, false, false, false, false),
   (7, false, false, false, false, false, false, false),
   (1, false, false, false, false, false, true, false),
   (1, false, false, false, false, false, false, true),
   (2, true, false, false, false, false, false, false),
   (3, false, true, false, false, false, false, false),
   (4, false, false, true, false, false, false, false),
   (5, false, false, false, true, false, false, false),
   (6, false, false, false, false, true, false, false)]
def nineOf (c : UInt8) : Nat × Bool × Bool × Bool × Bool × Bool × Bool × Bool := (cls c, smL.contains c, grL.contains c, sgL.contains c, adL.contains c, mkL.contains c, c == 95, figL.contains c)
theorem cls_nine : ∀ c : UInt8, nineOf c ∈ nine := all_u8 (by decide +kernel)
/-- What kind asks of a text that begins with a byte. -/
structure Asks (s : ByteArray) (x : UInt8) (v2 v3 v4 v5 v6 vf a2 a3 a1 : Bool) (w : World) : Prop where
  h2 : Calls Tryz.prog 79 #[.string ⟨#[97, 98, 99, 100, 101, 102, 103, 104, 105, 106, 107, 108, 109, 110, 111, 112, 113, 114, 115, 116, 117, 118, 119, 120, 121, 122]⟩, .int .u8 (x.toNat : Int)] w (BoolEnd v2 w)
  h3 : Calls Tryz.prog 79 #[.string ⟨#[65, 66, 67, 68, 69, 70, 71, 72, 73, 74, 75, 76, 77, 78, 79, 80, 81, 82, 83, 84, 85, 86, 87, 88, 89, 90]⟩, .int .u8 (x.toNat : Int)] w (BoolEnd v3 w)
  h4 : Calls Tryz.prog 79 #[.string ⟨#[43, 45, 42, 37, 33, 38, 124, 60, 62, 61, 126, 44, 35, 94, 36, 63, 64]⟩, .int .u8 (x.toNat : Int)] w (BoolEnd v4 w)
  h5 : Calls Tryz.prog 79 #[.string ⟨#[39, 47, 92, 46, 96]⟩, .int .u8 (x.toNat : Int)] w (BoolEnd v5 w)
  h6 : Calls Tryz.prog 79 #[.string ⟨#[40, 41, 91, 93, 123, 125, 58]⟩, .int .u8 (x.toNat : Int)] w (BoolEnd v6 w)
  hf : Calls Tryz.prog 79 #[.string ⟨#[48, 49, 50, 51, 52, 53, 54, 55, 56, 57]⟩, .int .u8 (x.toNat : Int)] w (BoolEnd vf w)
  g2 : Calls Tryz.prog 80 #[.string s, .int .i64 1, .string ⟨#[97, 98, 99, 100, 101, 102, 103, 104, 105, 106, 107, 108, 109, 110, 111, 112, 113, 114, 115, 116, 117, 118, 119, 120, 121, 122, 48, 49, 50, 51, 52, 53, 54, 55, 56, 57]⟩] w (BoolEnd a2 w)
  g3 : Calls Tryz.prog 80 #[.string s, .int .i64 1, .string ⟨#[65, 66, 67, 68, 69, 70, 71, 72, 73, 74, 75, 76, 77, 78, 79, 80, 81, 82, 83, 84, 85, 86, 87, 88, 89, 90, 97, 98, 99, 100, 101, 102, 103, 104, 105, 106, 107, 108, 109, 110, 111, 112, 113, 114, 115, 116, 117, 118, 119, 120, 121, 122, 48, 49, 50, 51, 52, 53, 54, 55, 56, 57]⟩] w (BoolEnd a3 w)
  g1 : Calls Tryz.prog 80 #[.string s, .int .i64 1, .string ⟨#[48, 49, 50, 51, 52, 53, 54, 55, 56, 57]⟩] w (BoolEnd a1 w)
theorem asks_is (s : ByteArray) (x : UInt8) (h1 : 1 ≤ s.size) (hs : s.size ≤ 9223372036854775807) {v2 v3 v4 v5 v6 vf a2 a3 a1 : Bool} (e2 : smL.contains x = v2) (e3 : grL.contains x = v3) (e4 : sgL.contains x = v4) (e5 : adL.contains x = v5) (e6 : mkL.contains x = v6) (ef : figL.contains x = vf)
    (k2 : (s.data.toList.drop 1).all (smL ++ figL).contains = a2) (k3 : (s.data.toList.drop 1).all (grL ++ smL ++ figL).contains = a3) (k1 : (s.data.toList.drop 1).all figL.contains = a1) (w : World) : Asks s x v2 v3 v4 v5 v6 vf a2 a3 a1 w where
  h2 := has_is ⟨#[97, 98, 99, 100, 101, 102, 103, 104, 105, 106, 107, 108, 109, 110, 111, 112, 113, 114, 115, 116, 117, 118, 119, 120, 121, 122]⟩ x v2 e2 (by decide) w
  h3 := has_is ⟨#[65, 66, 67, 68, 69, 70, 71, 72, 73, 74, 75, 76, 77, 78, 79, 80, 81, 82, 83, 84, 85, 86, 87, 88, 89, 90]⟩ x v3 e3 (by decide) w
  h4 := has_is ⟨#[43, 45, 42, 37, 33, 38, 124, 60, 62, 61, 126, 44, 35, 94, 36, 63, 64]⟩ x v4 e4 (by decide) w
  h5 := has_is ⟨#[39, 47, 92, 46, 96]⟩ x v5 e5 (by decide) w
  h6 := has_is ⟨#[40, 41, 91, 93, 123, 125, 58]⟩ x v6 e6 (by decide) w
  hf := has_is ⟨#[48, 49, 50, 51, 52, 53, 54, 55, 56, 57]⟩ x vf ef (by decide) w
  g2 := all_is s ⟨#[97, 98, 99, 100, 101, 102, 103, 104, 105, 106, 107, 108, 109, 110, 111, 112, 113, 114, 115, 116, 117, 118, 119, 120, 121, 122, 48, 49, 50, 51, 52, 53, 54, 55, 56, 57]⟩ 1 a2 k2 (by decide) h1 hs w
  g3 := all_is s ⟨#[65, 66, 67, 68, 69, 70, 71, 72, 73, 74, 75, 76, 77, 78, 79, 80, 81, 82, 83, 84, 85, 86, 87, 88, 89, 90, 97, 98, 99, 100, 101, 102, 103, 104, 105, 106, 107, 108, 109, 110, 111, 112, 113, 114, 115, 116, 117, 118, 119, 120, 121, 122, 48, 49, 50, 51, 52, 53, 54, 55, 56, 57]⟩ 1 a3 k3 (by decide) h1 hs w
  g1 := all_is s ⟨#[48, 49, 50, 51, 52, 53, 54, 55, 56, 57]⟩ 1 a1 k1 (by decide) h1 hs w
set_option maxHeartbeats 6400000 in
set_option maxRecDepth 10000 in
theorem kind_go (s : ByteArray) (hp : 0 < s.size) (he : s.toList.isEmpty = false) (vu one : Bool) {v2 v3 v4 v5 v6 vf a2 a3 a1 : Bool} (hu : (((s[0]).toNat : Int) == 95) = vu) (h1 : ((s.size : Int) == 1) = one) (w : World) (hA : Asks s s[0] v2 v3 v4 v5 v6 vf a2 a3 a1 w) (z : Int)
    (hc : (z = 0 ∧ v2 = false ∧ v3 = false ∧ v4 = false ∧ v5 = false ∧ v6 = false ∧ vu = false ∧ vf = false)
      ∨ (v2 = false ∧ v3 = false ∧ v4 = false ∧ v5 = false ∧ v6 = false ∧ vu = true ∧ vf = false ∧ (a1 = true ∧ z = 1 ∨ a1 = false ∧ z = 0))
      ∨ (v2 = false ∧ v3 = false ∧ v4 = false ∧ v5 = false ∧ v6 = false ∧ vu = false ∧ vf = true ∧ (a1 = true ∧ z = 1 ∨ a1 = false ∧ z = 0))
      ∨ (v2 = true ∧ v3 = false ∧ v4 = false ∧ v5 = false ∧ v6 = false ∧ vu = false ∧ vf = false ∧ (a2 = true ∧ z = 2 ∨ a2 = false ∧ z = 0))
      ∨ (v2 = false ∧ v3 = true ∧ v4 = false ∧ v5 = false ∧ v6 = false ∧ vu = false ∧ vf = false ∧ (a3 = true ∧ z = 3 ∨ a3 = false ∧ z = 0))
      ∨ (v2 = false ∧ v3 = false ∧ v4 = true ∧ v5 = false ∧ v6 = false ∧ vu = false ∧ vf = false ∧ (one = true ∧ z = 4 ∨ one = false ∧ z = 0))
      ∨ (v2 = false ∧ v3 = false ∧ v4 = false ∧ v5 = true ∧ v6 = false ∧ vu = false ∧ vf = false ∧ (one = true ∧ z = 5 ∨ one = false ∧ z = 0))
      ∨ (v2 = false ∧ v3 = false ∧ v4 = false ∧ v5 = false ∧ v6 = true ∧ vu = false ∧ vf = false ∧ (one = true ∧ z = 6 ∨ one = false ∧ z = 0))) :
    Calls Tryz.prog 61 #[.string s] w (IntEnd z w) := by
  have K2 := Lib.hid hA.h2
  have K3 := Lib.hid hA.h3
  have K4 := Lib.hid hA.h4
  have K5 := Lib.hid hA.h5
  have K6 := Lib.hid hA.h6
  have KF := Lib.hid hA.hf
  have G2 := Lib.hid hA.g2
  have G3 := Lib.hid hA.g3
  have G1 := Lib.hid hA.g1
  clear hA
  rcases hc with ⟨rfl, rfl, rfl, rfl, rfl, rfl, rfl, rfl⟩ | ⟨rfl, rfl, rfl, rfl, rfl, rfl, rfl, ⟨rfl, rfl⟩ | ⟨rfl, rfl⟩⟩ | ⟨rfl, rfl, rfl, rfl, rfl, rfl, rfl, ⟨rfl, rfl⟩ | ⟨rfl, rfl⟩⟩ | ⟨rfl, rfl, rfl, rfl, rfl, rfl, rfl, ⟨rfl, rfl⟩ | ⟨rfl, rfl⟩⟩ | ⟨rfl, rfl, rfl, rfl, rfl, rfl, rfl, ⟨rfl, rfl⟩ | ⟨rfl, rfl⟩⟩ | ⟨rfl, rfl, rfl, rfl, rfl, rfl, rfl, ⟨ho, rfl⟩ | ⟨ho, rfl⟩⟩ | ⟨rfl, rfl, rfl, rfl, rfl, rfl, rfl, ⟨ho, rfl⟩ | ⟨ho, rfl⟩⟩ | ⟨rfl, rfl, rfl, rfl, rfl, rfl, rfl, ⟨ho, rfl⟩ | ⟨ho, rfl⟩⟩
  all_goals cases one
  all_goals try (cases ho; done)
  all_goals try clear ho
  all_goals
    go_enter Tryz.func61, Tryz.ntmps61
    go_wp2_with (first
      | (go_at_call 79; (first | (with_reducible refine K2.out.mono ?_) | (with_reducible refine K3.out.mono ?_) | (with_reducible refine K4.out.mono ?_) | (with_reducible refine K5.out.mono ?_) | (with_reducible refine K6.out.mono ?_) | (with_reducible refine KF.out.mono ?_)); rintro e w1 ⟨rfl, rfl⟩)
      | (go_at_call 80; (first | (with_reducible refine G2.out.mono ?_) | (with_reducible refine G3.out.mono ?_) | (with_reducible refine G1.out.mono ?_)); rintro e w1 ⟨rfl, rfl⟩))
    go_ret
    exact ⟨rfl, rfl⟩
theorem kind_is (l : List UInt8) (hl : l.length ≤ 9223372036854775807) (w : World) : Calls Tryz.prog 61 #[.string (tx l)] w (IntEnd (kindL l) w) := by
  cases l with
  | nil =>
    have he := tx_empty []
    rw [show ([] : List UInt8).isEmpty = true from rfl] at he
    rw [show ((kindL [] : Nat) : Int) = 0 from rfl]
    clear hl
    generalize tx [] = s at *
    go_enter Tryz.func61, Tryz.ntmps61
    go_wp2_with fail
    go_ret
    exact ⟨rfl, rfl⟩
  | cons c t =>
    have hz : (tx (c :: t)).size = t.length + 1 := rfl
    have hp : 0 < (tx (c :: t)).size := by omega
    have h00 := tx_get0 c t hp
    have hd : (tx (c :: t)).data.toList.drop 1 = t := rfl
    have hu : (((tx (c :: t))[0].toNat : Int) == 95) = (c == 95) := by
      rw [h00]
      by_cases h : c = 95
      · subst h; rfl
      · rw [beq_false_of_ne h]
        exact beq_false_of_ne (fun h2 => h (UInt8.toNat_inj.1 (by simp; omega)))
    have ho : (((tx (c :: t)).size : Int) == 1) = t.isEmpty := by
      rw [hz]
      cases t with
      | nil => rfl
      | cons d t => exact beq_false_of_ne (by simp; omega)
    have hm3 : t.all (grL ++ smL ++ figL).contains = t.all (moreL 3).contains := by
      congr 1; funext x; exact more3 x
    have hE : ∀ k, 4 ≤ k → t.all (moreL k).contains = t.isEmpty := fun k hk => by
      rw [more_big hk]
      cases t with
      | nil => rfl
      | cons d t => simp
    have hA := asks_is (tx (c :: t)) c (by omega) (by rw [hz]; exact hl) rfl rfl rfl rfl rfl rfl rfl rfl rfl w
    rw [hd, ← h00] at hA
    refine kind_go (tx (c :: t)) hp (by rw [tx_empty]; rfl) (c == 95) t.isEmpty hu ho w hA _ ?_
    rw [h00, kindL_cons, hm3]
    have hn := cls_nine c
    unfold nineOf nine at hn
    simp only [List.mem_cons, List.not_mem_nil, or_false, Prod.mk.injEq] at hn
    have hb : ∀ (k : Nat) (b : Bool), 1 ≤ k → k ≤ 6 → (b = true ∧ ((if 1 ≤ k ∧ k ≤ 6 ∧ b = true then k else 0 : Nat) : Int) = (k : Int) ∨ b = false ∧ ((if 1 ≤ k ∧ k ≤ 6 ∧ b = true then k else 0 : Nat) : Int) = 0) := fun k b h1 h6 => by
      cases b with
      | true => exact .inl ⟨rfl, by rw [if_pos ⟨h1, h6, rfl⟩]⟩
      | false => exact .inr ⟨rfl, by rw [if_neg (by simp)]; rfl⟩
    rcases hn with ⟨e, e2, e3, e4, e5, e6, eu, ef⟩ | ⟨e, e2, e3, e4, e5, e6, eu, ef⟩ | ⟨e, e2, e3, e4, e5, e6, eu, ef⟩ | ⟨e, e2, e3, e4, e5, e6, eu, ef⟩ | ⟨e, e2, e3, e4, e5, e6, eu, ef⟩ | ⟨e, e2, e3, e4, e5, e6, eu, ef⟩ | ⟨e, e2, e3, e4, e5, e6, eu, ef⟩ | ⟨e, e2, e3, e4, e5, e6, eu, ef⟩ | ⟨e, e2, e3, e4, e5, e6, eu, ef⟩
    · refine .inl ⟨?_, e2, e3, e4, e5, e6, eu, ef⟩
      rw [e, if_neg (by omega)]; rfl
    · refine .inl ⟨?_, e2, e3, e4, e5, e6, eu, ef⟩
      rw [e, if_neg (by omega)]; rfl
    · refine .inr (.inl ⟨e2, e3, e4, e5, e6, eu, ef, ?_⟩)
      rw [e]; exact hb 1 (t.all figL.contains) (by omega) (by omega)
    · refine .inr (.inr (.inl ⟨e2, e3, e4, e5, e6, eu, ef, ?_⟩))
      rw [e]; exact hb 1 (t.all figL.contains) (by omega) (by omega)
    · refine .inr (.inr (.inr (.inl ⟨e2, e3, e4, e5, e6, eu, ef, ?_⟩)))
      rw [e]; exact hb 2 (t.all (smL ++ figL).contains) (by omega) (by omega)
    · refine .inr (.inr (.inr (.inr (.inl ⟨e2, e3, e4, e5, e6, eu, ef, ?_⟩))))
      rw [e]; exact hb 3 (t.all (moreL 3).contains) (by omega) (by omega)
    · refine .inr (.inr (.inr (.inr (.inr (.inl ⟨e2, e3, e4, e5, e6, eu, ef, ?_⟩)))))
      rw [e, hE 4 (by omega)]; exact hb 4 t.isEmpty (by omega) (by omega)
    · refine .inr (.inr (.inr (.inr (.inr (.inr (.inl ⟨e2, e3, e4, e5, e6, eu, ef, ?_⟩))))))
      rw [e, hE 5 (by omega)]; exact hb 5 t.isEmpty (by omega) (by omega)
    · refine .inr (.inr (.inr (.inr (.inr (.inr (.inr ⟨e2, e3, e4, e5, e6, eu, ef, ?_⟩))))))
      rw [e, hE 6 (by omega)]; exact hb 6 t.isEmpty (by omega) (by omega)
end Go.Proofs.YtljkmdmbndjngaaGreat
/-
  Rows of parts in memory.
-/
namespace Go.Proofs.YtljkmdmbndjngaaGreat
set_option linter.unusedVariables false
set_option linter.unusedSimpArgs false
open Go.RowKit

/-- A part in memory: kind, text, place. -/
structure Rt where
  k : Int
  x : ByteArray
  p : Int
def Rt.cells (r : Rt) : List Value := [.int .i64 r.k, .string r.x, .int .i64 r.p]
/-- A slice of parts, read by a function. -/
def Qs (W : World) (a : Option Addr) (n : Nat) (f : Nat → Rt) : Prop := 0 < n → ∃ b off, a = some ⟨b, off, none⟩ ∧ ∀ j, j < n → W.cell? ⟨b, off + j * 3, none⟩ = some (.int .i64 (f j).k) ∧ W.cell? ⟨b, off + j * 3 + 1, none⟩ = some (.string (f j).x) ∧ W.cell? ⟨b, off + j * 3 + 2, none⟩ = some (.int .i64 (f j).p)
theorem Qs.below {W W' : World} {a : Option Addr} {n : Nat} {f : Nat → Rt} (h : Qs W a n f) (hb : Below W.heap.size W W') : Qs W' a n f := by
  intro hn
  obtain ⟨b, off, e, hc⟩ := h hn
  refine ⟨b, off, e, fun j hj => ⟨?_, ?_, ?_⟩⟩
  · exact (hb.cell (show (⟨b, off + j * 3, none⟩ : Addr).block < W.heap.size from World.block_lt_of_cell? W _ (hc j hj).1)).trans (hc j hj).1
  · exact (hb.cell (show (⟨b, off + j * 3 + 1, none⟩ : Addr).block < W.heap.size from World.block_lt_of_cell? W _ (hc j hj).2.1)).trans (hc j hj).2.1
  · exact (hb.cell (show (⟨b, off + j * 3 + 2, none⟩ : Addr).block < W.heap.size from World.block_lt_of_cell? W _ (hc j hj).2.2)).trans (hc j hj).2.2
theorem Qs.less {W : World} {a : Option Addr} {n m : Nat} {f : Nat → Rt} (h : Qs W a n f) (hm : m ≤ n) : Qs W a m f := by
  intro h0
  obtain ⟨b, off, e, hc⟩ := h (by omega)
  exact ⟨b, off, e, fun j hj => hc j (by omega)⟩
theorem Qs.same {W : World} {a : Option Addr} {n : Nat} {f g : Nat → Rt} (h : Qs W a n f) (hg : ∀ j, j < n → f j = g j) : Qs W a n g := by
  intro h0
  obtain ⟨b, off, e, hc⟩ := h h0
  exact ⟨b, off, e, fun j hj => by rw [← hg j hj]; exact hc j hj⟩
/-- The cells of the first k parts in a row. -/
def rvs (f : Nat → Rt) : Nat → List Value
  | 0 => []
  | k + 1 => rvs f k ++ (f k).cells
theorem rvs_len (f : Nat → Rt) : ∀ k, (rvs f k).length = k * 3
  | 0 => by simp [rvs]
  | k + 1 => by
    show (rvs f k ++ _).length = _
    rw [List.length_append, rvs_len f k]; simp [Rt.cells]; omega
theorem rvs_get (f : Nat → Rt) : ∀ k j, j < k → (rvs f k)[j * 3]? = some (.int .i64 (f j).k) ∧ (rvs f k)[j * 3 + 1]? = some (.string (f j).x) ∧ (rvs f k)[j * 3 + 2]? = some (.int .i64 (f j).p)
  | 0, j, h => by omega
  | k + 1, j, h => by
    have hl := rvs_len f k
    show (rvs f k ++ _)[j * 3]? = _ ∧ (rvs f k ++ _)[j * 3 + 1]? = _ ∧ (rvs f k ++ _)[j * 3 + 2]? = _
    by_cases hj : j < k
    · rw [List.getElem?_append_left (by omega), List.getElem?_append_left (by omega), List.getElem?_append_left (by omega)]
      exact rvs_get f k j hj
    · obtain rfl : j = k := by omega
      rw [List.getElem?_append_right (by omega), List.getElem?_append_right (by omega), List.getElem?_append_right (by omega), hl, Nat.sub_self, show j * 3 + 1 - j * 3 = 1 by omega, show j * 3 + 2 - j * 3 = 2 by omega]
      exact ⟨rfl, rfl, rfl⟩
theorem owns_qs {w : World} {base n : Nat} {v : Value} {f : Nat → Rt} (h : w.ownsRow base 80 3 v n (rvs f n)) : ∃ a c, v = .slice a n c ∧ n ≤ c ∧ Qs w a n f := by
  rcases h.2 with ⟨rfl, rfl⟩ | ⟨g, cap, cur, rfl, _, hg, h1, h2, h3, h4⟩
  · exact ⟨none, 0, rfl, Nat.le_refl _, fun h => by omega⟩
  · refine ⟨_, cap, rfl, by omega, fun _ => ⟨g, 0, rfl, fun j hj => ?_⟩⟩
    have hc := rvs_get f n j hj
    rw [← h4, List.getElem?_take_of_lt (by omega), List.getElem?_take_of_lt (by omega), List.getElem?_take_of_lt (by omega), Array.getElem?_toList, Array.getElem?_toList, Array.getElem?_toList] at hc
    rw [Nat.zero_add]
    exact ⟨by rw [cell_of_row _ _ _ _ _ _ hg]; exact hc.1, by rw [cell_of_row _ _ _ _ _ _ hg]; exact hc.2.1, by rw [cell_of_row _ _ _ _ _ _ hg]; exact hc.2.2⟩
theorem own_below3 {w w' : World} {B n e : Nat} {v : Value} {xs : List Value} (h : w.ownsRow B e 3 v n xs) (hb : Below w.heap.size w w') : w'.ownsRow B e 3 v n xs := by
  refine ⟨h.1, ?_⟩
  rcases h.2 with h | ⟨g, cap, cur, hv, h1, h2, h3⟩
  · exact .inl h
  · exact .inr ⟨g, cap, cur, hv, h1, (hb.block g (Array.getElem?_eq_some_iff.1 h2).1).trans h2, h3⟩
theorem infoT : (Tryz.prog.info? 80).map (fun i => (i.zero, i.size, i.bytes)) = some (some (.agg #[.int .i64 0, .string ⟨#[]⟩, .int .i64 0]), 3, 32) := by kernel_rfl
/-- A line's parts in memory. -/
def rtk (ts : List Tk) (j : Nat) : Rt := match ts[j]? with | some t => ⟨t.kind, tx t.text, t.at_⟩ | none => ⟨0, ⟨#[]⟩, 0⟩
theorem rtk_at {ts : List Tk} {j : Nat} {t : Tk} (h : ts[j]? = some t) : rtk ts j = ⟨t.kind, tx t.text, t.at_⟩ := by unfold rtk; rw [h]
theorem drop_cons {α : Type} {l r : List α} {k : Nat} {x : α} (h : l.drop k = x :: r) : l[k]? = some x ∧ r = l.drop (k + 1) ∧ k < l.length := by
  have h1 : (l.drop k)[0]? = some x := by rw [h]; rfl
  rw [List.getElem?_drop, Nat.add_zero] at h1
  refine ⟨h1, ?_, (List.getElem?_eq_some_iff.1 h1).1⟩
  rw [← List.drop_drop, h]; rfl
/-- What Lex tells: the parts; or the place of an error; or that the line is too long. -/
def LexOk (ts : List Tk) (W : World) (e : Ending) (W' : World) : Prop := ∃ a c, e = .returned (.tuple #[.slice a ts.length c, .int .i64 0, .int .i64 0]) ∧ ts.length ≤ c ∧ Qs W' a ts.length (rtk ts) ∧ Below W.heap.size W W'
def LexBad (q : Nat) (W : World) (e : Ending) (W' : World) : Prop := e = .returned (.tuple #[.slice none 0 0, .int .i64 q, .int .i64 2]) ∧ Below W.heap.size W W'
def LexBig (W : World) (e : Ending) (W' : World) : Prop := e = .returned (.tuple #[.slice none 0 0, .int .i64 0, .int .i64 8]) ∧ Below W.heap.size W W'
def LexEnd (ts : List Tk) (e : Option Nat) (W : World) : Ending → World → Prop := match e with
  | none => LexOk ts W
  | some q => LexBad q W
theorem LexEnd.ok {ts : List Tk} {W W' : World} {a : Option Addr} {c : Nat} (hc : ts.length ≤ c) (h : Qs W' a ts.length (rtk ts)) (hb : Below W.heap.size W W') : LexEnd ts none W (.returned (.tuple #[.slice a ts.length c, .int .i64 0, .int .i64 0])) W' := ⟨a, c, rfl, hc, h, hb⟩
theorem LexEnd.bad {ts : List Tk} {q : Nat} {W W' : World} (hb : Below W.heap.size W W') : LexEnd ts (some q) W (.returned (.tuple #[.slice none 0 0, .int .i64 q, .int .i64 2])) W' := ⟨rfl, hb⟩
theorem big_is (s : ByteArray) (h : 256 < s.size) (hs : s.size ≤ 9223372036854775807) (W : World) : Calls Tryz.prog 37 #[.string s] W (LexBig W) := by
  have h1 : (256 : Int) < (s.size : Int) := by omega
  go_enter Tryz.func37, Tryz.ntmps37
  go_wp2_with fail
  go_step3
  go_wp2_with fail
  go_ret3
  exact ⟨rfl, Below.refl _ _⟩
theorem rbig_is (s : ByteArray) (h : 256 < s.size) (hs : s.size ≤ 9223372036854775807) (W : World) : Calls Tryz.prog 39 #[.string s] W (LexBig W) := by
  have h1 : (256 : Int) < (s.size : Int) := by omega
  go_enter Tryz.func39, Tryz.ntmps39
  go_wp2_with fail
  go_ret3
  exact ⟨rfl, Below.refl _ _⟩
end Go.Proofs.YtljkmdmbndjngaaGreat

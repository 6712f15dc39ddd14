import Derived.Test.YtpledghphljfkaaGreatDoorMao
import Derived.Lib.ItoaNum
import Derived.WalkKit
import Derived.WalkSpells
import Derived.WalkLawsBesides
import Derived.Lib.Hide
import Derived.BigQuiet
import Derived.Deep.QuietTactic
import Derived.Deep.OwnRows
import Derived.Laws.CopyOwn
import Derived.Lib.Walk
import Derived.Lib.ItoaWalk
import Derived.Lib.ItoaMem
import Derived.Lib.AppendIntMem
import Derived.Lib.Slices
import Derived.BigCall
import Derived.BigGuard
import Derived.Deep.RegionHeld3
import Derived.Lib.AtoiErrMem
import Derived.Deep.RegionWith
import Derived.Deep.DeepCutAuto
import Derived.Laws.Rows
/-
  The reference functions of num and width that the later layers call, each by its contract; joined by shake.py, minus.py.
-/
namespace Go.Proofs.YtpledghphljfkaaGreatDoor
set_option linter.unusedVariables false
set_option linter.unusedSimpArgs false
section
open Go.RowKit
theorem ret_str {a b : ByteArray} (h : a = b) : Ending.returned (.string a) = .returned (.string b) := by rw [h]
end
section
open Go.RowKit
theorem S_neg {n : Nat} {x : Int} (h : x.natAbs = n) (h0 : x < 0) : S x = ⟨(45 :: Lib.decDigits n).toArray⟩ := by
  unfold S Lib.itoa; rw [if_pos h0, h]
theorem cat_hyphen (l : List UInt8) : (⟨#[45]⟩ : ByteArray) ++ ⟨l.toArray⟩ = ⟨(45 :: l).toArray⟩ := by
  apply ByteArray.ext; simp [ByteArray.data_append]
open Go.RowKit
def told (x : Int) : Value := if x.natAbs < lim then .tuple #[.string (S x), .int .i64 0] else .tuple #[.string ⟨#[]⟩, .int .i64 8]
end
section
open Go.RowKit
def toldR (z : Int) : ByteArray := if z.natAbs < lim then S z else ⟨#[]⟩
def toldE (z : Int) : Int := if z.natAbs < lim then 0 else 8
end
section
open Go.RowKit
def OpPost (z : Int) (w : World) (e : Ending) (w' : World) : Prop := e = .returned (.tuple #[.string (toldR z), .int .i64 (toldE z)]) ∧ Below w.heap.size w w'
end
section
open Go.RowKit
def T : Option Int → ByteArray
  | some x => S x
  | none => ⟨#[]⟩
def negO : Option Int → Option Int
  | some x => some (-x)
  | none => none
end
section
open Go.RowKit
theorem S_nlit {l : List UInt8} {n : Nat} (hn : dval l = n) (h0 : 0 < n) (ha : AllDig l) (hc : ∃ c r, l = c :: r ∧ c.toNat ≠ 48) : S (-(n : Int)) = ⟨(45 :: l).toArray⟩ := by
  rw [S_neg (n := n) (by omega) (by omega), ← hn, dig_lit ha hc]
theorem toldR_yes {z : Int} (h : z.natAbs < lim) : toldR z = S z := by unfold toldR; rw [if_pos h]
theorem toldE_yes {z : Int} (h : z.natAbs < lim) : toldE z = 0 := by unfold toldE; rw [if_pos h]
end
section
open Go.RowKit
theorem B4.drew {w W : World} {s0 s1 s2 s3 : Int} {P0 P1 P2 P3 : Option Addr} {n0 n1 n2 n3 c0 c1 c2 c3 : Nat} (h : B4 w W s0 P0 n0 c0 s1 P1 n1 c1 s2 P2 n2 c2 s3 P3 n3 c3) : B4 w W.drew s0 P0 n0 c0 s1 P1 n1 c1 s2 P2 n2 c2 s3 P3 n3 c3 := ⟨h.a, h.b, h.r, h.t, h.bel.drew⟩
end
section
open Go.RowKit
set_option maxRecDepth 10000 in
theorem rlow_any (s : ByteArray) (b : Bool) (hb : decide (s.data.toList.head? = some 45) = b) (w : World) : Calls Tryz.prog 75 #[.string s] w fun e w' => e = .returned (.bool b) ∧ w = w' := by
  subst hb
  by_cases h0 : s.size = 0
  · have hn : s.data.toList = [] := List.eq_nil_of_length_eq_zero (by simpa using h0)
    have e0 : s.toList = [] := by rw [str_tl, hn]
    go_enter Tryz.func75, Tryz.ntmps75
    go_wp2_with fail
    go_ret
    exact ⟨ret_bool (by simp [hn]), rfl⟩
  · have hp : 0 < s.size := by omega
    have hh := head_get hp
    have e0 : ¬ s.toList = [] := by
      rw [str_tl]; intro h; rw [h] at hh; cases hh
    rw [hh]
    have HH := Lib.hid hh
    clear hh
    by_cases h1 : s[0] = 45
    · have h2 : s[0].toNat = 45 := by rw [h1]; rfl
      go_enter Tryz.func75, Tryz.ntmps75
      go_wp2_with fail
      go_ret
      exact ⟨ret_bool (by simp [h1]; exact e0), rfl⟩
    · have h2 : ¬ s[0].toNat = 45 := fun h => h1 (UInt8.toNat_inj.1 h)
      go_enter Tryz.func75, Tryz.ntmps75
      go_wp2_with fail
      go_ret
      exact ⟨ret_bool (by simp [h1]; intro _ h; exact h2 (by omega)), rfl⟩
def B (l : List UInt8) : ByteArray := ⟨l.toArray⟩
theorem B_list (l : List UInt8) : (B l).data.toList = l := rfl
theorem B_size (l : List UInt8) : (B l).size = l.length := by simp [B, ByteArray.size]
theorem ba_ext {a b : ByteArray} (h : a.data.toList = b.data.toList) : a = b := by
  obtain ⟨⟨x⟩⟩ := a
  obtain ⟨⟨y⟩⟩ := b
  have : x = y := h
  rw [this]
set_option maxRecDepth 10000 in
theorem rsize_any (l : List UInt8) (hl : l.length ≤ maxLen) (w : World) : Calls Tryz.prog 74 #[.string (B l)] w fun e w' => e = .returned (.string (B (figs l))) ∧ w = w' := by
  have HS := Lib.hid (B_size l)
  by_cases h : l.head? = some 45
  · cases l with
    | nil => cases h
    | cons c r =>
      have hc : c = 45 := by simpa using h
      subst hc
      rw [figs_neg]
      have hL := rlow_any (B (45 :: r)) true (by rw [B_list]; rfl)
      have HL := Lib.hid hL
      have hs : 1 ≤ (B (45 :: r)).size := by rw [B_size]; simp
      have hr : (B (45 :: r)).extract 1 (B (45 :: r)).size = B r := by
        apply ba_ext
        rw [extract_toList, B_list, B_list, B_size, List.take_length]
        rfl
      have HR := Lib.hid hr
      clear hL hr h
      generalize hq : B (45 :: r) = s at *
      go_enter Tryz.func74, Tryz.ntmps74
      go_wp2_with fail
      refine (HL.out _).mono ?_
      rintro e w1 ⟨rfl, rfl⟩
      go_wp2_with fail
      go_ret
      exact ⟨ret_str HR.out, rfl⟩
  · rw [figs_pos h]
    have hL := rlow_any (B l) false (by rw [B_list]; exact decide_eq_false h)
    have HL := Lib.hid hL
    clear hL h
    go_enter Tryz.func74, Tryz.ntmps74
    go_wp2_with fail
    refine (HL.out _).mono ?_
    rintro e w1 ⟨rfl, rfl⟩
    go_wp2_with fail
    go_ret
    exact ⟨rfl, rfl⟩
def strLen : Value → Nat
  | .string s => s.size
  | _ => 0
theorem dig_lead {c : UInt8} {r : List UInt8} (h : AllDig (c :: r)) (hc : c ≠ 48 ∨ r = []) : c :: r = Lib.decDigits (dval (c :: r)) := by
  refine decDigits_of _ h (by simp) ?_
  rcases hc with hc | rfl
  · exact .inr ⟨c, r, rfl, fun e => hc (UInt8.toNat_inj.1 e)⟩
  · exact .inl rfl
def BarePost (n : Nat) (w : World) (e : Ending) (w' : World) : Prop := e = .returned (.string (B (Lib.decDigits n))) ∧ w = w'
set_option maxRecDepth 10000 in
set_option maxHeartbeats 800000 in
theorem rbare_any (l : List UInt8) (hd : AllDig l) (hl : l.length ≤ maxLen) (w : World) : Calls Tryz.prog 104 #[.string (B l)] w (BarePost (dval l) w) := by
  go_enter Tryz.func104, Tryz.ntmps104
  go_wp2_with fail
  go_loop [0] (fun v => ∃ r : List UInt8, v = .string (B r) ∧ AllDig r ∧ dval r = dval l) (fun v => strLen v)
  case atStart => exact ⟨l, rfl, hd, rfl⟩
  case round =>
    obtain ⟨r, rfl, hr, hv⟩ := hrel
    have HV := Lib.hid hv
    clear hv
    cases r with
    | nil =>
      have hz : (B []).size = 0 := rfl
      have h1 : ¬ (1 : Int) < (B []).size := by rw [hz]; decide
      have e0 : (B []).toList.isEmpty = true := by rw [str_tl]; rfl
      go_wp2_with fail
      go_ret
      exact ⟨ret_str (by rw [← HV.out, show dval [] = 0 from rfl, decDigits_small (by decide)]; rfl), rfl⟩
    | cons c q =>
      have hs := B_size (c :: q)
      have e0 : (B (c :: q)).toList.isEmpty = false := by rw [str_tl, B_list]; rfl
      by_cases h1 : q = []
      · have h2 : ¬ (1 : Int) < (B (c :: q)).size := by rw [hs, h1]; exact Int.lt_irrefl 1
        have hf : B (c :: q) = B (Lib.decDigits (dval l)) := by rw [← HV.out, ← dig_lead hr (.inr h1)]
        have HF := Lib.hid hf
        clear hf hs hr
        generalize B (c :: q) = s at *
        go_wp2_with fail
        go_ret
        exact ⟨ret_str HF.out, rfl⟩
      · have hq : 0 < q.length := List.length_pos_iff.2 h1
        have h2 : (1 : Int) < (B (c :: q)).size := by rw [hs]; simp; omega
        have hp : 0 < (B (c :: q)).size := by omega
        have hg : (B (c :: q))[0] = c := rfl
        by_cases hc : c = 48
        · have e1 : ((((B (c :: q))[0]).toNat : Int) == 48) = true := by rw [hg, hc]; rfl
          have hx : (B (c :: q)).extract 1 (B (c :: q)).size = B q := by
            apply ba_ext
            rw [extract_toList, B_list, B_list, B_size, List.take_length]
            rfl
          have HX := Lib.hid hx
          have HC := Lib.hid hc
          have HQ := Lib.hid (And.intro hr hs)
          clear hx hc hr hs hg
          generalize hgen : B (c :: q) = s at *
          clear hgen
          go_wp2_with fail
          go_round
          case rel => exact ⟨q, congrArg Value.string HX.out, fun x hx => HQ.out.1 x (by simp [hx]), by rw [← HV.out, HC.out]; rfl⟩
          case measure =>
            simp only [strLen]
            rw [HX.out, B_size, HQ.out.2]
            simp
        · have e1 : ((((B (c :: q))[0]).toNat : Int) == 48) = false := by
            rw [hg]; exact beq_eq_false_iff_ne.2 fun e => hc (UInt8.toNat_inj.1 (show c.toNat = 48 by omega))
          have hf : B (c :: q) = B (Lib.decDigits (dval l)) := by rw [← HV.out, ← dig_lead hr (.inl hc)]
          have HF := Lib.hid hf
          clear hf hs hr hg hc
          generalize B (c :: q) = s at *
          go_wp2_with fail
          go_ret
          exact ⟨ret_str HF.out, rfl⟩
def sgn (b : Bool) (n : Nat) : Int := if b then -(n : Int) else n
theorem S_nat (n : Nat) : S (n : Int) = B (Lib.decDigits n) := S_pos (by omega) (by omega)
theorem S_negnat {n : Nat} (h : 0 < n) : S (-(n : Int)) = B (45 :: Lib.decDigits n) := S_neg (by omega) (by omega)
theorem dec_48 {n : Nat} (h : Lib.decDigits n = [48]) : n = 0 := decDigits_inj (h.trans (decDigits_small (n := 0) (by decide)).symm)
def SignedPost (z : Int) (w : World) (e : Ending) (w' : World) : Prop := e = .returned (.string (S z)) ∧ w = w'
set_option maxRecDepth 10000 in
set_option maxHeartbeats 800000 in
theorem rsigned_any (l : List UInt8) (hd : AllDig l) (hl : l.length ≤ maxLen) (hn : (Lib.decDigits (dval l)).length ≤ 9000) (b : Bool) (w : World) :
    Calls Tryz.prog 93 #[.string (B l), .bool b] w (SignedPost (sgn b (dval l)) w) := by
  have hB := rbare_any l hd hl
  have hs := B_size (Lib.decDigits (dval l))
  generalize hN : dval l = n at *
  have HB := Lib.hid hB
  generalize B l = s at *
  clear hB hN hd hl
  cases b
  · have HS := Lib.hid (S_nat n)
    clear hs hn
    go_enter Tryz.func93, Tryz.ntmps93
    go_wp2_with fail
    refine (HB.out _).mono ?_
    rintro e w1 ⟨rfl, rfl⟩
    go_wp2_with fail
    go_ret
    exact ⟨ret_str HS.out.symm, rfl⟩
  · by_cases h0 : n = 0
    · subst h0
      have e0 : ((B (Lib.decDigits 0)).toList == [48]) = true := by rw [str_tl, B_list, decDigits_small (by decide)]; rfl
      have HS := Lib.hid (S_nat 0)
      have ht : (B (Lib.decDigits 0)).size ≤ 9000 := by omega
      clear hs hn
      generalize hq : B (Lib.decDigits 0) = t at *
      go_enter Tryz.func93, Tryz.ntmps93
      go_wp2_with fail
      refine (HB.out _).mono ?_
      rintro e w1 ⟨rfl, rfl⟩
      rw [hq]
      go_wp2_with fail
      refine (HB.out _).mono ?_
      rintro e w1 ⟨rfl, rfl⟩
      rw [hq]
      go_wp2_with fail
      go_ret
      exact ⟨ret_str HS.out.symm, rfl⟩
    · have e0 : ((B (Lib.decDigits n)).toList == [48]) = false := by
        rw [str_tl, B_list]; exact beq_eq_false_iff_ne.2 fun h => h0 (dec_48 h)
      have hcat : (⟨#[45]⟩ : ByteArray) ++ B (Lib.decDigits n) = S (-(n : Int)) := by rw [S_negnat (by omega)]; exact cat_hyphen _
      have HS := Lib.hid hcat
      have ht : (B (Lib.decDigits n)).size ≤ 9000 := by omega
      clear hs hn hcat h0
      generalize hq : B (Lib.decDigits n) = t at *
      go_enter Tryz.func93, Tryz.ntmps93
      go_wp2_with fail
      refine (HB.out _).mono ?_
      rintro e w1 ⟨rfl, rfl⟩
      rw [hq]
      go_wp2_with fail
      refine (HB.out _).mono ?_
      rintro e w1 ⟨rfl, rfl⟩
      rw [hq]
      go_wp2_with fail
      go_ret
      exact ⟨ret_str HS.out, rfl⟩
theorem fig_at {l : List UInt8} (hd : AllDig l) {i k : Nat} (h : k + 1 + i = l.length) (hk : k < l.length) : dval l / 10 ^ i % 10 = (l[k]).toNat - 48 := by
  have hc := hd l[k] (List.getElem_mem hk)
  have e : l = l.take k ++ [l[k]] ++ l.drop (k + 1) := by simp
  have hdl : (l.drop (k + 1)).length = i := by simp; omega
  have hlt := dval_lt (l := l.drop (k + 1)) (fun c hc => hd c (List.mem_of_mem_drop hc))
  rw [hdl] at hlt
  have hv : dval l = (dval (l.take k) * 10 + ((l[k]).toNat - 48)) * 10 ^ i + dval (l.drop (k + 1)) := by
    have := congrArg dval e
    rw [dval_append, dval_snoc, hdl] at this
    exact this
  rw [hv, Nat.mul_comm, Nat.mul_add_div (Nat.pow_pos (by decide)), Nat.div_eq_of_lt hlt]
  omega
theorem fig_past {l : List UInt8} (hd : AllDig l) {i : Nat} (h : l.length ≤ i) : dval l / 10 ^ i % 10 = 0 := by
  rw [Nat.div_eq_of_lt (Nat.lt_of_lt_of_le (dval_lt hd) (Nat.pow_le_pow_right (by decide) h))]
def RIntEnd (z : Int) (w : World) (e : Ending) (w' : World) : Prop := e = .returned (.int .i64 z) ∧ Below w.heap.size w w'
theorem ret_i64 {a b : Int} (h : a = b) : Ending.returned (.int .i64 a) = .returned (.int .i64 b) := by rw [h]
set_option maxRecDepth 10000 in
set_option maxHeartbeats 800000 in
theorem rdigit_any (l : List UInt8) (hd : AllDig l) (hl : l.length ≤ 9000) (i : Nat) (hi : i ≤ 9000) (w : World) :
    Calls Tryz.prog 105 #[.string (B l), .int .i64 i] w (RIntEnd ((dval l / 10 ^ i % 10 : Nat) : Int) w) := by
  have hs := B_size l
  by_cases h : l.length ≤ i
  · have e0 : ((B l).size : Int) ≤ i := by omega
    rw [fig_past hd h]
    clear hs hd
    generalize B l = s at *
    go_enter Tryz.func105, Tryz.ntmps105
    go_wp2_with fail
    go_ret
    exact ⟨rfl, Below.refl _ _⟩
  · obtain ⟨k, hk⟩ : ∃ k, k + 1 + i = l.length := ⟨l.length - 1 - i, by omega⟩
    have hkl : k < l.length := by omega
    have hf := fig_at hd hk hkl
    have hks : k < (B l).size := by omega
    have hc : 48 ≤ ((B l)[k]).toNat ∧ ((B l)[k]).toNat ≤ 57 := hd l[k] (List.getElem_mem hkl)
    rw [hf]
    show Calls Tryz.prog 105 #[.string (B l), .int .i64 i] w (RIntEnd ((((B l)[k]).toNat - 48 : Nat) : Int) w)
    have e0 : ¬ ((B l).size : Int) ≤ i := by omega
    have e1 : ((B l).size : Int) - 1 - i = k := by omega
    have e2 : (B l).size ≤ 9000 := by omega
    clear hs hd hf hk hkl
    generalize B l = s at *
    go_enter Tryz.func105, Tryz.ntmps105
    go_wp2_with fail
    go_ret
    exact ⟨ret_i64 (by omega), Below.refl _ _⟩
theorem dval_split {l : List UInt8} {i : Nat} (hi : i < l.length) : dval l = (dval (l.take i) * 10 + ((l[i]).toNat - 48)) * 10 ^ (l.length - 1 - i) + dval (l.drop (i + 1)) := by
  have e : l = l.take i ++ [l[i]] ++ l.drop (i + 1) := by simp
  have hdl : (l.drop (i + 1)).length = l.length - 1 - i := by simp; omega
  have := congrArg dval e
  rw [dval_append, dval_snoc, hdl] at this
  exact this
theorem lex_lt {l m : List UInt8} (hl : AllDig l) (hm : AllDig m) (h : l.length = m.length) {i : Nat} (hi : i < l.length) (hi' : i < m.length) (ht : l.take i = m.take i) (hlt : (l[i]).toNat < (m[i]).toNat) : dval l < dval m := by
  rw [dval_split hi, dval_split hi', ht, h]
  have h1 := dval_lt (l := l.drop (i + 1)) (fun c hc => hl c (List.mem_of_mem_drop hc))
  have e1 : (l.drop (i + 1)).length = m.length - 1 - i := by simp; omega
  rw [e1] at h1
  have hd := hl l[i] (List.getElem_mem hi)
  have h2 : (dval (m.take i) * 10 + ((l[i]).toNat - 48) + 1) * 10 ^ (m.length - 1 - i) ≤ (dval (m.take i) * 10 + ((m[i]).toNat - 48)) * 10 ^ (m.length - 1 - i) := Nat.mul_le_mul_right _ (by omega)
  rw [Nat.add_mul, Nat.one_mul] at h2
  omega
theorem take_up {l m : List UInt8} {i : Nat} (hi : i < l.length) (hi' : i < m.length) (ht : l.take i = m.take i) (he : (l[i]).toNat = (m[i]).toNat) : l.take (i + 1) = m.take (i + 1) := by
  rw [List.take_succ_eq_append_getElem hi, List.take_succ_eq_append_getElem hi', ht, UInt8.toNat_inj.1 he]
theorem dec_len_lt {x y : Nat} (h : (Lib.decDigits x).length < (Lib.decDigits y).length) : x < y := by
  have hp := decDigits_len_pos x
  have h1 := (decDigits_len_le (n := x) hp).1 (Nat.le_refl _)
  have h2 : ¬ y < 10 ^ (Lib.decDigits x).length := fun h3 => by
    have := (decDigits_len_le (n := y) hp).2 h3
    omega
  omega
def MoreEnd (z : Int) (w : World) (e : Ending) (w' : World) : Prop := e = .returned (.int .i64 z) ∧ Drawn w w'
theorem cmpN_of_lt {x y : Nat} (h : x < y) : cmpN x y = -1 := by unfold cmpN; rw [if_pos h]
theorem cmpN_of_gt {x y : Nat} (h : y < x) : cmpN x y = 1 := by unfold cmpN; rw [if_neg (by omega), if_pos h]
set_option maxRecDepth 10000 in
set_option maxHeartbeats 800000 in
theorem rmore_any (x y : Nat) (hx : (Lib.decDigits x).length ≤ 9000) (hy : (Lib.decDigits y).length ≤ 9000) (w : World) :
    Calls Tryz.prog 95 #[.string (B (Lib.decDigits x)), .string (B (Lib.decDigits y))] w (MoreEnd (cmpN x y) w) := by
  have hs := B_size (Lib.decDigits x)
  have ht := B_size (Lib.decDigits y)
  by_cases h : (Lib.decDigits x).length = (Lib.decDigits y).length
  · have hdx := decDigits_dig x
    have hdy := decDigits_dig y
    have hvx := dval_decDigits x
    have hvy := dval_decDigits y
    generalize Lib.decDigits x = l at *
    generalize Lib.decDigits y = m at *
    obtain ⟨s, es⟩ : ∃ s, s = B l := ⟨_, rfl⟩
    obtain ⟨t, et⟩ : ∃ t, t = B m := ⟨_, rfl⟩
    rw [← es, ← et]
    rw [← es] at hs
    rw [← et] at ht
    have gx : ∀ (k : Nat) (hk : k < s.size) (hk' : k < l.length), (s[k]).toNat = (l[k]).toNat := by subst es; exact fun k hk hk' => rfl
    have gy : ∀ (k : Nat) (hk : k < t.size) (hk' : k < m.length), (t[k]).toNat = (m[k]).toNat := by subst et; exact fun k hk hk' => rfl
    have HG := Lib.hid (And.intro gx gy)
    have HD := Lib.hid (And.intro hdx (And.intro hdy (And.intro hvx (And.intro hvy h))))
    have e0 : s.size = t.size := by omega
    have e1 : t.size ≤ 9000 := by omega
    have HS := Lib.hid (And.intro hs ht)
    clear gx gy hdx hdy hvx hvy hs ht h es et
    have e2 : (s.size : Int) = t.size := by omega
    go_enter Tryz.func95, Tryz.ntmps95
    go_wp2_with fail
    go_loopw [5] (fun i wr => ∃ k : Nat, k ≤ t.size ∧ i = .int .i64 k ∧ l.take k = m.take k ∧ Drawn w wr) (fun i _ => t.size - (intOf i).toNat)
    case atStart => exact ⟨0, Nat.zero_le _, rfl, rfl, Drawn.refl _⟩
    case round =>
      obtain ⟨k, hk, rfl, hT, hW⟩ := hrel
      have HT := Lib.hid hT
      clear hT
      by_cases hlt : k < t.size
      · have hks : k < s.size := by omega
        by_cases c1 : (s[k]).toNat < (t[k]).toNat
        · go_wp2_with fail
          go_region
          go_wp2_with fail
          go_ret
          exact ⟨ret_i64 (cmpN_of_lt (by
            obtain ⟨h1, h2, h3, h4, h5⟩ := HD.out
            obtain ⟨g1, g2⟩ := HG.out
            obtain ⟨s1, s2⟩ := HS.out
            have := lex_lt h1 h2 h5 (i := k) (by omega) (by omega) HT.out (by rw [← g1 k hks (by omega), ← g2 k hlt (by omega)]; exact c1)
            omega)).symm, hW.more _⟩
        · by_cases c2 : (t[k]).toNat < (s[k]).toNat
          · go_wp2_with fail
            go_region
            go_wp2_with fail
            go_region
            go_wp2_with fail
            go_ret
            exact ⟨ret_i64 (cmpN_of_gt (by
              obtain ⟨h1, h2, h3, h4, h5⟩ := HD.out
              obtain ⟨g1, g2⟩ := HG.out
              obtain ⟨s1, s2⟩ := HS.out
              have := lex_lt h2 h1 h5.symm (i := k) (by omega) (by omega) HT.out.symm (by rw [← g1 k hks (by omega), ← g2 k hlt (by omega)]; exact c2)
              omega)).symm, (hW.more _).more _⟩
          · go_wp2_with fail
            go_region
            go_wp2_with fail
            go_region
            go_wp2_with fail
            go_roundw
            case rel => exact ⟨k + 1, by omega, by go_num, (by
              obtain ⟨h1, h2, h3, h4, h5⟩ := HD.out
              obtain ⟨g1, g2⟩ := HG.out
              obtain ⟨s1, s2⟩ := HS.out
              exact take_up (by omega) (by omega) HT.out (by rw [← g1 k hks (by omega), ← g2 k hlt (by omega)]; omega)), (hW.more _).more _⟩
            case measure => simp [intOf]; omega
      · go_wp2_with fail
        go_ret
        exact ⟨ret_i64 (by
          obtain ⟨h1, h2, h3, h4, h5⟩ := HD.out
          obtain ⟨s1, s2⟩ := HS.out
          have h6 := HT.out
          rw [List.take_of_length_le (by omega), List.take_of_length_le (by omega)] at h6
          rw [← h3, ← h4, h6, cmpN_self]), hW⟩
  · have e0 : ((B (Lib.decDigits x)).size : Int) ≠ (B (Lib.decDigits y)).size := by omega
    by_cases h2 : (Lib.decDigits x).length < (Lib.decDigits y).length
    · have hv := cmpN_of_lt (dec_len_lt h2)
      have e1 : ((B (Lib.decDigits x)).size : Int) < (B (Lib.decDigits y)).size := by omega
      have HV := Lib.hid hv
      clear hs ht h hv h2 hx hy
      generalize B (Lib.decDigits x) = s at *
      generalize B (Lib.decDigits y) = t at *
      go_enter Tryz.func95, Tryz.ntmps95
      go_wp2_with fail
      go_ret
      exact ⟨ret_i64 HV.out.symm, Drawn.refl _⟩
    · have hv := cmpN_of_gt (dec_len_lt (x := y) (y := x) (by omega))
      have e1 : ¬ ((B (Lib.decDigits x)).size : Int) < (B (Lib.decDigits y)).size := by omega
      have HV := Lib.hid hv
      clear hs ht h hv h2 hx hy
      generalize B (Lib.decDigits x) = s at *
      generalize B (Lib.decDigits y) = t at *
      go_enter Tryz.func95, Tryz.ntmps95
      go_wp2_with fail
      go_ret
      exact ⟨ret_i64 HV.out.symm, Drawn.refl _⟩
end
section
open Go.RowKit
def PlInv (x y i c : Nat) (R : List UInt8) : Prop := AllDig R ∧ R.length = i ∧ c ≤ 1 ∧ dval R + c * 10 ^ i = x % 10 ^ i + y % 10 ^ i
def digB (d : Nat) : UInt8 := UInt8.ofNat (48 + d)
theorem digB_nat {d : Nat} (h : d < 10) : (digB d).toNat = 48 + d := by
  unfold digB; rw [UInt8.toNat_ofNat']; omega
theorem plInv_zero (x y : Nat) : PlInv x y 0 0 [] := ⟨(by intro c hc; cases hc), rfl, (by decide), (by simp [dval, Nat.mod_one])⟩
theorem plInv_next {x y i c : Nat} {R : List UInt8} (h : PlInv x y i c R) {n : Nat} (hn : n = x / 10 ^ i % 10 + y / 10 ^ i % 10 + c) : PlInv x y (i + 1) (n / 10) (digB (n % 10) :: R) := by
  obtain ⟨h1, h2, h3, h4⟩ := h
  have hb := digB_nat (d := n % 10) (Nat.mod_lt _ (by decide))
  have e1 : x / 10 ^ i % 10 < 10 := Nat.mod_lt _ (by decide)
  have e2 : y / 10 ^ i % 10 < 10 := Nat.mod_lt _ (by decide)
  refine ⟨?_, by simp [h2], by omega, ?_⟩
  · intro c hc
    rcases List.mem_cons.1 hc with rfl | hc
    · omega
    · exact h1 c hc
  · rw [dval_cons, hb, h2, Nat.mod_pow_succ, Nat.mod_pow_succ, Nat.pow_succ]
    have e3 : 48 + n % 10 - 48 = n % 10 := by omega
    rw [e3]
    have e4 : n % 10 + 10 * (n / 10) = n := Nat.mod_add_div n 10
    have e5 : n / 10 * (10 ^ i * 10) = 10 ^ i * (10 * (n / 10)) := by
      rw [Nat.mul_comm, Nat.mul_assoc]
    have e6 : n % 10 * 10 ^ i + n / 10 * (10 ^ i * 10) = n * 10 ^ i := by
      rw [e5, Nat.mul_comm (n % 10), ← Nat.mul_add, e4, Nat.mul_comm]
    have e7 : n * 10 ^ i = 10 ^ i * (x / 10 ^ i % 10) + 10 ^ i * (y / 10 ^ i % 10) + c * 10 ^ i := by
      rw [hn, Nat.mul_comm, Nat.mul_add, Nat.mul_add, Nat.mul_comm c]
    omega
theorem plInv_end {x y i c : Nat} {R : List UInt8} (h : PlInv x y (i + 1) c R) (hx : x < 10 ^ i) (hy : y < 10 ^ i) : dval R = x + y := by
  obtain ⟨h1, h2, h3, h4⟩ := h
  have e : 10 ^ (i + 1) = 10 ^ i * 10 := Nat.pow_succ ..
  have hp : 0 < 10 ^ i := Nat.pow_pos (by decide)
  rw [e] at h4
  rw [Nat.mod_eq_of_lt (by omega), Nat.mod_eq_of_lt (by omega)] at h4
  have : c = 0 := by
    rcases Nat.eq_zero_or_pos c with h0 | h0
    · exact h0
    · have : c = 1 := by omega
      subst this
      omega
  subst this
  omega
theorem B_append (l m : List UInt8) : B l ++ B m = B (l ++ m) := by
  apply ba_ext
  rw [ByteArray.data_append, Array.toList_append, B_list, B_list, B_list]
theorem conv_one (W : World) (b : UInt8) (z : Int) (hz : z = b.toNat) :
    (convert 101 9 (.slice (some ⟨W.heap.size, 0, none⟩) 1 1)).run Tryz.prog (W.alloc (.cells #[.int .u8 z] 5)) = .ok (.string (B [b])) (W.alloc (.cells #[.int .u8 z] 5)) := by
  subst hz
  exact run_convert_bytes_back (P := Tryz.prog) (W.alloc (.cells #[.int .u8 b.toNat] 5)) 101 9 5 ⟨W.heap.size, 0, none⟩ 1 [b] Tryz.underlying101 Tryz.underlying5 Tryz.underlying9 (fun j hj => by
    have : j = 0 := by simpa using hj
    subst this
    rw [Lib.add_plain, World.cell?_alloc_new]
    rfl)
def StrEnd (s : ByteArray) (w : World) (e : Ending) (w' : World) : Prop := e = .returned (.string s) ∧ Below w.heap.size w w'
set_option maxRecDepth 10000 in
set_option maxHeartbeats 1600000 in
theorem rplus_any (x y : Nat) (hx : (Lib.decDigits x).length ≤ 4000) (hy : (Lib.decDigits y).length ≤ 4000) (w : World) :
    Calls Tryz.prog 94 #[.string (B (Lib.decDigits x)), .string (B (Lib.decDigits y))] w (StrEnd (B (Lib.decDigits (x + y))) w) := by
  have hD := fun (i : Nat) (hi : i ≤ 9000) (w1 : World) => rdigit_any (Lib.decDigits x) (decDigits_dig x) (by omega) i hi w1
  have hD' := fun (i : Nat) (hi : i ≤ 9000) (w1 : World) => rdigit_any (Lib.decDigits y) (decDigits_dig y) (by omega) i hi w1
  rw [dval_decDigits] at hD hD'
  have hs := B_size (Lib.decDigits x)
  have ht := B_size (Lib.decDigits y)
  obtain ⟨M, hM, hM1, hM2⟩ : ∃ M : Nat, max ((B (Lib.decDigits x)).size : Int) (B (Lib.decDigits y)).size = M ∧ (Lib.decDigits x).length ≤ M ∧ (Lib.decDigits y).length ≤ M ∧ M ≤ 4000 := ⟨max (B (Lib.decDigits x)).size (B (Lib.decDigits y)).size, by omega, by omega, by omega, by omega⟩
  have hxl : x < 10 ^ M := Nat.lt_of_lt_of_le ((decDigits_len_le (decDigits_len_pos x)).1 (Nat.le_refl _)) (Nat.pow_le_pow_right (by decide) hM1)
  have hyl : y < 10 ^ M := Nat.lt_of_lt_of_le ((decDigits_len_le (decDigits_len_pos y)).1 (Nat.le_refl _)) (Nat.pow_le_pow_right (by decide) hM2.1)
  have hM3 := hM2.2
  have HX := Lib.hid (And.intro hxl hyl)
  have HD := Lib.hid hD
  have HD' := Lib.hid hD'
  have HB := Lib.hid rbare_any
  clear hxl hyl hD hD' hM1 hM2 hs ht hx hy
  generalize B (Lib.decDigits x) = s at *
  generalize B (Lib.decDigits y) = t at *
  go_enter Tryz.func94, Tryz.ntmps94
  go_wp2_with fail
  go_loopw [5, 6, 7] (fun sv cv iv wr => ∃ (i c : Nat) (R : List UInt8), i ≤ M + 1 ∧ iv = .int .i64 i ∧ cv = .int .i64 c ∧ sv = .string (B R) ∧ PlInv x y i c R ∧ Below w.heap.size w wr) (fun _ _ iv _ => M + 1 - (intOf iv).toNat)
  case atStart => exact ⟨0, 0, [], Nat.zero_le _, rfl, rfl, rfl, plInv_zero x y, Below.refl _ _⟩
  case round =>
    obtain ⟨i, c, R, hi, rfl, rfl, rfl, hI, hb⟩ := hrel
    have HI := Lib.hid hI
    have hR := B_size R
    have hR2 : (B R).size = i := by rw [hR]; exact hI.2.1
    have hc1 : c ≤ 1 := hI.2.2.1
    clear hI hR
    by_cases hlt : i ≤ M
    · have h1 := HD.out i (by omega)
      have h2 := HD'.out i (by omega)
      obtain ⟨p, hp⟩ : ∃ p, p = x / 10 ^ i % 10 := ⟨_, rfl⟩
      obtain ⟨q, hq⟩ : ∃ q, q = y / 10 ^ i % 10 := ⟨_, rfl⟩
      rw [← hp] at h1
      rw [← hq] at h2
      have hp9 : p < 10 := by rw [hp]; exact Nat.mod_lt _ (by decide)
      have hq9 : q < 10 := by rw [hq]; exact Nat.mod_lt _ (by decide)
      have H1 := Lib.hid h1
      have H2 := Lib.hid h2
      have HPQ := Lib.hid (And.intro hp hq)
      clear h1 h2 hp hq
      go_wp2_with fail
      refine (H1.out _).mono ?_
      rintro e w1 ⟨rfl, hb1⟩
      go_wp2_with fail
      refine (H2.out _).mono ?_
      rintro e w2 ⟨rfl, hb2⟩
      have hbb := (hb.trans (hb1.mono hb.size))
      have hb3 := hbb.trans (hb2.mono hbb.size)
      have hz : (48 + ((p : Int) + q + c) % 10 : Int) = ((digB ((p + q + c) % 10)).toNat : Int) := by
        rw [digB_nat (Nat.mod_lt _ (by decide))]; omega
      have hcv := conv_one w2 (digB ((p + q + c) % 10)) _ hz
      have hd1 : (B [digB ((p + q + c) % 10)]).size = 1 := B_size _
      have HC := Lib.hid (B_append [digB ((p + q + c) % 10)] R)
      clear hb hb1 hb2 hbb hz
      go_wp2_with fail
      refine ⟨⟨i + 1, (p + q + c) / 10, digB ((p + q + c) % 10) :: R, by omega, by go_num, congrArg (Value.int .i64) (by omega), congrArg Value.string HC.out, ?_, hb3.alloc hb3.size _⟩, by simp [intOf]; omega⟩
      exact plInv_next HI.out (by rw [← HPQ.out.1, ← HPQ.out.2])
    · have hi2 : i = M + 1 := by omega
      subst hi2
      have hv := plInv_end HI.out HX.out.1 HX.out.2
      have hA := HB.out R HI.out.1 (by rw [HI.out.2.1]; unfold maxLen; omega)
      rw [hv] at hA
      have HA := Lib.hid hA
      clear hA hv
      go_wp2_with fail
      refine (HA.out _).mono ?_
      rintro e w3 ⟨rfl, rfl⟩
      go_wp2_with fail
      go_ret
      exact ⟨rfl, hb⟩
def MiInv (x y i c : Nat) (R : List UInt8) : Prop := AllDig R ∧ R.length = i ∧ c ≤ 1 ∧ dval R + y % 10 ^ i = x % 10 ^ i + c * 10 ^ i
theorem miInv_zero (x y : Nat) : MiInv x y 0 0 [] := ⟨(by intro c hc; cases hc), rfl, (by decide), (by simp [dval, Nat.mod_one])⟩
theorem miInv_next {x y i c d c' : Nat} {R : List UInt8} (h : MiInv x y i c R) (hd : d < 10) (hc' : c' ≤ 1) (hn : d + c + y / 10 ^ i % 10 = x / 10 ^ i % 10 + 10 * c') : MiInv x y (i + 1) c' (digB d :: R) := by
  obtain ⟨h1, h2, h3, h4⟩ := h
  have hb := digB_nat hd
  refine ⟨?_, by simp [h2], hc', ?_⟩
  · intro c hc
    rcases List.mem_cons.1 hc with rfl | hc
    · omega
    · exact h1 c hc
  · rw [dval_cons, hb, h2, Nat.mod_pow_succ, Nat.mod_pow_succ, Nat.pow_succ]
    have e3 : 48 + d - 48 = d := by omega
    rw [e3]
    have e := congrArg (fun t => 10 ^ i * t) hn
    simp only [Nat.mul_add] at e
    have e5 : c' * (10 ^ i * 10) = 10 ^ i * (10 * c') := by rw [Nat.mul_comm, Nat.mul_assoc]
    have e6 : d * 10 ^ i = 10 ^ i * d := Nat.mul_comm ..
    have e7 : c * 10 ^ i = 10 ^ i * c := Nat.mul_comm ..
    omega
theorem miInv_end {x y i c : Nat} {R : List UInt8} (h : MiInv x y i c R) (hx : x < 10 ^ i) (hy : y ≤ x) : dval R = x - y := by
  obtain ⟨h1, h2, h3, h4⟩ := h
  have hl := dval_lt h1
  rw [h2] at hl
  rw [Nat.mod_eq_of_lt (by omega), Nat.mod_eq_of_lt (by omega)] at h4
  have : c = 0 := by
    rcases Nat.eq_zero_or_pos c with h0 | h0
    · exact h0
    · have : c = 1 := by omega
      subst this
      omega
  subst this
  omega
set_option maxRecDepth 10000 in
set_option maxHeartbeats 1600000 in
theorem rminus_any (x y : Nat) (hxy : y ≤ x) (hx : (Lib.decDigits x).length ≤ 4000) (hy : (Lib.decDigits y).length ≤ 4000) (w : World) :
    Calls Tryz.prog 96 #[.string (B (Lib.decDigits x)), .string (B (Lib.decDigits y))] w (StrEnd (B (Lib.decDigits (x - y))) w) := by
  have hD := fun (i : Nat) (hi : i ≤ 9000) (w1 : World) => rdigit_any (Lib.decDigits x) (decDigits_dig x) (by omega) i hi w1
  have hD' := fun (i : Nat) (hi : i ≤ 9000) (w1 : World) => rdigit_any (Lib.decDigits y) (decDigits_dig y) (by omega) i hi w1
  rw [dval_decDigits] at hD hD'
  have hs := B_size (Lib.decDigits x)
  have hxl : x < 10 ^ (B (Lib.decDigits x)).size := by
    rw [hs]; exact (decDigits_len_le (decDigits_len_pos x)).1 (Nat.le_refl _)
  have hM : (B (Lib.decDigits x)).size ≤ 4000 := by omega
  have HX := Lib.hid (And.intro hxl hxy)
  have HD := Lib.hid hD
  have HD' := Lib.hid hD'
  have HB := Lib.hid rbare_any
  clear hxl hxy hD hD' hs hx hy
  generalize B (Lib.decDigits x) = s at *
  generalize B (Lib.decDigits y) = t at *
  go_enter Tryz.func96, Tryz.ntmps96
  go_wp2_with fail
  go_loopw [5, 6, 7] (fun sv cv iv wr => ∃ (i c : Nat) (R : List UInt8), i ≤ s.size ∧ iv = .int .i64 i ∧ cv = .int .i64 c ∧ sv = .string (B R) ∧ MiInv x y i c R ∧ Below w.heap.size w wr) (fun _ _ iv _ => s.size - (intOf iv).toNat)
  case atStart => exact ⟨0, 0, [], Nat.zero_le _, rfl, rfl, rfl, miInv_zero x y, Below.refl _ _⟩
  case round =>
    obtain ⟨i, c, R, hi, rfl, rfl, rfl, hI, hb⟩ := hrel
    have HI := Lib.hid hI
    have hR := B_size R
    have hR2 : (B R).size = i := by rw [hR]; exact hI.2.1
    have hc1 : c ≤ 1 := hI.2.2.1
    clear hI hR
    by_cases hlt : i < s.size
    · have h1 := HD.out i (by omega)
      have h2 := HD'.out i (by omega)
      obtain ⟨p, hp⟩ : ∃ p, p = x / 10 ^ i % 10 := ⟨_, rfl⟩
      obtain ⟨q, hq⟩ : ∃ q, q = y / 10 ^ i % 10 := ⟨_, rfl⟩
      rw [← hp] at h1
      rw [← hq] at h2
      have hp9 : p < 10 := by rw [hp]; exact Nat.mod_lt _ (by decide)
      have hq9 : q < 10 := by rw [hq]; exact Nat.mod_lt _ (by decide)
      have H1 := Lib.hid h1
      have H2 := Lib.hid h2
      have HPQ := Lib.hid (And.intro hp hq)
      clear h1 h2 hp hq
      go_wp2_with fail
      refine (H1.out _).mono ?_
      rintro e w1 ⟨rfl, hb1⟩
      go_wp2_with fail
      refine (H2.out _).mono ?_
      rintro e w2 ⟨rfl, hb2⟩
      have hbb := (hb.trans (hb1.mono hb.size))
      have hb3 := hbb.trans (hb2.mono hbb.size)
      clear hb hb1 hb2 hbb
      by_cases hneg : (p : Int) - q - c < 0
      · obtain ⟨d, hd⟩ : ∃ d : Nat, (p : Int) - q - c + 10 = d := ⟨((p : Int) - q - c + 10).toNat, by omega⟩
        have hd9 : d < 10 := by omega
        have hz : (48 + (d : Int)) = ((digB d).toNat : Int) := by rw [digB_nat hd9]; omega
        have hcv := conv_one w2 (digB d) _ hz
        have hd1 : (B [digB d]).size = 1 := B_size _
        have HC := Lib.hid (B_append [digB d] R)
        have HZ := Lib.hid (show d + c + q = p + 10 * 1 by omega)
        clear hz
        go_wp2_with fail
        refine ⟨⟨i + 1, 1, digB d :: R, by omega, by go_num, rfl, congrArg Value.string HC.out, ?_, hb3.alloc hb3.size _⟩, by simp [intOf]; omega⟩
        exact miInv_next HI.out hd9 (by decide) (by rw [← HPQ.out.1, ← HPQ.out.2]; exact HZ.out)
      · obtain ⟨d, hd⟩ : ∃ d : Nat, (p : Int) - q - c = d := ⟨((p : Int) - q - c).toNat, by omega⟩
        have hd9 : d < 10 := by omega
        have hz : (48 + (d : Int)) = ((digB d).toNat : Int) := by rw [digB_nat hd9]; omega
        have hcv := conv_one w2 (digB d) _ hz
        have hd1 : (B [digB d]).size = 1 := B_size _
        have HC := Lib.hid (B_append [digB d] R)
        have HZ := Lib.hid (show d + c + q = p + 10 * 0 by omega)
        have hneg2 : ¬ (d : Int) < 0 := by omega
        clear hz hneg
        go_wp2_with fail
        refine ⟨⟨i + 1, 0, digB d :: R, by omega, by go_num, rfl, congrArg Value.string HC.out, ?_, hb3.alloc hb3.size _⟩, by simp [intOf]; omega⟩
        exact miInv_next HI.out hd9 (by decide) (by rw [← HPQ.out.1, ← HPQ.out.2]; exact HZ.out)
    · have hi2 : i = s.size := by omega
      have hv := miInv_end HI.out (by rw [hi2]; exact HX.out.1) HX.out.2
      have hA := HB.out R HI.out.1 (by rw [HI.out.2.1]; unfold maxLen; omega)
      rw [hv] at hA
      have HA := Lib.hid hA
      clear hA hv
      go_wp2_with fail
      refine (HA.out _).mono ?_
      rintro e w3 ⟨rfl, rfl⟩
      go_wp2_with fail
      go_ret
      exact ⟨rfl, hb⟩
theorem dec_add_len {x y k : Nat} (hk : 0 < k) (hx : (Lib.decDigits x).length ≤ k) (hy : (Lib.decDigits y).length ≤ k) : (Lib.decDigits (x + y)).length ≤ k + 1 := by
  refine (decDigits_len_le (by omega)).2 ?_
  have h1 := (decDigits_len_le hk).1 hx
  have h2 := (decDigits_len_le hk).1 hy
  rw [Nat.pow_succ]
  generalize 10 ^ k = t at *
  omega
theorem dec_le_len {x y : Nat} (h : x ≤ y) {k : Nat} (hk : 0 < k) (hy : (Lib.decDigits y).length ≤ k) : (Lib.decDigits x).length ≤ k := (decDigits_len_le hk).2 (Nat.lt_of_le_of_lt h ((decDigits_len_le hk).1 hy))
def Figs (k : Nat) (x : Int) : Prop := (Lib.decDigits x.natAbs).length ≤ k
theorem itoa_len (x : Int) : (Lib.itoa x).length ≤ (Lib.decDigits x.natAbs).length + 1 := by
  rcases Int.lt_or_le x 0 with h | h
  · rw [itoa_neg h]; simp
  · rw [itoa_pos h]; omega
theorem itoa_head (x : Int) : decide ((Lib.itoa x).head? = some 45) = decide (x < 0) := by
  rcases Int.lt_or_le x 0 with h | h
  · rw [itoa_neg h]; simp [h]
  · rw [itoa_pos h, decide_eq_false (dec_head _), decide_eq_false (by omega)]
theorem rlow_S (x : Int) (w : World) : Calls Tryz.prog 75 #[.string (S x)] w fun e w' => e = .returned (.bool (decide (x < 0))) ∧ w = w' := rlow_any (S x) _ (itoa_head x) w
theorem rsize_S (x : Int) (hx : Figs 4000 x) (w : World) : Calls Tryz.prog 74 #[.string (S x)] w fun e w' => e = .returned (.string (B (Lib.decDigits x.natAbs))) ∧ w = w' := by
  have h := rsize_any (Lib.itoa x) (by have := itoa_len x; unfold Figs at hx; unfold maxLen; omega) w
  rw [figs_itoa] at h
  exact h
theorem rsigned_D (n : Nat) (hn : (Lib.decDigits n).length ≤ 4000) (b : Bool) (w : World) : Calls Tryz.prog 93 #[.string (B (Lib.decDigits n)), .bool b] w (SignedPost (sgn b n) w) := by
  have h := rsigned_any (Lib.decDigits n) (decDigits_dig n) (by unfold maxLen; omega) (by rw [dval_decDigits]; omega) b w
  rwa [dval_decDigits] at h
set_option maxRecDepth 10000 in
set_option maxHeartbeats 1600000 in
theorem rturned_any (x : Int) (hx : Figs 4000 x) (w : World) : Calls Tryz.prog 84 #[.string (S x)] w (SignedPost (-x) w) := by
  have h1 := rsize_S x hx
  have h2 := rlow_S x
  have h3 := rsigned_D x.natAbs hx (!decide (x < 0))
  have hv : sgn (!decide (x < 0)) x.natAbs = -x := by
    by_cases h : x < 0
    · rw [decide_eq_true h]; show (x.natAbs : Int) = -x; omega
    · rw [decide_eq_false h]; show -(x.natAbs : Int) = -x; omega
  rw [hv] at h3
  have H1 := Lib.hid h1
  have H2 := Lib.hid h2
  have H3 := Lib.hid h3
  clear h1 h2 h3 hv hx
  generalize S x = s at *
  generalize B (Lib.decDigits x.natAbs) = t at *
  generalize decide (x < 0) = b at *
  go_enter Tryz.func84, Tryz.ntmps84
  go_wp2_with fail
  refine (H1.out _).mono ?_
  rintro e w1 ⟨rfl, rfl⟩
  go_wp2_with fail
  refine (H2.out _).mono ?_
  rintro e w1 ⟨rfl, rfl⟩
  go_wp2_with fail
  refine (H3.out _).mono ?_
  rintro e w1 ⟨rfl, rfl⟩
  go_wp2_with fail
  go_ret
  exact ⟨rfl, rfl⟩
theorem cmpN_ge {x y : Nat} (h : y ≤ x) : ¬ cmpN x y < 0 := by unfold cmpN; split <;> (try split) <;> omega
set_option maxRecDepth 10000 in
set_option maxHeartbeats 1600000 in
theorem rsum_any (x y : Int) (hx : Figs 3999 x) (hy : Figs 3999 y) (w : World) : Calls Tryz.prog 83 #[.string (S x), .string (S y)] w (StrEnd (S (x + y)) w) := by
  unfold Figs at hx hy
  have h1 := rlow_S x
  have h2 := rlow_S y
  have h3 := rsize_S x (by unfold Figs; omega)
  have h4 := rsize_S y (by unfold Figs; omega)
  have H1 := Lib.hid h1
  have H2 := Lib.hid h2
  have H3 := Lib.hid h3
  have H4 := Lib.hid h4
  clear h1 h2 h3 h4
  by_cases hs : decide (x < 0) = decide (y < 0)
  · have h5 := rplus_any x.natAbs y.natAbs (by omega) (by omega)
    have h6 := rsigned_D (x.natAbs + y.natAbs) (dec_add_len (by decide) hx hy) (decide (x < 0))
    have hv : sgn (decide (x < 0)) (x.natAbs + y.natAbs) = x + y := by
      by_cases h : x < 0
      · have h' : y < 0 := of_decide_eq_true (by rw [← hs]; exact decide_eq_true h)
        rw [decide_eq_true h]; show -((x.natAbs + y.natAbs : Nat) : Int) = x + y; omega
      · have h' : ¬ y < 0 := of_decide_eq_false (by rw [← hs]; exact decide_eq_false h)
        rw [decide_eq_false h]; show ((x.natAbs + y.natAbs : Nat) : Int) = x + y; omega
    rw [hv] at h6
    have H5 := Lib.hid h5
    have H6 := Lib.hid h6
    have e0 : (decide (x < 0) == decide (y < 0)) = true := by rw [hs]; simp
    clear h5 h6 hv hx hy hs
    generalize S x = s at *
    generalize S y = t at *
    generalize B (Lib.decDigits x.natAbs) = s1 at *
    generalize B (Lib.decDigits y.natAbs) = t1 at *
    generalize decide (x < 0) = b at *
    generalize decide (y < 0) = c at *
    go_enter Tryz.func83, Tryz.ntmps83
    go_wp2_with fail
    refine (H1.out _).mono ?_
    rintro e w1 ⟨rfl, rfl⟩
    go_wp2_with fail
    refine (H2.out _).mono ?_
    rintro e w1 ⟨rfl, rfl⟩
    go_wp2_with fail
    refine (H3.out _).mono ?_
    rintro e w1 ⟨rfl, rfl⟩
    go_wp2_with fail
    refine (H4.out _).mono ?_
    rintro e w1 ⟨rfl, rfl⟩
    go_wp2_with fail
    refine (H5.out _).mono ?_
    rintro e w1 ⟨rfl, hb⟩
    go_wp2_with fail
    refine (H1.out _).mono ?_
    rintro e w1 ⟨rfl, rfl⟩
    go_wp2_with fail
    refine (H6.out _).mono ?_
    rintro e w1 ⟨rfl, rfl⟩
    go_wp2_with fail
    go_ret
    exact ⟨rfl, hb⟩
  · by_cases hle : y.natAbs ≤ x.natAbs
    · have h5 := rminus_any x.natAbs y.natAbs (by omega) (by omega) (by omega)
      have h6 := rsigned_D (x.natAbs - y.natAbs) (dec_le_len (y := x.natAbs) (by omega) (by decide) (by omega)) (decide (x < 0))
      have h7 := rmore_any x.natAbs y.natAbs (by omega) (by omega)
      have hv : sgn (decide (x < 0)) (x.natAbs - y.natAbs) = x + y := by
        by_cases h : x < 0
        · have h' : ¬ y < 0 := fun h2 => hs ((decide_eq_true (p := x < 0) (by omega)).trans (decide_eq_true (p := y < 0) (by omega)).symm)
          rw [decide_eq_true h]; show -((x.natAbs - y.natAbs : Nat) : Int) = x + y; omega
        · have h' : y < 0 := by
            rcases Int.lt_or_le y 0 with h2 | h2
            · exact h2
            · exact absurd ((decide_eq_false (p := x < 0) (by omega)).trans (decide_eq_false (p := y < 0) (by omega)).symm) hs
          rw [decide_eq_false h]; show ((x.natAbs - y.natAbs : Nat) : Int) = x + y; omega
      rw [hv] at h6
      have hzz : ¬ cmpN x.natAbs y.natAbs < 0 := cmpN_ge hle
      have H5 := Lib.hid h5
      have H6 := Lib.hid h6
      have H7 := Lib.hid h7
      have e0 : (decide (x < 0) == decide (y < 0)) = false := beq_eq_false_iff_ne.2 hs
      clear h5 h6 h7 hv hx hy hs hle
      generalize S x = s at *
      generalize S y = t at *
      generalize B (Lib.decDigits x.natAbs) = s1 at *
      generalize B (Lib.decDigits y.natAbs) = t1 at *
      generalize decide (x < 0) = b at *
      generalize decide (y < 0) = c at *
      generalize hz : cmpN x.natAbs y.natAbs = z at *
      go_enter Tryz.func83, Tryz.ntmps83
      go_wp2_with fail
      refine (H1.out _).mono ?_
      rintro e w1 ⟨rfl, rfl⟩
      go_wp2_with fail
      refine (H2.out _).mono ?_
      rintro e w1 ⟨rfl, rfl⟩
      go_wp2_with fail
      refine (H3.out _).mono ?_
      rintro e w1 ⟨rfl, rfl⟩
      go_wp2_with fail
      refine (H4.out _).mono ?_
      rintro e w1 ⟨rfl, rfl⟩
      go_wp2_with fail
      refine (H7.out _).mono ?_
      rintro e w2 ⟨rfl, hd⟩
      have hb1 : Below w.heap.size w w2 := hd.below
      clear hd
      go_wp2_with fail
      refine (H3.out _).mono ?_
      rintro e w1 ⟨rfl, rfl⟩
      go_wp2_with fail
      refine (H4.out _).mono ?_
      rintro e w1 ⟨rfl, rfl⟩
      go_wp2_with fail
      refine (H5.out _).mono ?_
      rintro e w3 ⟨rfl, hb⟩
      have hb3 := hb1.trans (hb.mono hb1.size)
      go_wp2_with fail
      refine (H1.out _).mono ?_
      rintro e w1 ⟨rfl, rfl⟩
      go_wp2_with fail
      refine (H6.out _).mono ?_
      rintro e w1 ⟨rfl, rfl⟩
      go_wp2_with fail
      go_ret
      exact ⟨rfl, hb3⟩
    · have h5 := rminus_any y.natAbs x.natAbs (by omega) (by omega) (by omega)
      have h6 := rsigned_D (y.natAbs - x.natAbs) (dec_le_len (y := y.natAbs) (by omega) (by decide) (by omega)) (decide (y < 0))
      have h7 := rmore_any x.natAbs y.natAbs (by omega) (by omega)
      have hv : sgn (decide (y < 0)) (y.natAbs - x.natAbs) = x + y := by
        by_cases h : y < 0
        · have h' : ¬ x < 0 := fun h2 => hs ((decide_eq_true (p := x < 0) (by omega)).trans (decide_eq_true (p := y < 0) (by omega)).symm)
          rw [decide_eq_true h]; show -((y.natAbs - x.natAbs : Nat) : Int) = x + y; omega
        · have h' : x < 0 := by
            rcases Int.lt_or_le x 0 with h2 | h2
            · exact h2
            · exact absurd ((decide_eq_false (p := x < 0) (by omega)).trans (decide_eq_false (p := y < 0) (by omega)).symm) hs
          rw [decide_eq_false h]; show ((y.natAbs - x.natAbs : Nat) : Int) = x + y; omega
      rw [hv] at h6
      have hzz : cmpN x.natAbs y.natAbs < 0 := by rw [cmpN_of_lt (by omega)]; decide
      have H5 := Lib.hid h5
      have H6 := Lib.hid h6
      have H7 := Lib.hid h7
      have e0 : (decide (x < 0) == decide (y < 0)) = false := beq_eq_false_iff_ne.2 hs
      clear h5 h6 h7 hv hx hy hs hle
      generalize S x = s at *
      generalize S y = t at *
      generalize B (Lib.decDigits x.natAbs) = s1 at *
      generalize B (Lib.decDigits y.natAbs) = t1 at *
      generalize decide (x < 0) = b at *
      generalize decide (y < 0) = c at *
      generalize hz : cmpN x.natAbs y.natAbs = z at *
      go_enter Tryz.func83, Tryz.ntmps83
      go_wp2_with fail
      refine (H1.out _).mono ?_
      rintro e w1 ⟨rfl, rfl⟩
      go_wp2_with fail
      refine (H2.out _).mono ?_
      rintro e w1 ⟨rfl, rfl⟩
      go_wp2_with fail
      refine (H3.out _).mono ?_
      rintro e w1 ⟨rfl, rfl⟩
      go_wp2_with fail
      refine (H4.out _).mono ?_
      rintro e w1 ⟨rfl, rfl⟩
      go_wp2_with fail
      refine (H7.out _).mono ?_
      rintro e w2 ⟨rfl, hd⟩
      have hb1 : Below w.heap.size w w2 := hd.below
      clear hd
      go_wp2_with fail
      refine (H4.out _).mono ?_
      rintro e w1 ⟨rfl, rfl⟩
      go_wp2_with fail
      refine (H3.out _).mono ?_
      rintro e w1 ⟨rfl, rfl⟩
      go_wp2_with fail
      refine (H5.out _).mono ?_
      rintro e w3 ⟨rfl, hb⟩
      have hb3 := hb1.trans (hb.mono hb1.size)
      go_wp2_with fail
      refine (H2.out _).mono ?_
      rintro e w1 ⟨rfl, rfl⟩
      go_wp2_with fail
      refine (H6.out _).mono ?_
      rintro e w1 ⟨rfl, rfl⟩
      go_wp2_with fail
      go_ret
      exact ⟨rfl, hb3⟩
end
section
open Go.RowKit
def RMayIs (a : ByteArray) (v : Bool) : Prop := ∀ w, Calls Tryz.prog 59 #[.string a] w (MayPost v w)
theorem mayL_short {l : List UInt8} (h : (figs l).length < 1 ∨ 100 < (figs l).length) : mayL l = false := by
  unfold mayL
  rcases h with h | h
  · rw [decide_eq_false (by omega)]; rfl
  · rw [decide_eq_false (p := (figs l).length ≤ 100) (by omega)]; simp
theorem mayL_zero {l : List UInt8} (h : (figs l).head? = some 48) (hl : l ≠ [48]) : mayL l = false := by
  unfold mayL
  rw [h, decide_eq_false hl]; simp
theorem mayL_bad {l : List UInt8} (h : AllDigB (figs l) = false) : mayL l = false := by
  unfold mayL
  rw [h]; simp
theorem mayL_good {l : List UInt8} (h1 : 1 ≤ (figs l).length) (h2 : (figs l).length ≤ 100) (h3 : AllDigB (figs l) = true) (h4 : (figs l).head? ≠ some 48) : mayL l = true := by
  unfold mayL
  rw [decide_eq_true h1, decide_eq_true h2, h3, decide_eq_true h4]; rfl
theorem drop_head {l : List UInt8} {a : Nat} (h : a < l.length) : (l.drop a).head? = some l[a] := by simp [List.head?_drop, h]
theorem allB_true {l : List UInt8} (h : ∀ (k : Nat) (hk : k < l.length), 48 ≤ (l[k]).toNat ∧ (l[k]).toNat ≤ 57) : AllDigB l = true := allDigB.2 fun c hc => by
  obtain ⟨k, hk, rfl⟩ := List.getElem_of_mem hc
  exact h k hk
theorem allB_false {l : List UInt8} {k : Nat} (hk : k < l.length) (h : ¬ (48 ≤ (l[k]).toNat ∧ (l[k]).toNat ≤ 57)) : AllDigB l = false := by
  rw [Bool.eq_false_iff]
  intro h2
  exact h (allDigB.1 h2 _ (List.getElem_mem hk))
def UpTo (s : ByteArray) (a i : Nat) : Prop := ∀ (k : Nat) (hk : k < s.size), a ≤ k → k < i → 48 ≤ (s[k]).toNat ∧ (s[k]).toNat ≤ 57
theorem may_upto {s : ByteArray} {a : Nat} (hf : figs s.data.toList = s.data.toList.drop a) (h1 : a < s.size) (h2 : s.size - a ≤ 100) (h3 : (s[a]).toNat ≠ 48) (hu : UpTo s a s.size) : mayL s.data.toList = true := by
  have hl : s.data.toList.length = s.size := by simp
  refine mayL_good (by rw [hf]; simp; omega) (by rw [hf]; simp; omega) ?_ ?_
  · rw [hf]
    refine allB_true fun k hk => ?_
    rw [List.length_drop, hl] at hk
    have := hu (a + k) (by omega) (by omega) (by omega)
    simp only [List.getElem_drop]
    exact this
  · rw [hf, drop_head (by omega)]
    intro h
    have : s[a] = 48 := Option.some.inj h
    exact h3 (by rw [this]; rfl)
theorem may_at48 {s : ByteArray} {a : Nat} (hf : figs s.data.toList = s.data.toList.drop a) (h1 : a < s.size) (h3 : (s[a]).toNat = 48) (hz : s.data.toList ≠ [48]) : mayL s.data.toList = false := by
  have hl : s.data.toList.length = s.size := by simp
  refine mayL_zero ?_ hz
  rw [hf, drop_head (by omega)]
  have : s[a] = 48 := UInt8.toNat_inj.1 h3
  exact congrArg some this
theorem may_bad {s : ByteArray} {a k : Nat} (hf : figs s.data.toList = s.data.toList.drop a) (h1 : a ≤ k) (hk : k < s.size) (h3 : ¬ (48 ≤ (s[k]).toNat ∧ (s[k]).toNat ≤ 57)) : mayL s.data.toList = false := by
  have hl : s.data.toList.length = s.size := by simp
  refine mayL_bad ?_
  rw [hf]
  refine allB_false (k := k - a) (by rw [List.length_drop, hl]; omega) ?_
  have e : a + (k - a) = k := by omega
  simp only [List.getElem_drop, e]
  exact h3
theorem may_len {s : ByteArray} {a : Nat} (hf : figs s.data.toList = s.data.toList.drop a) (h : s.size - a < 1 ∨ 100 < s.size - a) : mayL s.data.toList = false := by
  refine mayL_short ?_
  rw [hf, List.length_drop, show s.data.toList.length = s.size by simp]
  exact h
set_option maxRecDepth 10000 in
set_option maxHeartbeats 3200000 in
theorem rMay_any (s : ByteArray) (hs : s.size ≤ maxLen) : RMayIs s (mayL s.data.toList) := by
  intro w
  unfold maxLen at hs
  by_cases hz : s.data.toList = [48]
  · have e0 : (s.toList == [48]) = true := by rw [str_tl, hz]; rfl
    have hm := Lib.hid (show mayL s.data.toList = true by rw [hz]; decide)
    clear hz
    go_enter Tryz.func59, Tryz.ntmps59
    go_wp2_with fail
    go_ret
    exact ⟨ret_bool hm.out.symm, rfl⟩
  have e0 : (s.toList == [48]) = false := by rw [str_tl]; exact beq_eq_false_iff_ne.2 hz
  by_cases he : s.size = 0
  · have hn : s.data.toList = [] := List.eq_nil_of_length_eq_zero (by simpa using he)
    have e1 : s.toList.isEmpty = true := by rw [str_tl, hn]; rfl
    have hm := Lib.hid (show mayL s.data.toList = false by rw [hn]; decide)
    clear hz hn
    go_enter Tryz.func59, Tryz.ntmps59
    go_wp2_with fail
    go_ret
    exact ⟨ret_bool hm.out.symm, rfl⟩
  have hp0 : 0 < s.size := by omega
  have hh := head_get hp0
  have e1 : s.toList.isEmpty = false := by
    rw [str_tl]
    cases hl : s.data.toList with
    | nil => rw [hl] at hh; cases hh
    | cons a r => rfl
  by_cases h5 : (s[0]).toNat = 45
  · have e2 : (((s[0]).toNat : Int) == 45) = true := by rw [h5]; rfl
    have hf : figs s.data.toList = s.data.toList.drop 1 := by
      cases hl : s.data.toList with
      | nil => rw [hl] at hh; cases hh
      | cons c r =>
        rw [hl] at hh
        have : c = 45 := by
          have h6 : c = s[0] := by simpa using hh
          rw [h6]; exact UInt8.toNat_inj.1 h5
        rw [this, figs_neg]; rfl
    clear hh h5
    by_cases t1 : s.size < 1 + 1
    · have hm := Lib.hid (may_len hf (.inl (by omega)))
      have t1' : (s.size : Int) - 1 < 1 := by omega
      clear hf hz
      go_enter Tryz.func59, Tryz.ntmps59
      go_wp2_with fail
      go_ret
      exact ⟨ret_bool hm.out.symm, rfl⟩
    by_cases t2 : 100 < s.size - 1
    · have hm := Lib.hid (may_len hf (.inr t2))
      have t1' : ¬ (s.size : Int) - 1 < 1 := by omega
      have t2' : (100 : Int) < (s.size : Int) - 1 := by omega
      clear hf hz
      go_enter Tryz.func59, Tryz.ntmps59
      go_wp2_with fail
      go_ret
      exact ⟨ret_bool hm.out.symm, rfl⟩
    have hp : 1 < s.size := by omega
    have t1' : ¬ (s.size : Int) - 1 < 1 := by omega
    have t2' : ¬ (100 : Int) < (s.size : Int) - 1 := by omega
    have t5 : s.size ≤ 101 := by omega
    by_cases t3 : (s[1]).toNat = 48
    · have hm := Lib.hid (may_at48 hf hp t3 hz)
      have t3' : (((s[1]).toNat : Int) == 48) = true := by rw [t3]; rfl
      clear hf hz t3
      go_enter Tryz.func59, Tryz.ntmps59
      go_wp2_with fail
      go_ret
      exact ⟨ret_bool hm.out.symm, rfl⟩
    have t3' : (((s[1]).toNat : Int) == 48) = false := beq_eq_false_iff_ne.2 (by omega)
    have HF := Lib.hid (And.intro hf t3)
    clear hf t3 hz
    go_enter Tryz.func59, Tryz.ntmps59
    go_wp2_with fail
    go_loop [4] (fun i => ∃ k : Nat, 1 ≤ k ∧ k ≤ s.size ∧ i = .int .i64 k ∧ UpTo s 1 k) (fun i => s.size - (intOf i).toNat)
    case atStart => exact ⟨1, Nat.le_refl _, by omega, rfl, fun k _ h1 h2 => by omega⟩
    case round =>
      obtain ⟨k, hk0, hk, rfl, hu⟩ := hrel
      have HU := Lib.hid hu
      clear hu
      by_cases hlt : k < s.size
      · by_cases c1 : (s[k]).toNat < 48
        · have hm := Lib.hid (may_bad HF.out.1 hk0 hlt (by omega))
          go_wp2_with fail
          go_ret
          exact ⟨ret_bool hm.out.symm, rfl⟩
        · by_cases c2 : 57 < (s[k]).toNat
          · have hm := Lib.hid (may_bad HF.out.1 hk0 hlt (by omega))
            go_wp2_with fail
            go_ret
            exact ⟨ret_bool hm.out.symm, rfl⟩
          · go_wp2_with fail
            go_round
            case rel =>
              refine ⟨k + 1, by omega, by omega, by go_num, fun j hj h1 h2 => ?_⟩
              by_cases hjk : j = k
              · subst hjk; omega
              · exact HU.out j hj h1 (by omega)
            case measure => simp [intOf]; omega
      · have hke : k = s.size := by omega
        have hm := Lib.hid (may_upto HF.out.1 hp (by omega) HF.out.2 (by rw [← hke]; exact HU.out))
        go_wp2_with fail
        go_ret
        exact ⟨ret_bool hm.out.symm, rfl⟩
  · have e2 : (((s[0]).toNat : Int) == 45) = false := beq_eq_false_iff_ne.2 (by omega)
    have hf : figs s.data.toList = s.data.toList.drop 0 := by
      rw [List.drop_zero]
      refine figs_pos ?_
      rw [hh]
      intro h
      have : s[0] = 45 := by simpa using h
      exact h5 (by rw [this]; rfl)
    clear hh h5
    have t1 : ¬ s.size < 0 + 1 := by omega
    by_cases t2 : 100 < s.size - 0
    · have hm := Lib.hid (may_len hf (.inr t2))
      have t1' : ¬ (s.size : Int) - 0 < 1 := by omega
      have t2' : (100 : Int) < (s.size : Int) - 0 := by omega
      clear hf hz
      go_enter Tryz.func59, Tryz.ntmps59
      go_wp2_with fail
      go_ret
      exact ⟨ret_bool hm.out.symm, rfl⟩
    have hp : 0 < s.size := by omega
    have t1' : ¬ (s.size : Int) - 0 < 1 := by omega
    have t2' : ¬ (100 : Int) < (s.size : Int) - 0 := by omega
    have t5 : s.size ≤ 101 := by omega
    by_cases t3 : (s[0]).toNat = 48
    · have hm := Lib.hid (may_at48 hf hp t3 hz)
      have t3' : (((s[0]).toNat : Int) == 48) = true := by rw [t3]; rfl
      clear hf hz t3
      go_enter Tryz.func59, Tryz.ntmps59
      go_wp2_with fail
      go_ret
      exact ⟨ret_bool hm.out.symm, rfl⟩
    have t3' : (((s[0]).toNat : Int) == 48) = false := beq_eq_false_iff_ne.2 (by omega)
    have HF := Lib.hid (And.intro hf t3)
    clear hf t3 hz
    go_enter Tryz.func59, Tryz.ntmps59
    go_wp2_with fail
    go_loop [4] (fun i => ∃ k : Nat, 0 ≤ k ∧ k ≤ s.size ∧ i = .int .i64 k ∧ UpTo s 0 k) (fun i => s.size - (intOf i).toNat)
    case atStart => exact ⟨0, Nat.le_refl _, by omega, rfl, fun k _ h1 h2 => by omega⟩
    case round =>
      obtain ⟨k, hk0, hk, rfl, hu⟩ := hrel
      have HU := Lib.hid hu
      clear hu
      by_cases hlt : k < s.size
      · by_cases c1 : (s[k]).toNat < 48
        · have hm := Lib.hid (may_bad HF.out.1 hk0 hlt (by omega))
          go_wp2_with fail
          go_ret
          exact ⟨ret_bool hm.out.symm, rfl⟩
        · by_cases c2 : 57 < (s[k]).toNat
          · have hm := Lib.hid (may_bad HF.out.1 hk0 hlt (by omega))
            go_wp2_with fail
            go_ret
            exact ⟨ret_bool hm.out.symm, rfl⟩
          · go_wp2_with fail
            go_round
            case rel =>
              refine ⟨k + 1, by omega, by omega, by go_num, fun j hj h1 h2 => ?_⟩
              by_cases hjk : j = k
              · subst hjk; omega
              · exact HU.out j hj h1 (by omega)
            case measure => simp [intOf]; omega
      · have hke : k = s.size := by omega
        have hm := Lib.hid (may_upto HF.out.1 hp (by omega) HF.out.2 (by rw [← hke]; exact HU.out))
        go_wp2_with fail
        go_ret
        exact ⟨ret_bool hm.out.symm, rfl⟩
theorem dval_take_succ {l : List UInt8} {i : Nat} (h : i < l.length) : dval (l.take (i + 1)) = dval (l.take i) * 10 + ((l[i]).toNat - 48) := by
  rw [List.take_succ_eq_append_getElem h, dval_snoc]
theorem dval_take_le (l : List UInt8) (i : Nat) : dval (l.take i) ≤ dval l := by
  have h : dval l = dval (l.take i ++ l.drop i) := by rw [List.take_append_drop]
  rw [h, dval_append]
  exact Nat.le_trans (Nat.le_mul_of_pos_right _ (Nat.pow_pos (by decide))) (Nat.le_add_right _ _)
theorem rMay_is {s : ByteArray} {o : Option Int} (h : Is s o) : RMayIs s o.isSome := by
  rw [← h.may]; exact rMay_any s h.size
end
section
open Go.RowKit
theorem S_zero_list (x : Int) : ((S x).toList == [48]) = decide (x = 0) := by
  rw [str_tl, S_toList, Bool.eq_iff_iff, beq_iff_eq, decide_eq_true_eq]
  have e : Lib.itoa 0 = [48] := by rw [itoa_pos (by omega)]; exact decDigits_small (n := 0) (by decide)
  rw [← e]
  exact ⟨fun h => itoa_inj h, fun h => by rw [h]⟩
theorem rMay_S {x : Int} (h : x.natAbs < lim) : RMayIs (S x) true := by
  have h1 := rMay_any (S x) (Nat.le_trans (S_size h) (by decide))
  rwa [S_toList, (mayL_itoa x).2 h] at h1
def RSignIs (s : ByteArray) (z : Int) : Prop := ∀ w, Calls Tryz.prog 81 #[.string s] w fun e w' => e = .returned (.int .i64 z) ∧ w = w'
set_option maxRecDepth 10000 in
theorem rsign_S {x : Int} (h : x.natAbs < lim) : RSignIs (S x) x.sign := by
  intro w
  have KM := Lib.hid (rMay_S h)
  have hz := S_zero_list x
  have hl := rlow_S x
  rcases Int.lt_trichotomy x 0 with h0 | rfl | h0
  · rw [Int.sign_eq_neg_one_of_neg h0]
    rw [decide_eq_false (by omega)] at hz
    rw [decide_eq_true h0] at hl
    have KL := Lib.hid hl
    generalize S x = s at *
    clear hl
    go_enter Tryz.func81, Tryz.ntmps81
    go_wp2_with fail
    refine (KM.out _).mono ?_
    rintro e w1 ⟨rfl, rfl⟩
    go_wp2_with fail
    refine (KL.out _).mono ?_
    rintro e w1 ⟨rfl, rfl⟩
    go_wp2_with fail
    go_ret
    exact ⟨rfl, rfl⟩
  · rw [decide_eq_true rfl] at hz
    rw [Int.sign_zero]
    generalize S 0 = s at *
    clear hl
    go_enter Tryz.func81, Tryz.ntmps81
    go_wp2_with fail
    refine (KM.out _).mono ?_
    rintro e w1 ⟨rfl, rfl⟩
    go_wp2_with fail
    go_ret
    exact ⟨rfl, rfl⟩
  · rw [Int.sign_eq_one_of_pos h0]
    rw [decide_eq_false (by omega)] at hz
    rw [decide_eq_false (by omega)] at hl
    have KL := Lib.hid hl
    generalize S x = s at *
    clear hl
    go_enter Tryz.func81, Tryz.ntmps81
    go_wp2_with fail
    refine (KM.out _).mono ?_
    rintro e w1 ⟨rfl, rfl⟩
    go_wp2_with fail
    refine (KL.out _).mono ?_
    rintro e w1 ⟨rfl, rfl⟩
    go_wp2_with fail
    go_ret
    exact ⟨rfl, rfl⟩
theorem figs_lim {x : Int} (h : x.natAbs < lim) : Figs 100 x := (digs_lim _).2 h
theorem Figs.up {x : Int} {k m : Nat} (h : Figs k x) (hk : k ≤ m) : Figs m x := Nat.le_trans h hk
def bnd (z : Int) : Int := if z.natAbs < lim then z else z.sign
theorem bnd_lim (z : Int) : (bnd z).natAbs < lim := by
  have hL := lim_big
  unfold bnd
  split
  · assumption
  · rcases Int.lt_trichotomy z 0 with h | rfl | h
    · rw [Int.sign_eq_neg_one_of_neg h]; omega
    · rw [Int.sign_zero]; omega
    · rw [Int.sign_eq_one_of_pos h]; omega
theorem bnd_sign (z : Int) : (bnd z).sign = z.sign := by
  unfold bnd
  split
  · rfl
  · rw [Int.sign_sign]
theorem B_one : B (Lib.decDigits 1) = ⟨#[49]⟩ := by rw [decDigits_small (n := 1) (by decide)]; rfl
set_option maxRecDepth 10000 in
theorem rbounded_any (z : Int) (hz : Figs 4000 z) (w : World) : Calls Tryz.prog 82 #[.string (S z)] w fun e w' => e = .returned (.string (S (bnd z))) ∧ w = w' := by
  have KS := Lib.hid (rsize_S z hz)
  have KL := Lib.hid (rlow_S z)
  have hs := B_size (Lib.decDigits z.natAbs)
  by_cases h : z.natAbs < lim
  · have hlen : ¬ (100 : Int) < ((B (Lib.decDigits z.natAbs)).size : Int) := by have := (digs_lim _).2 h; omega
    have e0 := Lib.hid (show S (bnd z) = S z by unfold bnd; rw [if_pos h])
    generalize B (Lib.decDigits z.natAbs) = f at *
    generalize S z = s at *
    clear hs
    go_enter Tryz.func82, Tryz.ntmps82
    go_wp2_with fail
    refine (KS.out _).mono ?_
    rintro e w1 ⟨rfl, rfl⟩
    go_wp2_with fail
    go_ret
    exact ⟨by rw [e0.out]; rfl, rfl⟩
  · have hlen : (100 : Int) < ((B (Lib.decDigits z.natAbs)).size : Int) := by
      have : ¬ (Lib.decDigits z.natAbs).length ≤ 100 := fun h2 => h ((digs_lim _).1 h2)
      omega
    have h1 : (Lib.decDigits 1).length ≤ 4000 := by rw [decDigits_small (n := 1) (by decide)]; decide
    have hg := rsigned_D 1 h1 (decide (z < 0))
    have e1 : sgn (decide (z < 0)) 1 = bnd z := by
      unfold bnd sgn
      rw [if_neg h]
      rcases Int.lt_trichotomy z 0 with h0 | rfl | h0
      · rw [Int.sign_eq_neg_one_of_neg h0, if_pos (decide_eq_true h0)]; rfl
      · exact absurd (by have := lim_big; show (0 : Int).natAbs < lim; omega) h
      · rw [Int.sign_eq_one_of_pos h0, if_neg (by rw [decide_eq_true_iff]; omega)]; rfl
    rw [e1, B_one] at hg
    unfold SignedPost at hg
    have KG := Lib.hid hg
    generalize B (Lib.decDigits z.natAbs) = f at *
    generalize S z = s at *
    generalize decide (z < 0) = b at *
    generalize S (bnd z) = r at *
    clear hs hg h
    go_enter Tryz.func82, Tryz.ntmps82
    go_wp2_with fail
    refine (KS.out _).mono ?_
    rintro e w1 ⟨rfl, rfl⟩
    go_wp2_with fail
    refine (KL.out _).mono ?_
    rintro e w1 ⟨rfl, rfl⟩
    go_wp2_with fail
    refine (KG.out _).mono ?_
    rintro e w1 ⟨rfl, rfl⟩
    go_wp2_with fail
    go_ret
    exact ⟨rfl, rfl⟩
def RCmpIs (s t : ByteArray) (z : Int) : Prop := ∀ w, Calls Tryz.prog 72 #[.string s, .string t] w (RIntEnd z w)
set_option maxRecDepth 10000 in
theorem rcmp_S {x y : Int} (hx : x.natAbs < lim) (hy : y.natAbs < lim) : RCmpIs (S x) (S y) (x - y).sign := by
  intro w
  have KM := Lib.hid (rMay_S hx)
  have KM2 := Lib.hid (rMay_S hy)
  have ht := rturned_any y ((figs_lim hy).up (by decide))
  unfold SignedPost at ht
  have KT := Lib.hid ht
  clear ht
  have fs : Figs 4000 (x + -y) := by
    have h3 := dec_add_len (k := 100) (by decide) (figs_lim hx) (figs_lim hy)
    have h4 := dec_le_len (show (x + -y).natAbs ≤ x.natAbs + y.natAbs by omega) (by decide) h3
    exact Nat.le_trans h4 (by decide)
  have hu := rsum_any x (-y) ((figs_lim hx).up (by decide)) (by unfold Figs; rw [Int.natAbs_neg]; exact (figs_lim hy).up (by decide))
  unfold StrEnd at hu
  have KU := Lib.hid hu
  clear hu
  have KB := Lib.hid (rbounded_any (x + -y) fs)
  have hs := rsign_S (bnd_lim (x + -y))
  rw [bnd_sign, show x + -y = x - y by omega] at hs
  rw [show x + -y = x - y by omega] at KB KU
  have KS := Lib.hid hs
  generalize S x = s at *
  generalize S y = t at *
  generalize S (-y) = t' at *
  generalize S (x - y) = u at *
  generalize S (bnd (x - y)) = v at *
  clear hs hx hy fs
  go_enter Tryz.func72, Tryz.ntmps72
  go_wp2_with fail
  refine (KM.out _).mono ?_
  rintro e w1 ⟨rfl, rfl⟩
  go_wp2_with fail
  refine (KM2.out _).mono ?_
  rintro e w1 ⟨rfl, rfl⟩
  go_wp2_with fail
  refine (KT.out _).mono ?_
  rintro e w1 ⟨rfl, rfl⟩
  go_wp2_with fail
  refine (KU.out _).mono ?_
  rintro e w1 ⟨rfl, hb⟩
  go_wp2_with fail
  refine (KB.out _).mono ?_
  rintro e w2 ⟨rfl, rfl⟩
  go_wp2_with fail
  refine (KS.out _).mono ?_
  rintro e w2 ⟨rfl, rfl⟩
  go_wp2_with fail
  go_ret
  exact ⟨rfl, hb⟩
end
section
open Go.RowKit
theorem S_neg1 {x : Int} (h : x < 0) (h2 : -10 < x) : S x = ⟨#[45]⟩ ++ B [digB x.natAbs] := by
  apply ba_ext
  rw [S_toList, itoa_neg h, decDigits_small (by omega), ByteArray.data_append, Array.toList_append, B_list]
  rfl
theorem S_pos1 {x : Int} (h : 0 ≤ x) (h2 : x < 10) : S x = B [digB x.natAbs] := by
  apply ba_ext
  rw [S_toList, itoa_pos h, decDigits_small (by omega), B_list]
  rfl
theorem tdiv_low {x : Int} (h : x ≤ 0) : x.tdiv 10 = -((x.natAbs / 10 : Nat) : Int) ∧ x.tmod 10 = -((x.natAbs % 10 : Nat) : Int) := by
  obtain ⟨n, rfl⟩ : ∃ n : Nat, x = -(n : Int) := ⟨x.natAbs, by omega⟩
  rw [Int.neg_tdiv, Int.neg_tmod, Int.natAbs_neg, Int.natAbs_natCast]
  exact ⟨rfl, rfl⟩
theorem tdiv_high {x : Int} (h : 0 ≤ x) : x.tdiv 10 = ((x.natAbs / 10 : Nat) : Int) ∧ x.tmod 10 = ((x.natAbs % 10 : Nat) : Int) := by
  obtain ⟨n, rfl⟩ : ∃ n : Nat, x = (n : Int) := ⟨x.natAbs, by omega⟩
  exact ⟨rfl, rfl⟩
theorem S_neg10 {x : Int} (h : x ≤ -10) : S x = S (x.tdiv 10) ++ B [digB (x.natAbs % 10)] := by
  have e1 : (x.tdiv 10).natAbs = x.natAbs / 10 := by rw [Int.natAbs_tdiv]; rfl
  have h1 : x.tdiv 10 < 0 := by
    have := (tdiv_low (x := x) (by omega)).1
    omega
  apply ba_ext
  rw [S_toList, itoa_neg (by omega), decDigits_big (by omega), ByteArray.data_append, Array.toList_append, B_list, S_toList, itoa_neg h1, e1]
  rfl
theorem S_pos10 {x : Int} (h : 10 ≤ x) : S x = S (x.tdiv 10) ++ B [digB (x.natAbs % 10)] := by
  have e1 : (x.tdiv 10).natAbs = x.natAbs / 10 := by rw [Int.natAbs_tdiv]; rfl
  have h1 : 0 ≤ x.tdiv 10 := Int.tdiv_nonneg (by omega) (by decide)
  apply ba_ext
  rw [S_toList, itoa_pos (by omega), decDigits_big (by omega), ByteArray.data_append, Array.toList_append, B_list, S_toList, itoa_pos h1, e1]
  rfl
def ROfIs (x : Int) (s : ByteArray) : Prop := ∀ w, Calls Tryz.prog 55 #[.int .i64 x] w (StrEnd s w)
theorem conv_at (W : World) (b : Nat) (d : UInt8) (z : Int) (hz : z = d.toNat) (hc : W.cell? ⟨b, 0, none⟩ = some (.int .u8 z)) :
    (convert 101 9 (.slice (some ⟨b, 0, none⟩) 1 1)).run Tryz.prog W = .ok (.string (B [d])) W := by
  subst hz
  exact run_convert_bytes_back (P := Tryz.prog) W 101 9 5 ⟨b, 0, none⟩ 1 [d] Tryz.underlying101 Tryz.underlying5 Tryz.underlying9 (fun j hj => by
    have : j = 0 := by simpa using hj
    subst this
    rw [Lib.add_plain, hc]
    rfl)
theorem below_new {w w9 : World} {v : Value} {t : TypeId} (hb : Below (w.alloc (.cells #[v] t)).heap.size (w.alloc (.cells #[v] t)) w9) : w9.cell? ⟨w.heap.size, 0, none⟩ = some v := by
  have h : (w.alloc (.cells #[v] t)).heap[w.heap.size]? = some (.cells #[v] t (0, 0)) := by
    show (w.heap.push _)[w.heap.size]? = _
    simp
  have e := hb.block w.heap.size (by show _ < (w.heap.push _).size; simp)
  rw [h] at e
  rw [cell_of_row w9 _ 0 #[v] t (0, 0) e]
  rfl
set_option maxRecDepth 10000 in
theorem rof_small_neg {x : Int} (h : x < 0) (h2 : -10 < x) : ROfIs x (S x) := by
  intro w
  have e := S_neg1 h h2
  have hz : (48 - x : Int) = ((digB x.natAbs).toNat : Int) := by rw [digB_nat (by omega)]; omega
  have hcv := conv_one w (digB x.natAbs) _ hz
  have hd1 : (B [digB x.natAbs]).size = 1 := B_size _
  have E := Lib.hid e
  clear e hz
  generalize digB x.natAbs = d at *
  generalize S x = s at *
  go_enter Tryz.func55, Tryz.ntmps55
  go_wp2_with fail
  go_ret
  exact ⟨by rw [E.out]; rfl, (Below.refl _ _).alloc (Nat.le_refl _) _⟩
set_option maxRecDepth 10000 in
theorem rof_small_pos {x : Int} (h : 0 ≤ x) (h2 : x < 10) : ROfIs x (S x) := by
  intro w
  have e := S_pos1 h h2
  have h0 : ¬ x < 0 := by omega
  have hz : (48 + x : Int) = ((digB x.natAbs).toNat : Int) := by rw [digB_nat (by omega)]; omega
  have hcv := conv_one w (digB x.natAbs) _ hz
  have hd1 : (B [digB x.natAbs]).size = 1 := B_size _
  have E := Lib.hid e
  clear e hz
  generalize digB x.natAbs = d at *
  generalize S x = s at *
  go_enter Tryz.func55, Tryz.ntmps55
  go_wp2_with fail
  go_ret
  exact ⟨by rw [E.out]; rfl, (Below.refl _ _).alloc (Nat.le_refl _) _⟩
set_option maxRecDepth 10000 in
set_option maxHeartbeats 1600000 in
theorem rof_big_neg {x : Int} (h : x ≤ -10) (h0 : -9223372036854775808 ≤ x) (HI : ROfIs (x.tdiv 10) (S (x.tdiv 10))) (hsz : (S (x.tdiv 10)).size ≤ 1000) : ROfIs x (S x) := by
  intro w
  have e := S_neg10 h
  have h1 : x < 0 := by omega
  have h2 : ¬ -10 < x := by omega
  obtain ⟨q1, m1⟩ := tdiv_low (x := x) (by omega)
  obtain ⟨q, hq⟩ : ∃ q, x.tdiv 10 = q := ⟨_, rfl⟩
  obtain ⟨m, hm⟩ : ∃ m, x.tmod 10 = m := ⟨_, rfl⟩
  rw [hq] at e HI hsz q1
  rw [hm] at m1
  have hz : (48 - m : Int) = ((digB (x.natAbs % 10)).toNat : Int) := by rw [digB_nat (by omega)]; omega
  have hm3 : -10 < m := by omega
  have hm4 : m ≤ 0 := by omega
  have hq3 : -9223372036854775808 ≤ q := by omega
  have hq4 : q ≤ 9223372036854775807 := by omega
  have hd1 : (B [digB (x.natAbs % 10)]).size = 1 := B_size _
  have hc0 : (convert 101 9 (.slice (some ⟨w.heap.size, 0, none⟩) 1 1)).run Tryz.prog (w.alloc (.cells #[.int .u8 (48 - m)] 5)) = .ok (.string (B [digB (x.natAbs % 10)])) (w.alloc (.cells #[.int .u8 (48 - m)] 5)) := conv_one w _ _ hz
  have hc1 : (convert 101 9 (.slice (some ⟨w.heap.size, 0, none⟩) 1 1)).run Tryz.prog (w.alloc (.cells #[.int .u8 (48 - m)] 5)).drew = .ok (.string (B [digB (x.natAbs % 10)])) (w.alloc (.cells #[.int .u8 (48 - m)] 5)).drew := conv_one w.drew _ _ hz
  have HZ := Lib.hid hz
  have hwq : IntKind.i64.wrap q = q := IntWalk.i64_in _ (by omega)
  have hwm : IntKind.i64.wrap m = m := IntWalk.i64_in _ (by omega)
  have hw48 : IntKind.i64.wrap (48 - m) = 48 - m := IntWalk.i64_in _ (by omega)
  have hw8 : IntKind.u8.wrap (48 - m) = 48 - m := IntWalk.u8_in _ (by omega)
  have E := Lib.hid e
  have KI := Lib.hid HI
  clear e hz HI q1 m1
  generalize digB (x.natAbs % 10) = d at *
  generalize S q = s' at *
  generalize S x = s at *
  go_enter Tryz.func55, Tryz.ntmps55
  go_wp2_with fail
  go_region_with (go_at_call 55; refine (KI.out _).mono ?_; rintro e w9 ⟨rfl, hb9⟩; have hc2 := conv_one w9 _ _ HZ.out; (try have hc3 := conv_at w9 w.heap.size _ _ HZ.out (by first | exact below_new (w := w) hb9 | exact below_new (w := w.drew) hb9)))
  all_goals
    go_wp2_with fail
    go_ret
    refine ⟨by rw [E.out]; rfl, ?_⟩
    first
      | exact ((Below.refl w.heap.size w).drew.trans (show Below w.heap.size w.drew w9 from hb9)).alloc hb9.size _
      | exact (((Below.refl _ w).alloc (Nat.le_refl _) _).drew).trans (hb9.mono (by show w.heap.size ≤ (w.heap.push _).size; simp))
set_option maxRecDepth 10000 in
set_option maxHeartbeats 1600000 in
theorem rof_big_pos {x : Int} (h : 10 ≤ x) (h0 : x ≤ 9223372036854775807) (HI : ROfIs (x.tdiv 10) (S (x.tdiv 10))) (hsz : (S (x.tdiv 10)).size ≤ 1000) : ROfIs x (S x) := by
  intro w
  have e := S_pos10 h
  have h1 : ¬ x < 0 := by omega
  have h2 : ¬ x < 10 := by omega
  obtain ⟨q1, m1⟩ := tdiv_high (x := x) (by omega)
  obtain ⟨q, hq⟩ : ∃ q, x.tdiv 10 = q := ⟨_, rfl⟩
  obtain ⟨m, hm⟩ : ∃ m, x.tmod 10 = m := ⟨_, rfl⟩
  rw [hq] at e HI hsz q1
  rw [hm] at m1
  have hz : (48 + m : Int) = ((digB (x.natAbs % 10)).toNat : Int) := by rw [digB_nat (by omega)]; omega
  have hm3 : m < 10 := by omega
  have hm4 : 0 ≤ m := by omega
  have hq3 : -9223372036854775808 ≤ q := by omega
  have hq4 : q ≤ 9223372036854775807 := by omega
  have hd1 : (B [digB (x.natAbs % 10)]).size = 1 := B_size _
  have hc0 : (convert 101 9 (.slice (some ⟨w.heap.size, 0, none⟩) 1 1)).run Tryz.prog (w.alloc (.cells #[.int .u8 (48 + m)] 5)) = .ok (.string (B [digB (x.natAbs % 10)])) (w.alloc (.cells #[.int .u8 (48 + m)] 5)) := conv_one w _ _ hz
  have hc1 : (convert 101 9 (.slice (some ⟨w.heap.size, 0, none⟩) 1 1)).run Tryz.prog (w.alloc (.cells #[.int .u8 (48 + m)] 5)).drew = .ok (.string (B [digB (x.natAbs % 10)])) (w.alloc (.cells #[.int .u8 (48 + m)] 5)).drew := conv_one w.drew _ _ hz
  have HZ := Lib.hid hz
  have hwq : IntKind.i64.wrap q = q := IntWalk.i64_in _ (by omega)
  have hwm : IntKind.i64.wrap m = m := IntWalk.i64_in _ (by omega)
  have hw48 : IntKind.i64.wrap (48 + m) = 48 + m := IntWalk.i64_in _ (by omega)
  have hw8 : IntKind.u8.wrap (48 + m) = 48 + m := IntWalk.u8_in _ (by omega)
  have E := Lib.hid e
  have KI := Lib.hid HI
  clear e hz HI q1 m1
  generalize digB (x.natAbs % 10) = d at *
  generalize S q = s' at *
  generalize S x = s at *
  go_enter Tryz.func55, Tryz.ntmps55
  go_wp2_with fail
  go_region_with (go_at_call 55; refine (KI.out _).mono ?_; rintro e w9 ⟨rfl, hb9⟩; have hc2 := conv_one w9 _ _ HZ.out; (try have hc3 := conv_at w9 w.heap.size _ _ HZ.out (by first | exact below_new (w := w) hb9 | exact below_new (w := w.drew) hb9)))
  all_goals
    go_wp2_with fail
    go_ret
    refine ⟨by rw [E.out]; rfl, ?_⟩
    first
      | exact ((Below.refl w.heap.size w).drew.trans (show Below w.heap.size w.drew w9 from hb9)).alloc hb9.size _
      | exact (((Below.refl _ w).alloc (Nat.le_refl _) _).drew).trans (hb9.mono (by show w.heap.size ≤ (w.heap.push _).size; simp))
theorem i64_lim0 {a : Int} (h : I64 a) : a.natAbs < lim := by
  have hL := lim_big
  unfold I64 at h
  omega
theorem S_len {x : Int} (h : I64 x) : (S x).size ≤ 1000 := Nat.le_trans (S_size (i64_lim0 h)) (by decide)
theorem rof_all : ∀ (n : Nat) (x : Int), x.natAbs ≤ n → I64 x → ROfIs x (S x) := by
  intro n
  induction n with
  | zero => intro x hx h; exact rof_small_pos (by omega) (by omega)
  | succ n ih =>
    intro x hx h
    have h0 := h
    unfold I64 at h0
    rcases Int.lt_or_le x 0 with h1 | h1
    · rcases Int.lt_or_le (-10) x with h2 | h2
      · exact rof_small_neg h1 h2
      · have e := (tdiv_low (x := x) (by omega)).1
        have hq : I64 (x.tdiv 10) := by unfold I64; omega
        exact rof_big_neg h2 h.1 (ih _ (by omega) hq) (S_len hq)
    · rcases Int.lt_or_le x 10 with h2 | h2
      · exact rof_small_pos h1 h2
      · have e := (tdiv_high (x := x) (by omega)).1
        have hq : I64 (x.tdiv 10) := by unfold I64; omega
        exact rof_big_pos h2 h.2 (ih _ (by omega) hq) (S_len hq)
theorem rOf_any {x : Int} (h : I64 x) : ROfIs x (S x) := rof_all x.natAbs x (Nat.le_refl _) h
end
section
open Go.RowKit
def RIntIs (s : ByteArray) (x : Int) (v : Bool) : Prop := ∀ w, Calls Tryz.prog 69 #[.string s] w fun e w' => e = .returned (.tuple #[.int .i64 x, .bool v]) ∧ Below w.heap.size w w'
theorem S_max : S 9223372036854775807 = ⟨#[57, 50, 50, 51, 51, 55, 50, 48, 51, 54, 56, 53, 52, 55, 55, 53, 56, 48, 55]⟩ :=
  S_lit (l := [57, 50, 50, 51, 51, 55, 50, 48, 51, 54, 56, 53, 52, 55, 55, 53, 56, 48, 55]) (n := 9223372036854775807) rfl (by unfold AllDig; decide) ⟨_, _, rfl, by decide⟩
theorem S_min : S (-9223372036854775808) = ⟨#[45, 57, 50, 50, 51, 51, 55, 50, 48, 51, 54, 56, 53, 52, 55, 55, 53, 56, 48, 56]⟩ :=
  S_nlit (l := [57, 50, 50, 51, 51, 55, 50, 48, 51, 54, 56, 53, 52, 55, 55, 53, 56, 48, 56]) (n := 9223372036854775808) rfl (by decide) (by unfold AllDig; decide) ⟨_, _, rfl, by decide⟩
theorem max_lim : (9223372036854775807 : Int).natAbs < lim := i64_lim0 (by decide)
theorem min_lim : (-9223372036854775808 : Int).natAbs < lim := i64_lim0 (by decide)
set_option maxRecDepth 10000 in
theorem rint_no {s : ByteArray} (h : RMayIs s false) : RIntIs s 0 false := by
  intro w
  have KM := Lib.hid h
  clear h
  go_enter Tryz.func69, Tryz.ntmps69
  go_wp2_with fail
  refine (KM.out _).mono ?_
  rintro e w1 ⟨rfl, rfl⟩
  go_wp2_with fail
  go_ret2
  exact ⟨rfl, Below.refl _ _⟩
set_option maxRecDepth 10000 in
theorem rint_over {x : Int} (h : ¬ I64 x) (hl : x.natAbs < lim) : RIntIs (S x) 0 false := by
  intro w
  have KM := Lib.hid (rMay_S hl)
  have c1 := rcmp_S hl max_lim
  have c2 := rcmp_S hl min_lim
  rw [S_max] at c1
  rw [S_min] at c2
  unfold RCmpIs RIntEnd at c1 c2
  by_cases h0 : 9223372036854775807 < x
  · rw [Int.sign_eq_one_of_pos (by omega)] at c1
    have K1 := Lib.hid c1
    clear c1 c2
    generalize S x = s at *
    go_enter Tryz.func69, Tryz.ntmps69
    go_wp2_with fail
    refine (KM.out _).mono ?_
    rintro e w1 ⟨rfl, rfl⟩
    go_wp2_with fail
    refine (K1.out _).mono ?_
    rintro e w1 ⟨rfl, hb⟩
    go_wp2_with fail
    go_ret2
    exact ⟨rfl, hb⟩
  · have hs : (x - 9223372036854775807).sign = -1 ∨ (x - 9223372036854775807).sign = 0 := by
      rcases Int.lt_or_eq_of_le (show x ≤ 9223372036854775807 by omega) with h1 | h1
      · exact .inl (Int.sign_eq_neg_one_of_neg (by omega))
      · exact .inr (by rw [h1]; rfl)
    rw [Int.sign_eq_neg_one_of_neg (a := x - -9223372036854775808) (by unfold I64 at h; omega)] at c2
    have K2 := Lib.hid c2
    rcases hs with hs | hs
    all_goals
      rw [hs] at c1
      have K1 := Lib.hid c1
      clear c1 c2
      generalize S x = s at *
      go_enter Tryz.func69, Tryz.ntmps69
      go_wp2_with fail
      refine (KM.out _).mono ?_
      rintro e w1 ⟨rfl, rfl⟩
      go_wp2_with fail
      refine (K1.out _).mono ?_
      rintro e w1 ⟨rfl, hb⟩
      go_wp2_with fail
      refine (K2.out _).mono ?_
      rintro e w2 ⟨rfl, hb2⟩
      go_wp2_with fail
      go_ret2
      exact ⟨rfl, hb.trans (hb2.mono hb.size)⟩
def RSizeIs (s f : ByteArray) : Prop := ∀ w, Calls Tryz.prog 74 #[.string s] w fun e w' => e = .returned (.string f) ∧ w = w'
def RLowIs (s : ByteArray) (b : Bool) : Prop := ∀ w, Calls Tryz.prog 75 #[.string s] w fun e w' => e = .returned (.bool b) ∧ w = w'
theorem dig_val {l : List UInt8} (hd : AllDig l) {k : Nat} (hk : k < l.length) : ∃ D : Nat, D < 10 ∧ (l[k]).toNat = 48 + D ∧ dval (l.take (k + 1)) = dval (l.take k) * 10 + D := by
  have h1 := hd _ (List.getElem_mem hk)
  refine ⟨(l[k]).toNat - 48, by omega, by omega, ?_⟩
  rw [dval_take_succ hk]
set_option maxRecDepth 10000 in
set_option maxHeartbeats 1600000 in
theorem rint_loop (s f : ByteArray) (b : Bool) (z1 z2 : Int) (hd : AllDig f.data.toList) (hf : f.size ≤ 1000) (hv : dval f.data.toList ≤ 9223372036854775807 ∨ b = true ∧ dval f.data.toList ≤ 9223372036854775808) (hz1 : z1 ≤ 0) (hz2 : 0 ≤ z2)
    (HM : RMayIs s true) (HS : RSizeIs s f) (HL : RLowIs s b) (C1 : RCmpIs s ⟨#[57, 50, 50, 51, 51, 55, 50, 48, 51, 54, 56, 53, 52, 55, 55, 53, 56, 48, 55]⟩ z1) (C2 : RCmpIs s ⟨#[45, 57, 50, 50, 51, 51, 55, 50, 48, 51, 54, 56, 53, 52, 55, 55, 53, 56, 48, 56]⟩ z2) :
    RIntIs s (sgn b (dval f.data.toList)) true := by
  intro w
  unfold RCmpIs RIntEnd at C1 C2
  have KM := Lib.hid HM
  have KS := Lib.hid HS
  have KL := Lib.hid HL
  have K1 := Lib.hid C1
  have K2 := Lib.hid C2
  have KD := Lib.hid hd
  have KV := Lib.hid hv
  have z1' : ¬ 0 < z1 := by omega
  have z2' : ¬ z2 < 0 := by omega
  clear HM HS HL C1 C2 hd hv hz1 hz2
  have hfl : f.data.toList.length = f.size := by simp
  go_enter Tryz.func69, Tryz.ntmps69
  go_wp2_with fail
  refine (KM.out _).mono ?_
  rintro e w1 ⟨rfl, rfl⟩
  go_wp2_with fail
  refine (K1.out _).mono ?_
  rintro e w1 ⟨rfl, hb1⟩
  go_wp2_with fail
  refine (K2.out _).mono ?_
  rintro e w2 ⟨rfl, hb2⟩
  have hb := hb1.trans (hb2.mono hb1.size)
  clear hb1 hb2
  go_wp2_with fail
  go_loop [4, 5] (fun nv iv => ∃ i : Nat, i ≤ f.size ∧ iv = .int .i64 i ∧ nv = .int .i64 (sgn b (dval (f.data.toList.take i)))) (fun _ iv => f.size - (intOf iv).toNat)
  case atStart => exact ⟨0, Nat.zero_le _, rfl, by cases b <;> rfl⟩
  case round =>
    obtain ⟨i, hi, rfl, rfl⟩ := hrel
    by_cases hlt : i < f.size
    · obtain ⟨D, hD, hfk, hst⟩ := dig_val KD.out (k := i) (by omega)
      have hle := dval_take_le f.data.toList (i + 1)
      have hv := KV.out
      have hfk2 : (f[i]'hlt).toNat = 48 + D := hfk
      obtain ⟨N, hN⟩ : ∃ N, dval (f.data.toList.take i) = N := ⟨_, rfl⟩
      obtain ⟨M, hM⟩ : ∃ M, dval (f.data.toList.take (i + 1)) = M := ⟨_, rfl⟩
      rw [hN, hM] at hst
      rw [hM] at hle
      rw [hN]
      have KM2 := Lib.hid hM
      clear hfk hN hM
      have hb1 : 10 * N + D ≤ 9223372036854775808 := by omega
      cases b
      · have hb2 : 10 * N + D ≤ 9223372036854775807 := by
          rcases hv with hv | hv
          · omega
          · exact absurd hv.1 (by decide)
        have hs1 : sgn false N = (N : Int) := rfl
        rw [hs1]
        clear hv
        go_wp2_with fail
        refine (KS.out _).mono ?_
        rintro e w3 ⟨rfl, rfl⟩
        go_wp2_with fail
        refine (KS.out _).mono ?_
        rintro e w3 ⟨rfl, rfl⟩
        go_wp2_with fail
        refine (KL.out _).mono ?_
        rintro e w3 ⟨rfl, rfl⟩
        go_wp2_with fail
        go_round
        case rel =>
          refine ⟨i + 1, by omega, by go_num, congrArg (Value.int .i64) ?_⟩
          rw [KM2.out]
          show _ = (M : Int)
          omega
        case measure => simp [intOf]; omega
      · have hs1 : sgn true N = -(N : Int) := rfl
        rw [hs1]
        clear hv
        go_wp2_with fail
        refine (KS.out _).mono ?_
        rintro e w3 ⟨rfl, rfl⟩
        go_wp2_with fail
        refine (KS.out _).mono ?_
        rintro e w3 ⟨rfl, rfl⟩
        go_wp2_with fail
        refine (KL.out _).mono ?_
        rintro e w3 ⟨rfl, rfl⟩
        go_wp2_with fail
        go_round
        case rel =>
          refine ⟨i + 1, by omega, by go_num, congrArg (Value.int .i64) ?_⟩
          rw [KM2.out]
          show _ = -(M : Int)
          omega
        case measure => simp [intOf]; omega
    · have he : dval (f.data.toList.take i) = dval f.data.toList := by rw [List.take_of_length_le (by omega)]
      rw [he]
      go_wp2_with fail
      refine (KS.out _).mono ?_
      rintro e w3 ⟨rfl, rfl⟩
      go_wp2_with fail
      go_ret2
      exact ⟨rfl, hb⟩
theorem rint_in {x : Int} (h : I64 x) : RIntIs (S x) x true := by
  have hl := i64_lim0 h
  have hx := h
  unfold I64 at hx
  have hv := dval_decDigits x.natAbs
  have hlen := (digs_lim _).2 hl
  have e0 : sgn (decide (x < 0)) x.natAbs = x := by
    unfold sgn
    by_cases h0 : x < 0
    · rw [if_pos (decide_eq_true h0)]; omega
    · rw [if_neg (by rw [decide_eq_true_iff]; exact h0)]; omega
  have c1 := rcmp_S hl max_lim
  have c2 := rcmp_S hl min_lim
  rw [S_max] at c1
  rw [S_min] at c2
  have R := rint_loop (S x) (B (Lib.decDigits x.natAbs)) (decide (x < 0)) _ _ (by rw [B_list]; exact decDigits_dig _) (by rw [B_size]; omega)
    (by rw [B_list, hv]
        by_cases h0 : x < 0
        · exact .inr ⟨decide_eq_true h0, by omega⟩
        · exact .inl (by omega))
    (by rcases Int.lt_or_eq_of_le hx.2 with h1 | h1
        · rw [Int.sign_eq_neg_one_of_neg (by omega)]; decide
        · rw [h1]; decide)
    (by rcases Int.lt_or_eq_of_le hx.1 with h1 | h1
        · rw [Int.sign_eq_one_of_pos (by omega)]; decide
        · rw [← h1]; decide)
    (rMay_S hl) (rsize_S x (Nat.le_trans hlen (by decide))) (rlow_S x) c1 c2
  rwa [B_list, hv, e0] at R
theorem rInt_opt {s : ByteArray} {o : Option Int} (h : Is s o) : RIntIs s (intO o).1 (intO o).2 := by
  cases o with
  | none => exact rint_no (rMay_is h)
  | some x =>
    unfold intO
    dsimp only
    by_cases hi : I64 x
    · rw [if_pos hi, h.1]; exact rint_in hi
    · rw [if_neg hi, h.1]; exact rint_over hi h.2
end
section
open Go.RowKit
theorem S_127 : S 127 = ⟨#[49, 50, 55]⟩ := S_lit (l := [49, 50, 55]) (n := 127) rfl (by unfold AllDig; decide) ⟨_, _, rfl, by decide⟩
theorem S_32767 : S 32767 = ⟨#[51, 50, 55, 54, 55]⟩ := S_lit (l := [51, 50, 55, 54, 55]) (n := 32767) rfl (by unfold AllDig; decide) ⟨_, _, rfl, by decide⟩
theorem S_i32 : S 2147483647 = ⟨#[50, 49, 52, 55, 52, 56, 51, 54, 52, 55]⟩ := S_lit (l := [50, 49, 52, 55, 52, 56, 51, 54, 52, 55]) (n := 2147483647) rfl (by unfold AllDig; decide) ⟨_, _, rfl, by decide⟩
theorem S_one1 : S 1 = ⟨#[49]⟩ := S_lit (l := [49]) (n := 1) rfl (by unfold AllDig; decide) ⟨_, _, rfl, by decide⟩
theorem S_nonempty (x : Int) : (S x).toList.isEmpty = false := by
  rw [str_tl, S_toList]
  rcases Int.lt_or_le x 0 with h | h
  · rw [itoa_neg h]; rfl
  · rw [itoa_pos h]
    cases e : Lib.decDigits x.natAbs with
    | nil => exact absurd e (decDigits_ne _)
    | cons c r => rfl
theorem sign_le {z : Int} : z.sign ≤ 0 ↔ z ≤ 0 := by
  rcases Int.lt_trichotomy z 0 with h | rfl | h
  · rw [Int.sign_eq_neg_one_of_neg h]; omega
  · simp
  · rw [Int.sign_eq_one_of_pos h]; omega
theorem sign_ge {z : Int} : 0 ≤ z.sign ↔ 0 ≤ z := by
  rcases Int.lt_trichotomy z 0 with h | rfl | h
  · rw [Int.sign_eq_neg_one_of_neg h]; omega
  · simp
  · rw [Int.sign_eq_one_of_pos h]; omega
end
section
open Go.RowKit
theorem intO_some (r : Int) : intO (some r) = if I64 r then (r, true) else (0, false) := rfl
end
section
open Go.RowKit
theorem four_at {w wr : World} {T : TypeId} (h : Below (w.heap.size + 1) (w.alloc (.cells #[.int .i64 8, .int .i64 16, .int .i64 32, .int .i64 64] T)) wr) (k : Nat) (v : Value) (hk : (#[.int .i64 8, .int .i64 16, .int .i64 32, .int .i64 64] : Array Value)[k]? = some v) : wr.cell? ⟨w.heap.size, k, none⟩ = some v := by
  have hn : (w.alloc (.cells #[.int .i64 8, .int .i64 16, .int .i64 32, .int .i64 64] T)).heap[w.heap.size]? = some (.cells #[.int .i64 8, .int .i64 16, .int .i64 32, .int .i64 64] T (0, 0)) := by
    show (w.heap.push _)[w.heap.size]? = _
    simp
  have e := h.block w.heap.size (by omega)
  rw [hn] at e
  rw [cell_of_row wr _ k _ T (0, 0) e]
  exact hk
theorem leastW_over {x : Int} (h : ¬ I64 x) : leastW x = 128 := by
  unfold leastW
  rw [if_neg (by unfold I64 at h; unfold Fit; omega), if_neg (by unfold I64 at h; unfold Fit; omega), if_neg (by unfold I64 at h; unfold Fit; omega), if_neg (by unfold I64 at h; unfold Fit; omega)]
theorem leastO_of (x : Int) : leastO (some x) = leastW x := by
  unfold leastO
  rw [intO_some]
  by_cases h : I64 x
  · rw [if_pos h]; rfl
  · rw [if_neg h, leastW_over h]; rfl
end
end Go.Proofs.YtpledghphljfkaaGreatDoor

import Derived.Test.YtinhbmjfeabecaaGreatDoorMayw
import Derived.Test.YtinhbmjfeabecaaGreatDoorNum2
namespace Go.Proofs.YtinhbmjfeabecaaGreatDoor
open Go.RowKit

set_option maxRecDepth 10000 in
theorem rlow_any (s : ByteArray) (b : Bool) (hb : decide (s.data.toList.head? = some 45) = b) (w : World) : Calls Tryz.prog 23 #[.string s] w fun e w' => e = .returned (.bool b) ∧ w = w' := by
  subst hb
  by_cases h0 : s.size = 0
  · have hn : s.data.toList = [] := List.eq_nil_of_length_eq_zero (by simpa using h0)
    have e0 : s.toList = [] := by rw [str_tl, hn]
    go_enter Tryz.func23, Tryz.ntmps23
    go_wp2_with fail
    go_ret
    exact ⟨ret_bool (by simp [hn]), rfl⟩
  · have hp : 0 < s.size := by omega
    have hh := head_get hp
    have e0 : ¬ s.toList = [] := by
      rw [str_tl]; intro h; rw [h] at hh; cases hh
    rw [hh]
    have HH := Lib.hid hh
    clear hh
    by_cases h1 : s[0] = 45
    · have h2 : s[0].toNat = 45 := by rw [h1]; rfl
      go_enter Tryz.func23, Tryz.ntmps23
      go_wp2_with fail
      go_ret
      exact ⟨ret_bool (by simp [h1]; exact e0), rfl⟩
    · have h2 : ¬ s[0].toNat = 45 := fun h => h1 (UInt8.toNat_inj.1 h)
      go_enter Tryz.func23, Tryz.ntmps23
      go_wp2_with fail
      go_ret
      exact ⟨ret_bool (by simp [h1]; intro _ h; exact h2 (by omega)), rfl⟩
/-- A text out of its bytes. -/
def B (l : List UInt8) : ByteArray := ⟨l.toArray⟩
theorem B_of (s : ByteArray) : B s.data.toList = s := rfl
theorem B_list (l : List UInt8) : (B l).data.toList = l := rfl
theorem B_size (l : List UInt8) : (B l).size = l.length := by simp [B, ByteArray.size]
theorem ba_ext {a b : ByteArray} (h : a.data.toList = b.data.toList) : a = b := by
  obtain ⟨⟨x⟩⟩ := a
  obtain ⟨⟨y⟩⟩ := b
  have : x = y := h
  rw [this]
set_option maxRecDepth 10000 in
theorem rsize_any (l : List UInt8) (hl : l.length ≤ maxLen) (w : World) : Calls Tryz.prog 22 #[.string (B l)] w fun e w' => e = .returned (.string (B (figs l))) ∧ w = w' := by
  have HS := Lib.hid (B_size l)
  by_cases h : l.head? = some 45
  · cases l with
    | nil => cases h
    | cons c r =>
      have hc : c = 45 := by simpa using h
      subst hc
      rw [figs_neg]
      have hL := rlow_any (B (45 :: r)) true (by rw [B_list]; rfl)
      have HL := Lib.hid hL
      have hs : 1 ≤ (B (45 :: r)).size := by rw [B_size]; simp
      have hr : (B (45 :: r)).extract 1 (B (45 :: r)).size = B r := by
        apply ba_ext
        rw [extract_toList, B_list, B_list, B_size, List.take_length]
        rfl
      have HR := Lib.hid hr
      clear hL hr h
      generalize hq : B (45 :: r) = s at *
      go_enter Tryz.func22, Tryz.ntmps22
      go_wp2_with fail
      refine (HL.out _).mono ?_
      rintro e w1 ⟨rfl, rfl⟩
      go_wp2_with fail
      go_ret
      exact ⟨ret_str HR.out, rfl⟩
  · rw [figs_pos h]
    have hL := rlow_any (B l) false (by rw [B_list]; exact decide_eq_false h)
    have HL := Lib.hid hL
    clear hL h
    go_enter Tryz.func22, Tryz.ntmps22
    go_wp2_with fail
    refine (HL.out _).mono ?_
    rintro e w1 ⟨rfl, rfl⟩
    go_wp2_with fail
    go_ret
    exact ⟨rfl, rfl⟩
def strLen : Value → Nat
  | .string s => s.size
  | _ => 0
theorem dval_zero_cons (r : List UInt8) : dval (48 :: r) = dval r := rfl
theorem dig_lead {c : UInt8} {r : List UInt8} (h : AllDig (c :: r)) (hc : c ≠ 48 ∨ r = []) : c :: r = Lib.decDigits (dval (c :: r)) := by
  refine decDigits_of _ h (by simp) ?_
  rcases hc with hc | rfl
  · exact .inr ⟨c, r, rfl, fun e => hc (UInt8.toNat_inj.1 e)⟩
  · exact .inl rfl
def BarePost (n : Nat) (w : World) (e : Ending) (w' : World) : Prop := e = .returned (.string (B (Lib.decDigits n))) ∧ w = w'
set_option maxRecDepth 10000 in
set_option maxHeartbeats 800000 in
theorem rbare_any (l : List UInt8) (hd : AllDig l) (hl : l.length ≤ maxLen) (w : World) : Calls Tryz.prog 70 #[.string (B l)] w (BarePost (dval l) w) := by
  go_enter Tryz.func70, Tryz.ntmps70
  go_wp2_with fail
  go_loop [0] (fun v => ∃ r : List UInt8, v = .string (B r) ∧ AllDig r ∧ dval r = dval l) (fun v => strLen v)
  case atStart => exact ⟨l, rfl, hd, rfl⟩
  case round =>
    obtain ⟨r, rfl, hr, hv⟩ := hrel
    have HV := Lib.hid hv
    clear hv
    cases r with
    | nil =>
      have hz : (B []).size = 0 := rfl
      have h1 : ¬ (1 : Int) < (B []).size := by rw [hz]; decide
      have e0 : (B []).toList.isEmpty = true := by rw [str_tl]; rfl
      go_wp2_with fail
      go_ret
      exact ⟨ret_str (by rw [← HV.out, show dval [] = 0 from rfl, decDigits_small (by decide)]; rfl), rfl⟩
    | cons c q =>
      have hs := B_size (c :: q)
      have e0 : (B (c :: q)).toList.isEmpty = false := by rw [str_tl, B_list]; rfl
      by_cases h1 : q = []
      · have h2 : ¬ (1 : Int) < (B (c :: q)).size := by rw [hs, h1]; exact Int.lt_irrefl 1
        have hf : B (c :: q) = B (Lib.decDigits (dval l)) := by rw [← HV.out, ← dig_lead hr (.inr h1)]
        have HF := Lib.hid hf
        clear hf hs hr
        generalize B (c :: q) = s at *
        go_wp2_with fail
        go_ret
        exact ⟨ret_str HF.out, rfl⟩
      · have hq : 0 < q.length := List.length_pos_iff.2 h1
        have h2 : (1 : Int) < (B (c :: q)).size := by rw [hs]; simp; omega
        have hp : 0 < (B (c :: q)).size := by omega
        have hg : (B (c :: q))[0] = c := rfl
        by_cases hc : c = 48
        · have e1 : ((((B (c :: q))[0]).toNat : Int) == 48) = true := by rw [hg, hc]; rfl
          have hx : (B (c :: q)).extract 1 (B (c :: q)).size = B q := by
            apply ba_ext
            rw [extract_toList, B_list, B_list, B_size, List.take_length]
            rfl
          have HX := Lib.hid hx
          have HC := Lib.hid hc
          have HQ := Lib.hid (And.intro hr hs)
          clear hx hc hr hs hg
          generalize hgen : B (c :: q) = s at *
          clear hgen
          go_wp2_with fail
          go_round
          case rel => exact ⟨q, congrArg Value.string HX.out, fun x hx => HQ.out.1 x (by simp [hx]), by rw [← HV.out, HC.out]; rfl⟩
          case measure =>
            simp only [strLen]
            rw [HX.out, B_size, HQ.out.2]
            simp
        · have e1 : ((((B (c :: q))[0]).toNat : Int) == 48) = false := by
            rw [hg]; exact beq_eq_false_iff_ne.2 fun e => hc (UInt8.toNat_inj.1 (show c.toNat = 48 by omega))
          have hf : B (c :: q) = B (Lib.decDigits (dval l)) := by rw [← HV.out, ← dig_lead hr (.inl hc)]
          have HF := Lib.hid hf
          clear hf hs hr hg hc
          generalize B (c :: q) = s at *
          go_wp2_with fail
          go_ret
          exact ⟨ret_str HF.out, rfl⟩
/-- What figures with a sign stand for. -/
def sgn (b : Bool) (n : Nat) : Int := if b then -(n : Int) else n
theorem S_nat (n : Nat) : S (n : Int) = B (Lib.decDigits n) := S_pos (by omega) (by omega)
theorem S_negnat {n : Nat} (h : 0 < n) : S (-(n : Int)) = B (45 :: Lib.decDigits n) := S_neg (by omega) (by omega)
theorem dec_48 {n : Nat} (h : Lib.decDigits n = [48]) : n = 0 := decDigits_inj (h.trans (decDigits_small (n := 0) (by decide)).symm)
def SignedPost (z : Int) (w : World) (e : Ending) (w' : World) : Prop := e = .returned (.string (S z)) ∧ w = w'
set_option maxRecDepth 10000 in
set_option maxHeartbeats 800000 in
theorem rsigned_any (l : List UInt8) (hd : AllDig l) (hl : l.length ≤ maxLen) (hn : (Lib.decDigits (dval l)).length ≤ 9000) (b : Bool) (w : World) :
    Calls Tryz.prog 49 #[.string (B l), .bool b] w (SignedPost (sgn b (dval l)) w) := by
  have hB := rbare_any l hd hl
  have hs := B_size (Lib.decDigits (dval l))
  generalize hN : dval l = n at *
  have HB := Lib.hid hB
  generalize B l = s at *
  clear hB hN hd hl
  cases b
  · have HS := Lib.hid (S_nat n)
    clear hs hn
    go_enter Tryz.func49, Tryz.ntmps49
    go_wp2_with fail
    refine (HB.out _).mono ?_
    rintro e w1 ⟨rfl, rfl⟩
    go_wp2_with fail
    go_ret
    exact ⟨ret_str HS.out.symm, rfl⟩
  · by_cases h0 : n = 0
    · subst h0
      have e0 : ((B (Lib.decDigits 0)).toList == [48]) = true := by rw [str_tl, B_list, decDigits_small (by decide)]; rfl
      have HS := Lib.hid (S_nat 0)
      have ht : (B (Lib.decDigits 0)).size ≤ 9000 := by omega
      clear hs hn
      generalize hq : B (Lib.decDigits 0) = t at *
      go_enter Tryz.func49, Tryz.ntmps49
      go_wp2_with fail
      refine (HB.out _).mono ?_
      rintro e w1 ⟨rfl, rfl⟩
      rw [hq]
      go_wp2_with fail
      refine (HB.out _).mono ?_
      rintro e w1 ⟨rfl, rfl⟩
      rw [hq]
      go_wp2_with fail
      go_ret
      exact ⟨ret_str HS.out.symm, rfl⟩
    · have e0 : ((B (Lib.decDigits n)).toList == [48]) = false := by
        rw [str_tl, B_list]; exact beq_eq_false_iff_ne.2 fun h => h0 (dec_48 h)
      have hcat : (⟨#[45]⟩ : ByteArray) ++ B (Lib.decDigits n) = S (-(n : Int)) := by rw [S_negnat (by omega)]; exact cat_hyphen _
      have HS := Lib.hid hcat
      have ht : (B (Lib.decDigits n)).size ≤ 9000 := by omega
      clear hs hn hcat h0
      generalize hq : B (Lib.decDigits n) = t at *
      go_enter Tryz.func49, Tryz.ntmps49
      go_wp2_with fail
      refine (HB.out _).mono ?_
      rintro e w1 ⟨rfl, rfl⟩
      rw [hq]
      go_wp2_with fail
      refine (HB.out _).mono ?_
      rintro e w1 ⟨rfl, rfl⟩
      rw [hq]
      go_wp2_with fail
      go_ret
      exact ⟨ret_str HS.out, rfl⟩
/-- The figure at place i, from the end. -/
theorem fig_at {l : List UInt8} (hd : AllDig l) {i k : Nat} (h : k + 1 + i = l.length) (hk : k < l.length) : dval l / 10 ^ i % 10 = (l[k]).toNat - 48 := by
  have hc := hd l[k] (List.getElem_mem hk)
  have e : l = l.take k ++ [l[k]] ++ l.drop (k + 1) := by simp
  have hdl : (l.drop (k + 1)).length = i := by simp; omega
  have hlt := dval_lt (l := l.drop (k + 1)) (fun c hc => hd c (List.mem_of_mem_drop hc))
  rw [hdl] at hlt
  have hv : dval l = (dval (l.take k) * 10 + ((l[k]).toNat - 48)) * 10 ^ i + dval (l.drop (k + 1)) := by
    have := congrArg dval e
    rw [dval_append, dval_snoc, hdl] at this
    exact this
  rw [hv, Nat.mul_comm, Nat.mul_add_div (Nat.pow_pos (by decide)), Nat.div_eq_of_lt hlt]
  omega
theorem fig_past {l : List UInt8} (hd : AllDig l) {i : Nat} (h : l.length ≤ i) : dval l / 10 ^ i % 10 = 0 := by
  rw [Nat.div_eq_of_lt (Nat.lt_of_lt_of_le (dval_lt hd) (Nat.pow_le_pow_right (by decide) h))]
def IntEnd (z : Int) (w : World) (e : Ending) (w' : World) : Prop := e = .returned (.int .i64 z) ∧ Below w.heap.size w w'
theorem ret_i64 {a b : Int} (h : a = b) : Ending.returned (.int .i64 a) = .returned (.int .i64 b) := by rw [h]
set_option maxRecDepth 10000 in
set_option maxHeartbeats 800000 in
theorem rdigit_any (l : List UInt8) (hd : AllDig l) (hl : l.length ≤ 9000) (i : Nat) (hi : i ≤ 9000) (w : World) :
    Calls Tryz.prog 78 #[.string (B l), .int .i64 i] w (IntEnd ((dval l / 10 ^ i % 10 : Nat) : Int) w) := by
  have hs := B_size l
  by_cases h : l.length ≤ i
  · have e0 : ((B l).size : Int) ≤ i := by omega
    rw [fig_past hd h]
    clear hs hd
    generalize B l = s at *
    go_enter Tryz.func78, Tryz.ntmps78
    go_wp2_with fail
    go_ret
    exact ⟨rfl, Below.refl _ _⟩
  · obtain ⟨k, hk⟩ : ∃ k, k + 1 + i = l.length := ⟨l.length - 1 - i, by omega⟩
    have hkl : k < l.length := by omega
    have hf := fig_at hd hk hkl
    have hks : k < (B l).size := by omega
    have hc : 48 ≤ ((B l)[k]).toNat ∧ ((B l)[k]).toNat ≤ 57 := hd l[k] (List.getElem_mem hkl)
    rw [hf]
    show Calls Tryz.prog 78 #[.string (B l), .int .i64 i] w (IntEnd ((((B l)[k]).toNat - 48 : Nat) : Int) w)
    have e0 : ¬ ((B l).size : Int) ≤ i := by omega
    have e1 : ((B l).size : Int) - 1 - i = k := by omega
    have e2 : (B l).size ≤ 9000 := by omega
    clear hs hd hf hk hkl
    generalize B l = s at *
    go_enter Tryz.func78, Tryz.ntmps78
    go_wp2_with fail
    go_ret
    exact ⟨ret_i64 (by omega), Below.refl _ _⟩
theorem dval_split {l : List UInt8} {i : Nat} (hi : i < l.length) : dval l = (dval (l.take i) * 10 + ((l[i]).toNat - 48)) * 10 ^ (l.length - 1 - i) + dval (l.drop (i + 1)) := by
  have e : l = l.take i ++ [l[i]] ++ l.drop (i + 1) := by simp
  have hdl : (l.drop (i + 1)).length = l.length - 1 - i := by simp; omega
  have := congrArg dval e
  rw [dval_append, dval_snoc, hdl] at this
  exact this
theorem lex_lt {l m : List UInt8} (hl : AllDig l) (hm : AllDig m) (h : l.length = m.length) {i : Nat} (hi : i < l.length) (hi' : i < m.length) (ht : l.take i = m.take i) (hlt : (l[i]).toNat < (m[i]).toNat) : dval l < dval m := by
  rw [dval_split hi, dval_split hi', ht, h]
  have h1 := dval_lt (l := l.drop (i + 1)) (fun c hc => hl c (List.mem_of_mem_drop hc))
  have e1 : (l.drop (i + 1)).length = m.length - 1 - i := by simp; omega
  rw [e1] at h1
  have hd := hl l[i] (List.getElem_mem hi)
  have h2 : (dval (m.take i) * 10 + ((l[i]).toNat - 48) + 1) * 10 ^ (m.length - 1 - i) ≤ (dval (m.take i) * 10 + ((m[i]).toNat - 48)) * 10 ^ (m.length - 1 - i) := Nat.mul_le_mul_right _ (by omega)
  rw [Nat.add_mul, Nat.one_mul] at h2
  omega
theorem take_up {l m : List UInt8} {i : Nat} (hi : i < l.length) (hi' : i < m.length) (ht : l.take i = m.take i) (he : (l[i]).toNat = (m[i]).toNat) : l.take (i + 1) = m.take (i + 1) := by
  rw [List.take_succ_eq_append_getElem hi, List.take_succ_eq_append_getElem hi', ht, UInt8.toNat_inj.1 he]
theorem dec_len_lt {x y : Nat} (h : (Lib.decDigits x).length < (Lib.decDigits y).length) : x < y := by
  have hp := decDigits_len_pos x
  have h1 := (decDigits_len_le (n := x) hp).1 (Nat.le_refl _)
  have h2 : ¬ y < 10 ^ (Lib.decDigits x).length := fun h3 => by
    have := (decDigits_len_le (n := y) hp).2 h3
    omega
  omega
def MoreEnd (z : Int) (w : World) (e : Ending) (w' : World) : Prop := e = .returned (.int .i64 z) ∧ Drawn w w'
theorem cmpN_of_lt {x y : Nat} (h : x < y) : cmpN x y = -1 := by unfold cmpN; rw [if_pos h]
theorem cmpN_of_gt {x y : Nat} (h : y < x) : cmpN x y = 1 := by unfold cmpN; rw [if_neg (by omega), if_pos h]
set_option maxRecDepth 10000 in
set_option maxHeartbeats 800000 in
theorem rmore_any (x y : Nat) (hx : (Lib.decDigits x).length ≤ 9000) (hy : (Lib.decDigits y).length ≤ 9000) (w : World) :
    Calls Tryz.prog 54 #[.string (B (Lib.decDigits x)), .string (B (Lib.decDigits y))] w (MoreEnd (cmpN x y) w) := by
  have hs := B_size (Lib.decDigits x)
  have ht := B_size (Lib.decDigits y)
  by_cases h : (Lib.decDigits x).length = (Lib.decDigits y).length
  · have hdx := decDigits_dig x
    have hdy := decDigits_dig y
    have hvx := dval_decDigits x
    have hvy := dval_decDigits y
    generalize Lib.decDigits x = l at *
    generalize Lib.decDigits y = m at *
    obtain ⟨s, es⟩ : ∃ s, s = B l := ⟨_, rfl⟩
    obtain ⟨t, et⟩ : ∃ t, t = B m := ⟨_, rfl⟩
    rw [← es, ← et]
    rw [← es] at hs
    rw [← et] at ht
    have gx : ∀ (k : Nat) (hk : k < s.size) (hk' : k < l.length), (s[k]).toNat = (l[k]).toNat := by subst es; exact fun k hk hk' => rfl
    have gy : ∀ (k : Nat) (hk : k < t.size) (hk' : k < m.length), (t[k]).toNat = (m[k]).toNat := by subst et; exact fun k hk hk' => rfl
    have HG := Lib.hid (And.intro gx gy)
    have HD := Lib.hid (And.intro hdx (And.intro hdy (And.intro hvx (And.intro hvy h))))
    have e0 : s.size = t.size := by omega
    have e1 : t.size ≤ 9000 := by omega
    have HS := Lib.hid (And.intro hs ht)
    clear gx gy hdx hdy hvx hvy hs ht h es et
    have e2 : (s.size : Int) = t.size := by omega
    go_enter Tryz.func54, Tryz.ntmps54
    go_wp2_with fail
    go_loopw [5] (fun i wr => ∃ k : Nat, k ≤ t.size ∧ i = .int .i64 k ∧ l.take k = m.take k ∧ Drawn w wr) (fun i _ => t.size - (intOf i).toNat)
    case atStart => exact ⟨0, Nat.zero_le _, rfl, rfl, Drawn.refl _⟩
    case round =>
      obtain ⟨k, hk, rfl, hT, hW⟩ := hrel
      have HT := Lib.hid hT
      clear hT
      by_cases hlt : k < t.size
      · have hks : k < s.size := by omega
        by_cases c1 : (s[k]).toNat < (t[k]).toNat
        · go_wp2_with fail
          go_region
          go_wp2_with fail
          go_ret
          exact ⟨ret_i64 (cmpN_of_lt (by
            obtain ⟨h1, h2, h3, h4, h5⟩ := HD.out
            obtain ⟨g1, g2⟩ := HG.out
            obtain ⟨s1, s2⟩ := HS.out
            have := lex_lt h1 h2 h5 (i := k) (by omega) (by omega) HT.out (by rw [← g1 k hks (by omega), ← g2 k hlt (by omega)]; exact c1)
            omega)).symm, hW.more _⟩
        · by_cases c2 : (t[k]).toNat < (s[k]).toNat
          · go_wp2_with fail
            go_region
            go_wp2_with fail
            go_region
            go_wp2_with fail
            go_ret
            exact ⟨ret_i64 (cmpN_of_gt (by
              obtain ⟨h1, h2, h3, h4, h5⟩ := HD.out
              obtain ⟨g1, g2⟩ := HG.out
              obtain ⟨s1, s2⟩ := HS.out
              have := lex_lt h2 h1 h5.symm (i := k) (by omega) (by omega) HT.out.symm (by rw [← g1 k hks (by omega), ← g2 k hlt (by omega)]; exact c2)
              omega)).symm, (hW.more _).more _⟩
          · go_wp2_with fail
            go_region
            go_wp2_with fail
            go_region
            go_wp2_with fail
            go_roundw
            case rel => exact ⟨k + 1, by omega, by go_num, (by
              obtain ⟨h1, h2, h3, h4, h5⟩ := HD.out
              obtain ⟨g1, g2⟩ := HG.out
              obtain ⟨s1, s2⟩ := HS.out
              exact take_up (by omega) (by omega) HT.out (by rw [← g1 k hks (by omega), ← g2 k hlt (by omega)]; omega)), (hW.more _).more _⟩
            case measure => simp [intOf]; omega
      · go_wp2_with fail
        go_ret
        exact ⟨ret_i64 (by
          obtain ⟨h1, h2, h3, h4, h5⟩ := HD.out
          obtain ⟨s1, s2⟩ := HS.out
          have h6 := HT.out
          rw [List.take_of_length_le (by omega), List.take_of_length_le (by omega)] at h6
          rw [← h3, ← h4, h6, cmpN_self]), hW⟩
  · have e0 : ((B (Lib.decDigits x)).size : Int) ≠ (B (Lib.decDigits y)).size := by omega
    by_cases h2 : (Lib.decDigits x).length < (Lib.decDigits y).length
    · have hv := cmpN_of_lt (dec_len_lt h2)
      have e1 : ((B (Lib.decDigits x)).size : Int) < (B (Lib.decDigits y)).size := by omega
      have HV := Lib.hid hv
      clear hs ht h hv h2 hx hy
      generalize B (Lib.decDigits x) = s at *
      generalize B (Lib.decDigits y) = t at *
      go_enter Tryz.func54, Tryz.ntmps54
      go_wp2_with fail
      go_ret
      exact ⟨ret_i64 HV.out.symm, Drawn.refl _⟩
    · have hv := cmpN_of_gt (dec_len_lt (x := y) (y := x) (by omega))
      have e1 : ¬ ((B (Lib.decDigits x)).size : Int) < (B (Lib.decDigits y)).size := by omega
      have HV := Lib.hid hv
      clear hs ht h hv h2 hx hy
      generalize B (Lib.decDigits x) = s at *
      generalize B (Lib.decDigits y) = t at *
      go_enter Tryz.func54, Tryz.ntmps54
      go_wp2_with fail
      go_ret
      exact ⟨ret_i64 HV.out.symm, Drawn.refl _⟩
end Go.Proofs.YtinhbmjfeabecaaGreatDoor

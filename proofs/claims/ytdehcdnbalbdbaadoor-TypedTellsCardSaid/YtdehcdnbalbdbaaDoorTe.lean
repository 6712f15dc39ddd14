/-
  typed's element, May, Many, At, by their contracts.
-/
import Derived.Test.YtdehcdnbalbdbaaDoorTd
namespace Go.Proofs.YtdehcdnbalbdbaaDoor
open Go.RowKit

/-- What may be, as a typed array. -/
def mayT (w : Int) (l : List Int) (s : ByteArray) : Bool := isW w && decide (szE l = 0) && decide ((s.size : Int) = szV l * (w / 8))
structure MayT (w : Int) (l : List Int) (s : ByteArray) (b m : Nat) : Prop where
  bw : Bw w b
  e : szE l = 0
  sz : s.size = m * b
  pr : (m : Int) = Go.Proofs.YtdehcdnbalbdbaaDoor.pr l
  le : m ≤ 4096
theorem mayT_yes {w : Int} {l : List Int} {s : ByteArray} : mayT w l s = true ↔ ∃ b m, MayT w l s b m := by
  unfold mayT
  rw [Bool.and_eq_true, Bool.and_eq_true, decide_eq_true_eq, decide_eq_true_eq, isW_yes]
  constructor
  · rintro ⟨⟨⟨b, hb⟩, he⟩, hs⟩
    have hp := may_pr he
    rw [szV_pr he, hb.le.2.2.2] at hs
    obtain ⟨m, hm⟩ : ∃ m : Nat, (m : Int) = pr l := ⟨(pr l).toNat, by omega⟩
    rw [← hm, ← Int.natCast_mul] at hs
    exact ⟨b, m, hb, he, by omega, hm, by omega⟩
  · rintro ⟨b, m, hb, he, hs, hm, _⟩
    exact ⟨⟨⟨b, hb⟩, he⟩, by rw [szV_pr he, hb.le.2.2.2, ← hm, ← Int.natCast_mul, hs]⟩
theorem MayT.szV {w : Int} {l : List Int} {s : ByteArray} {b m : Nat} (h : MayT w l s b m) : szV l = m := by rw [szV_pr h.e, h.pr]
theorem MayT.yes {w : Int} {l : List Int} {s : ByteArray} {b m : Nat} (h : MayT w l s b m) : mayT w l s = true := mayT_yes.2 ⟨b, m, h⟩
theorem cut_extract (s : ByteArray) (b i : Nat) : (s.extract (i * b) ((i + 1) * b)).data.toList = cut s b i := by
  rw [ByteArray.data_extract]
  unfold cut
  rw [Nat.add_mul, Nat.one_mul]
  simp [List.extract_eq_take_drop, List.drop_take]
theorem size_list (t : ByteArray) : t.size = t.data.toList.length := rfl
/-- A callee that turns nothing, in a region that only reads. -/
theorem quiet_eq {f : FuncId} {args : Array Value} {w : World} {n : Nat} {v : Value} (h : Calls Tryd.prog f args (w.drewN n) fun e w' => e = .returned v ∧ w.drewN n = w') : Calls Tryd.prog f args (w.drewN n) fun e w'' => e = .returned v ∧ ∃ m, w'' = w.drewN m :=
  h.mono fun _ _ ⟨he, hm⟩ => ⟨he, n, hm.symm⟩
theorem box_below (W : World) (o : Obj) : Below W.heap.size W (W.alloc o) := (Below.refl _ _).alloc (Nat.le_refl _) _
/-- A typed array, as a value. -/
def ty (w : Int) (a : Option Addr) (n c : Nat) (s : ByteArray) : Value := .agg #[.int .i64 w, .slice a n c, .string s]

/-! ### element -/
set_option maxRecDepth 10000 in
set_option maxHeartbeats 800000 in
theorem element_is {w : Int} {a : Option Addr} {n c b m i : Nat} {s : ByteArray} (h : Bw w b) (hs : s.size = m * b) (hm : m ≤ 4096) (hi : i < m) (W : World) :
    Calls Tryd.prog 38 #[.agg #[.int .i64 w, .slice a n c, .string s], .int .i64 i] W (IntEnd (el s b i) W) := by
  have K := Lib.hid (bytesOf_is h)
  have hc := cut_extract s b i
  have hcl := cut_len (s := s) (b := b) hs hi
  obtain ⟨h1, h8, -⟩ := h.le
  have hse : (s.extract (i * b) ((i + 1) * b)).size = b := (size_list _).trans (by rw [hc]; exact hcl)
  have KR := read_is (s.extract (i * b) ((i + 1) * b)) (by omega) (by omega)
  rw [hc] at KR
  have KR' := Lib.hid (show ∀ W, Calls Tryd.prog 60 #[.string (s.extract (i * b) ((i + 1) * b))] W fun e W' => e = .returned (.int .i64 (el s b i)) ∧ W = W' from KR)
  have hle : (i + 1) * b ≤ m * b := Nat.mul_le_mul_right _ hi
  have hmb : m * b ≤ 4096 * 8 := Nat.mul_le_mul hm h8
  have hib : (i + 1) * b = i * b + b := by rw [Nat.add_mul, Nat.one_mul]
  have hw1 := mul_wrap (m := i) (b := b) (by omega) h8
  have hw2 := mul_wrap (m := i + 1) (b := b) (by omega) h8
  rw [Int.natCast_add, show ((1 : Nat) : Int) = 1 from rfl] at hw2
  rw [hs.symm] at hle hmb
  generalize el s b i = v at KR' ⊢
  clear h hs hc hcl hse KR
  generalize i * b = p at *
  generalize (i + 1) * b = q at *
  subst hib
  rw [Int.natCast_add] at hw2
  go_enter Tryd.func38, Tryd.ntmps38
  go_wp2_with fail
  refine (K.out _).mono ?_
  rintro e w1 ⟨rfl, rfl⟩
  go_wp2_with fail
  refine (KR'.out _).mono ?_
  rintro e w2 ⟨rfl, rfl⟩
  go_wp2_with fail
  go_ret
  exact ⟨rfl, box_below _ _⟩

/-! ### May, Many -/
set_option maxRecDepth 10000 in
set_option maxHeartbeats 1600000 in
theorem TMay_is {w : Int} {a : Option Addr} {n c : Nat} {l : List Int} {s : ByteArray} (W : World) (hl : Sl W a n l) (ht : WTab W) (hs : s.size ≤ maxLen) :
    Calls Tryd.prog 22 #[.agg #[.int .i64 w, .slice a n c, .string s]] W (BoolEnd (mayT w l s) W) := by
  have hb0 := box_below W (.cells #[.int .i64 w, .slice a n c, .string s] 29)
  have KS := Lib.hid (fun w' (hb : Below W.heap.size W w') => Size_is a n c l w' (hl.below hb))
  have KW := Lib.hid (isWidth_is w)
  have HT := Lib.hid ht
  unfold maxLen at hs
  have hbx := Tx.new 29 W w a n c s
  have HBX := Lib.hid hbx
  clear hl ht hbx
  by_cases hw : isW w = true
  · obtain ⟨b, hb⟩ := isW_yes.1 hw
    have KB := Lib.hid (bytesOf_is hb)
    have hwb := hb.le.2.2.2
    have hb8 := hb.le.2.1
    rw [hw] at KW
    by_cases he : szE l = 0
    · have hp := may_pr he
      have hv : mayT w l s = decide ((s.size : Int) = szV l * b) := by unfold mayT; rw [hw, he, hwb]; rfl
      rw [hv]
      rw [he] at KS
      have hzp := szV_pr he
      obtain ⟨m, hm⟩ : ∃ m : Nat, (m : Int) = szV l := ⟨(szV l).toNat, by omega⟩
      rw [← hm] at KS ⊢
      have hwr := mul_wrap (m := m) (b := b) (by omega) hb8
      have hmb : m * b ≤ 4096 * 8 := Nat.mul_le_mul (by omega) hb8
      have hmc : (m : Int) * (b : Int) = ((m * b : Nat) : Int) := (Int.natCast_mul m b).symm
      rw [hmc]
      generalize m * b = q at *
      have HV : Hid (decide ((s.size : Int) = (q : Int)) = ((s.size : Int) == (q : Int))) := Lib.hid rfl
      clear hv hwb hb hw he hp hzp hm hmc
      go_enter Tryd.func22, Tryd.ntmps22
      go_wp2_with fail
      refine (KS.out _ hb0).mono ?_
      rintro e w1 ⟨rfl, rfl⟩
      go_wp2_with fail
      go_quiet (first | ((go_at_call 31; exact quiet_eq (KW.out _ (HT.out.below (below_drewN hb0 _))))) | ((go_at_call 47; exact quiet_eq (KB.out _))))
      go_wp2_with fail
      go_ret
      exact ⟨rfl, below_drewN hb0 _⟩
    · have hv : mayT w l s = false := by unfold mayT; rw [decide_eq_false he]; simp
      rw [hv]
      generalize szV l = V at *
      generalize szE l = E at *
      have hE : (E == 0) = false := beq_eq_false_iff_ne.2 he
      clear hv hw he hwb hb hb8 KB
      go_enter Tryd.func22, Tryd.ntmps22
      go_wp2_with fail
      refine (KS.out _ hb0).mono ?_
      rintro e w1 ⟨rfl, rfl⟩
      go_wp2_with fail
      go_quiet ((go_at_call 31; exact quiet_eq (KW.out _ (HT.out.below (below_drewN hb0 _)))))
      go_wp2_with fail
      go_ret
      exact ⟨rfl, below_drewN hb0 _⟩
  · have hwf : isW w = false := by simpa using hw
    have hv : mayT w l s = false := by unfold mayT; rw [hwf]; rfl
    rw [hv]
    rw [hwf] at KW
    clear hv hw hwf
    generalize szV l = V at *
    generalize szE l = E at *
    go_enter Tryd.func22, Tryd.ntmps22
    go_wp2_with fail
    refine (KS.out _ hb0).mono ?_
    rintro e w1 ⟨rfl, rfl⟩
    go_wp2_with fail
    go_quiet ((go_at_call 31; exact quiet_eq (KW.out _ (HT.out.below (below_drewN hb0 _)))))
    go_wp2_with fail
    go_ret
    exact ⟨rfl, below_drewN hb0 _⟩
/-- How many elements there are. -/
def tm (w : Int) (l : List Int) (s : ByteArray) : Int := if mayT w l s then szV l else 0
theorem MayT.tm {w : Int} {l : List Int} {s : ByteArray} {b m : Nat} (h : MayT w l s b m) : tm w l s = m := by unfold Go.Proofs.YtdehcdnbalbdbaaDoor.tm; rw [if_pos h.yes, h.szV]
theorem tm_no {w : Int} {l : List Int} {s : ByteArray} (h : mayT w l s = false) : tm w l s = 0 := by unfold tm; rw [h]; rfl
theorem tm_bound (w : Int) (l : List Int) (s : ByteArray) : 0 ≤ tm w l s ∧ tm w l s ≤ 4096 := by
  by_cases h : mayT w l s = true
  · obtain ⟨b, m, k⟩ := mayT_yes.1 h
    have := k.le
    rw [k.tm]; omega
  · rw [tm_no (by simpa using h)]; omega
set_option maxRecDepth 10000 in
set_option maxHeartbeats 800000 in
theorem TMany_is {w : Int} {a : Option Addr} {n c : Nat} {l : List Int} {s : ByteArray} (W : World) (hl : Sl W a n l) (ht : WTab W) (hs : s.size ≤ maxLen) :
    Calls Tryd.prog 24 #[.agg #[.int .i64 w, .slice a n c, .string s]] W (IntEnd (tm w l s) W) := by
  have hb0 := box_below W (.cells #[.int .i64 w, .slice a n c, .string s] 29)
  have KM := Lib.hid (fun w' (hb : Below W.heap.size W w') => TMay_is (w := w) (c := c) (s := s) w' (hl.below hb) (ht.below hb) hs)
  have HBX := Lib.hid (Tx.new 29 W w a n c s)
  clear hl ht
  by_cases hm : mayT w l s = true
  · obtain ⟨b, m, hM⟩ := mayT_yes.1 hm
    have KB := Lib.hid (bytesOf_is hM.bw)
    have hsz := hM.sz
    have hb1 := hM.bw.le.1
    have hle := hM.le
    have hdiv : (s.size : Int) / (b : Int) = m := by
      rw [hsz, Int.natCast_mul]; exact Int.mul_ediv_cancel _ (by omega)
    have hb0' : (b : Int) ≠ 0 := by omega
    rw [hM.tm]
    rw [hm] at KM
    unfold maxLen at hs
    clear hM hm hsz hb1
    go_enter Tryd.func24, Tryd.ntmps24
    go_wp2_with fail
    refine (KM.out _ hb0).mono ?_
    rintro e w1 ⟨rfl, hb2⟩
    have hb3 := hb0.trans (hb2.mono hb0.size)
    have hB := HBX.out.on hb2
    have x0 := hB.c0
    have x2 := hB.c2
    clear hB hb2 hb0
    go_wp2_with fail
    go_quiet ((go_at_call 47; exact quiet_eq (KB.out _)))
    go_wp2_with fail
    go_ret
    exact ⟨by rw [← hdiv]; rfl, below_drewN hb3 _⟩
  · have hmf : mayT w l s = false := by simpa using hm
    rw [tm_no hmf]
    rw [hmf] at KM
    clear hm hmf
    go_enter Tryd.func24, Tryd.ntmps24
    go_wp2_with fail
    refine (KM.out _ hb0).mono ?_
    rintro e w1 ⟨rfl, hb2⟩
    go_wp2_with fail
    go_ret
    exact ⟨rfl, hb0.trans (hb2.mono hb0.size)⟩

/-! ### At -/
def AtEnd (v : Int) (b : Bool) (W : World) (e : Ending) (W' : World) : Prop := e = .returned (.tuple #[.int .i64 v, .bool b]) ∧ Below W.heap.size W W'
set_option maxRecDepth 10000 in
set_option maxHeartbeats 800000 in
theorem TAt_yes {w : Int} {a : Option Addr} {n c b m i : Nat} {l : List Int} {s : ByteArray} (W : World) (hl : Sl W a n l) (ht : WTab W) (hs : s.size ≤ maxLen) (hM : MayT w l s b m) (hi : i < m) :
    Calls Tryd.prog 16 #[.agg #[.int .i64 w, .slice a n c, .string s], .int .i64 i] W (AtEnd (el s b i) true W) := by
  have hb0 := box_below W (.cells #[.int .i64 w, .slice a n c, .string s] 29)
  have KM := fun w' (hb : Below W.heap.size W w') => TMany_is (w := w) (c := c) (s := s) w' (hl.below hb) (ht.below hb) hs
  rw [hM.tm] at KM
  have KM' := Lib.hid KM
  have KE := Lib.hid (element_is (a := a) (n := n) (c := c) hM.bw hM.sz hM.le hi)
  have HBX := Lib.hid (Tx.new 29 W w a n c s)
  have e1 : ¬ (i : Int) < 0 := by omega
  have e2 : ¬ (m : Int) ≤ (i : Int) := by omega
  generalize el s b i = v at *
  clear hl ht hM KM
  go_enter Tryd.func16, Tryd.ntmps16
  go_wp2_with fail
  refine (KM'.out _ hb0).mono ?_
  rintro e w1 ⟨rfl, hb2⟩
  have hb3 := hb0.trans (hb2.mono hb0.size)
  have hB := HBX.out.on hb2
  have x0 := hB.c0
  have x1 := hB.c1
  have x2 := hB.c2
  clear hB hb2 hb0
  go_wp2_with fail
  refine (KE.out _).mono ?_
  rintro e w2 ⟨rfl, hb4⟩
  go_wp2_with fail
  go_ret2
  exact ⟨rfl, hb3.trans (hb4.mono hb3.size)⟩
set_option maxRecDepth 10000 in
set_option maxHeartbeats 800000 in
theorem TAt_no {w i : Int} {a : Option Addr} {n c : Nat} {l : List Int} {s : ByteArray} (W : World) (hl : Sl W a n l) (ht : WTab W) (hs : s.size ≤ maxLen) (hi : i < 0 ∨ tm w l s ≤ i) :
    Calls Tryd.prog 16 #[.agg #[.int .i64 w, .slice a n c, .string s], .int .i64 i] W (AtEnd 0 false W) := by
  have hb0 := box_below W (.cells #[.int .i64 w, .slice a n c, .string s] 29)
  have KM := Lib.hid (fun w' (hb : Below W.heap.size W w') => TMany_is (w := w) (c := c) (s := s) w' (hl.below hb) (ht.below hb) hs)
  clear hl ht
  generalize tm w l s = m at *
  by_cases e1 : i < 0
  · clear hi
    go_enter Tryd.func16, Tryd.ntmps16
    go_wp2_with fail
    go_ret2
    exact ⟨rfl, hb0⟩
  · have e2 : m ≤ i := by omega
    clear hi
    go_enter Tryd.func16, Tryd.ntmps16
    go_wp2_with fail
    refine (KM.out _ hb0).mono ?_
    rintro e w1 ⟨rfl, hb2⟩
    go_wp2_with fail
    go_ret2
    exact ⟨rfl, hb0.trans (hb2.mono hb0.size)⟩
end Go.Proofs.YtdehcdnbalbdbaaDoor

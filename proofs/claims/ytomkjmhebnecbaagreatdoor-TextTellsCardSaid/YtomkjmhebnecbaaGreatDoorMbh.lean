import Derived.Test.YtomkjmhebnecbaaGreatDoorMbe
import Derived.Test.YtomkjmhebnecbaaGreatDoorMbg
import Derived.Deep.RegionHeld3
import Derived.Maps.AppendAt
/-
  The reference's Text.
-/
namespace Go.Proofs.YtomkjmhebnecbaaGreatDoor
set_option linter.unusedVariables false
set_option linter.unusedSimpArgs false
open Go.RowKit

theorem own_belowT {w w' : World} {B n e : Nat} {v : Value} {xs : List Value} {s : Nat} (h : w.ownsRow B e s v n xs) (hb : Below w.heap.size w w') : w'.ownsRow B e s v n xs := by
  refine ⟨h.1, ?_⟩
  rcases h.2 with h | ⟨g, cap, cur, hv, h1, h2, h3⟩
  · exact .inl h
  · exact .inr ⟨g, cap, cur, hv, h1, (hb.block g (Array.getElem?_eq_some_iff.1 h2).1).trans h2, h3⟩
/-- The first k of some texts, as cells. -/
def firstT (es : List (List UInt8)) (k : Nat) : List Value := valsT (es.take k)
theorem firstT_succ {es : List (List UInt8)} {k : Nat} (h : k < es.length) : firstT es k ++ [.string (tx (es.getD k []))] = firstT es (k + 1) := by
  unfold firstT valsT
  rw [List.take_succ_eq_append_getElem h, List.map_append, List.getD_eq_getElem?_getD, List.getElem?_eq_getElem h]
  rfl
theorem firstT_all {es : List (List UInt8)} {k : Nat} (h : es.length ≤ k) : firstT es k = valsT es := by unfold firstT; rw [List.take_of_length_le h]
section
variable {a b : Option Addr} {c m d : Nat} {t : ByteArray} {W : World}
def TyEnd (t : ByteArray) (W : World) (e : Ending) (W' : World) : Prop := e = .returned (.tuple #[.string t, .int .i64 0]) ∧ Below W.heap.size W W'
set_option maxHeartbeats 800000 in
theorem rText_0 (K1 : Calls Tryz.prog 18 #[.agg #[.slice a 0 c, .slice b m d]] (TxW W a 0 c b m d) (BoolEnd true (TxW W a 0 c b m d)))
    (K2 : ∀ w1, Below (TxW W a 0 c b m d).heap.size (TxW W a 0 c b m d) w1 → Bx w1 W.heap.size a 0 c b m d ∧ Calls Tryz.prog 19 #[.slice b m d] w1 (StrB t w1)) :
    Calls Tryz.prog 7 #[.agg #[.slice a 0 c, .slice b m d]] W (TxEnd t W) := by
  have hA := Bx.new W a 0 c b m d
  have hb0 : Below W.heap.size W (W.alloc (.cells #[.slice a 0 c, .slice b m d] 25)) := (Below.refl _ _).alloc (Nat.le_refl _) _
  have y0 := hA.c0
  have y1 := hA.c1
  replace K1 := Lib.hid K1
  replace K2 := Lib.hid K2
  unfold TxW at K1 K2
  clear hA
  go_enter Tryz.func7, Tryz.ntmps7
  go_wp2_with fail
  refine K1.out.mono ?_
  rintro e w1 ⟨rfl, hb1⟩
  obtain ⟨hA2, K3⟩ := K2.out w1 hb1
  have z0 := hA2.c0
  have z1 := hA2.c1
  replace K3 := Lib.hid K3
  clear y0 y1 K1 K2 hA2
  go_wp2_with fail
  refine K3.out.mono ?_
  rintro e w2 ⟨rfl, hb2⟩
  go_wp2_with fail
  go_ret2
  exact ⟨rfl, hb0.trans ((hb1.trans (hb2.mono hb1.size)).mono hb0.size)⟩
set_option maxHeartbeats 800000 in
theorem rText_1 (K1 : Calls Tryz.prog 18 #[.agg #[.slice a 1 c, .slice b m d]] (TxW W a 1 c b m d) (BoolEnd true (TxW W a 1 c b m d)))
    (K2 : ∀ w1, Below (TxW W a 1 c b m d).heap.size (TxW W a 1 c b m d) w1 → Bx w1 W.heap.size a 1 c b m d ∧ Calls Tryz.prog 20 #[.slice b m d] w1 (StrB t w1)) :
    Calls Tryz.prog 7 #[.agg #[.slice a 1 c, .slice b m d]] W (TxEnd t W) := by
  have hA := Bx.new W a 1 c b m d
  have hb0 : Below W.heap.size W (W.alloc (.cells #[.slice a 1 c, .slice b m d] 25)) := (Below.refl _ _).alloc (Nat.le_refl _) _
  have y0 := hA.c0
  have y1 := hA.c1
  replace K1 := Lib.hid K1
  replace K2 := Lib.hid K2
  unfold TxW at K1 K2
  clear hA
  go_enter Tryz.func7, Tryz.ntmps7
  go_wp2_with fail
  refine K1.out.mono ?_
  rintro e w1 ⟨rfl, hb1⟩
  obtain ⟨hA2, K3⟩ := K2.out w1 hb1
  have z0 := hA2.c0
  have z1 := hA2.c1
  replace K3 := Lib.hid K3
  clear y0 y1 K1 K2 hA2
  go_wp2_with fail
  refine K3.out.mono ?_
  rintro e w2 ⟨rfl, hb2⟩
  go_wp2_with fail
  go_ret2
  exact ⟨rfl, hb0.trans ((hb1.trans (hb2.mono hb1.size)).mono hb0.size)⟩
set_option maxHeartbeats 800000 in
theorem rText_no {n : Nat} (K1 : Calls Tryz.prog 18 #[.agg #[.slice a n c, .slice b m d]] (TxW W a n c b m d) (BoolEnd false (TxW W a n c b m d))) :
    Calls Tryz.prog 7 #[.agg #[.slice a n c, .slice b m d]] W fun e W' => e = .returned (.tuple #[.string ⟨#[]⟩, .int .i64 1]) ∧ Below W.heap.size W W' := by
  have hA := Bx.new W a n c b m d
  have hb0 : Below W.heap.size W (W.alloc (.cells #[.slice a n c, .slice b m d] 25)) := (Below.refl _ _).alloc (Nat.le_refl _) _
  have y0 := hA.c0
  have y1 := hA.c1
  replace K1 := Lib.hid K1
  unfold TxW at K1
  clear hA
  go_enter Tryz.func7, Tryz.ntmps7
  go_wp2_with fail
  refine K1.out.mono ?_
  rintro e w1 ⟨rfl, hb1⟩
  go_wp2_with fail
  go_ret2
  exact ⟨rfl, hb0.trans (hb1.mono hb0.size)⟩
set_option maxRecDepth 10000 in
set_option maxHeartbeats 6400000 in
theorem rText_2 {n : Nat} {l : List Int} {A B : ByteArray} (h2 : 2 ≤ n) (hn3 : n ≤ 3) (hs1 : A.size ≤ 4000) (hs2 : B.size ≤ 1001000002) (K1 : Calls Tryz.prog 18 #[.agg #[.slice a n c, .slice b m d]] (TxW W a n c b m d) (BoolEnd true (TxW W a n c b m d)))
    (hi : ∀ j, j < n → I64 (l.getD j 0)) (hl : l.length = n)
    (K2 : ∀ w1, Below (TxW W a n c b m d).heap.size (TxW W a n c b m d) w1 → Bx w1 W.heap.size a n c b m d ∧ Sl w1 a n l ∧ Calls Tryz.prog 20 #[.slice b m d] w1 (StrB B w1))
    (KR : ∀ w1 a' c', St w1 a' n ((l.map Lib.itoa).map tx) → Calls Tryz.prog 19 #[.slice a' n c'] w1 (StrB A w1)) :
    Calls Tryz.prog 7 #[.agg #[.slice a n c, .slice b m d]] W (TxEnd (A ++ (⟨#[35]⟩ : ByteArray) ++ B) W) := by
  have hA := Bx.new W a n c b m d
  have hb0 : Below W.heap.size W (W.alloc (.cells #[.slice a n c, .slice b m d] 25)) := (Below.refl _ _).alloc (Nat.le_refl _) _
  have y0 := hA.c0
  have y1 := hA.c1
  have e0 : ((n : Int) == 0) = false := beq_eq_false_iff_ne.2 (by omega)
  have e1 : ((n : Int) == 1) = false := beq_eq_false_iff_ne.2 (by omega)
  have q1 : ¬ (9223372036854775807 < A.size + 1) := by omega
  have q2 : ¬ (9223372036854775807 ≤ A.size) := by omega
  have q3 : ¬ (9223372036854775806 < A.size) := by omega
  have q4 : ¬ (9223372036854775807 < A.size + 1 + B.size) := by omega
  obtain ⟨i0, hi0, hz0, hz1, hz2⟩ := info_parts infoStr
  have HI := Lib.hid (And.intro hi hl)
  replace K1 := Lib.hid K1
  replace K2 := Lib.hid K2
  replace KR := Lib.hid KR
  unfold TxW at *
  clear hA h2 hs1 hs2 hi hl
  go_enter Tryz.func7, Tryz.ntmps7
  go_wp2_with fail
  refine K1.out.mono ?_
  rintro e w1 ⟨rfl, hb1⟩
  have hA2 := (K2.out w1 hb1).1
  have z0 := hA2.c0
  have z1 := hA2.c1
  have hb2 := hb0.trans (hb1.mono hb0.size)
  have HB1 := Lib.hid hb1
  have HB2 := Lib.hid hb2
  have ld := hA2.lt
  clear y0 y1 K1 hA2 hb0 hb1 hb2
  go_wp2_with fail
  go_loopw [4, 5] (fun sv iv wr => ∃ k : Nat, iv = .int .i64 k ∧ k ≤ n ∧ wr.ownsRow w1.heap.size 9 1 sv k (firstT (l.map Lib.itoa) k) ∧ Below w1.heap.size w1 wr) (fun _ iv _ => n - (intOf iv).toNat)
  case atStart => exact ⟨0, rfl, by omega, World.ownsRow_nil _ _ _ _, Below.refl _ _⟩
  case round =>
    obtain ⟨k, rfl, hk, ho, hb⟩ := hrel
    have hbw := HB1.out.trans (hb.mono HB1.out.size)
    obtain ⟨hA3, hs3, KV⟩ := K2.out wr hbw
    have x0 := hA3.c0
    have x1 := hA3.c1
    obtain ⟨sa, sc, rfl, hst0, _⟩ := owns_st (es := (l.map Lib.itoa).take k) ho
    by_cases hlt : k < n
    · have e2 : (k : Int) < (n : Int) := by omega
      obtain ⟨bb, off, rfl, hc⟩ := hs3.2 (by omega)
      have ck := hc k hlt
      have h64 := HI.out.1 k hlt
      have KO := Lib.hid (rOf_any h64 wr)
      have hkl : k < (l.map Lib.itoa).length := by rw [List.length_map, HI.out.2]; exact hlt
      have HS := firstT_succ hkl
      rw [show (l.map Lib.itoa).getD k [] = Lib.itoa (l.getD k 0) by
        rw [List.length_map] at hkl
        simp [List.getD_eq_getElem?_getD, List.getElem?_eq_getElem hkl]] at HS
      generalize l.getD k 0 = x at *
      rw [← S_tx] at HS
      replace HS := Lib.hid HS
      have HO := Lib.hid ho
      have HB := Lib.hid hb
      have w3 : IntKind.i64.wrap ((k : Int) + 1) = (k : Int) + 1 := wrk (by omega)
      clear ho hb hc h64 hkl hst0 hs3 KV hA3 hbw z0 z1
      go_wp2_with fail
      refine KO.out.mono ?_
      rintro e w5 ⟨rfl, hb5⟩
      have HO5 := Lib.hid (own_belowT HO.out hb5)
      have HB5 := Lib.hid (HB.out.trans (hb5.mono HB.out.size))
      have hsz := HB5.out.size
      clear hb5 KO HO HB ck x0 x1
      generalize S x = tk at *
      go_wp2_with (at_builtin; refine wpList_append_own _ rfl (.tmp 30) (.tmp 37) 23 rfl (w1.heap.size) 9 i0 (.string ⟨#[]⟩) 1 16 Tryz.underlying23 hi0 hz0 hz1 hz2 rfl (by decide) _ _ _ rfl (HO5.out.alloc _) ⟨w5.heap.size, 0, none⟩ 1 1 [.string tk] rfl rfl (cell_one_new _ _ _) ?c2 ?c3 ?c4 ?c5 ?_)
      case c2 => intro u hu; rw [List.mem_singleton] at hu; rw [hu]; rfl
      case c3 => unfold maxLen; omega
      case c4 => omega
      case c5 => show _ ≤ (w5.heap.push _).size; simp; omega
      intro v1 w6 hown1 hg1 _
      have hb6 : Below w1.heap.size w1 w6 := (HB5.out.alloc HB5.out.size _).grown hg1 (by show _ ≤ (w5.heap.push _).size; simp; omega) (fun q hq => by have := (HO5.out.lt q hq).1; omega)
      rw [HS.out] at hown1
      have HO6 := Lib.hid hown1
      have HB6 := Lib.hid hb6
      clear hown1 hb6 hg1 HO5 HB5
      go_wp2_with fail
      exact ⟨⟨k + 1, rfl, by omega, HO6.out, HB6.out⟩, by simp [intOf]; omega⟩
    · have e2 : ¬ (k : Int) < (n : Int) := by omega
      obtain rfl : k = n := by omega
      rw [List.take_of_length_le (by rw [List.length_map, HI.out.2]; exact Nat.le_refl _)] at hst0
      have KA := Lib.hid (fun w' (hb : Below wr.heap.size wr w') => (KR.out w' sa sc (hst0.below hb)).mono fun e W' h => (⟨h.1, hb.trans (h.2.mono hb.size)⟩ : e = .returned (.string A) ∧ Below wr.heap.size wr W'))
      have KB := Lib.hid (fun w' (hb' : Below wr.heap.size wr w') => ((K2.out w' (hbw.trans (hb'.mono hbw.size))).2.2).mono fun e W' h => (⟨h.1, hb'.trans (h.2.mono hb'.size)⟩ : e = .returned (.string B) ∧ Below wr.heap.size wr W'))
      have ldr : W.heap.size < wr.heap.size := hA3.lt
      have HB := Lib.hid (HB2.out.trans (hb.mono HB2.out.size))
      have hq : Below wr.heap.size wr wr := Below.refl _ _
      clear ho hb hst0 hs3 KV hA3 hbw z0 z1 K2 KR HI HB1 HB2
      go_wp2_with fail
      go_region_held3 (fun w' => w'.cell? ⟨W.heap.size, 0, none⟩ = some (.slice a k c) ∧ w'.cell? ⟨W.heap.size, 1, none⟩ = some (.slice b m d))
        (first | exact ⟨(Below.cell (p := ⟨W.heap.size, 0, none⟩) (by repeat' (first | exact hq | refine Below.drew ?_ | refine tt_bel ?_ _)) ldr).trans x0, (Below.cell (p := ⟨W.heap.size, 1, none⟩) (by repeat' (first | exact hq | refine Below.drew ?_ | refine tt_bel ?_ _)) ldr).trans x1⟩ | fail)
        (first
          | (go_at_call 19; (with_reducible refine (KA.out _ (by repeat' (first | exact hq | refine Below.drew ?_ | refine tt_bel ?_ _))).mono ?_); rintro e wa ⟨rfl, hq⟩)
          | (go_at_call 20; (with_reducible refine (KB.out _ (by repeat' (first | exact hq | refine Below.drew ?_ | refine tt_bel ?_ _))).mono ?_); rintro e wa ⟨rfl, hq⟩)
          | fail)
      all_goals
        go_wp2_with fail
        go_ret2
        exact ⟨rfl, HB.out.trans (hq.mono HB.out.size)⟩
end
theorem same_b {f : Nat} {args : Array Value} {l : List UInt8} {W : World} (h : Calls Tryz.prog f args W (StrSame l W)) : Calls Tryz.prog f args W (StrB (tx l) W) := h.mono fun e w' h => ⟨h.1, by rw [← h.2]; exact Below.refl _ _⟩
theorem rText_is {a b : Option Addr} {n c d : Nat} {l : List Int} {es : List (List UInt8)} (W : World) (h : Vl W a n b es.length l (es.map tx)) (hz : ∀ t ∈ es, t.length ≤ 1000000) (hn : es.length ≤ 1000000) :
    Calls Tryz.prog 7 #[.agg #[.slice a n c, .slice b es.length d]] W (TtEnd l es (mayV l (es.map tx)) W) := by
  have hA := Bx.new W a n c b es.length d
  have hb0 : Below W.heap.size W (TxW W a n c b es.length d) := (Below.refl _ _).alloc (Nat.le_refl _) _
  have K1 := rVMay_is (c := c) (d := d) (TxW W a n c b es.length d) (h.below hb0) (fun j hj => by
    rw [getD_tx es hj, tx_size]
    have := hz _ (show es.getD j [] ∈ es by rw [List.getD_eq_getElem?_getD, List.getElem?_eq_getElem hj]; exact List.getElem_mem hj)
    unfold maxLen
    omega)
  cases hv : mayV l (es.map tx) with
  | false =>
    rw [hv] at K1
    exact rText_no K1
  | true =>
    rw [hv] at K1
    have hm := mayV_yes.1 hv
    have hmay := szE_may.1 hm.e
    have hln := h.s.1
    have hl3 := hmay.len
    have pre : ∀ w1, Below (TxW W a n c b es.length d).heap.size (TxW W a n c b es.length d) w1 → Bx w1 W.heap.size a n c b es.length d ∧ Sl w1 a n l ∧ St w1 b es.length (es.map tx) := fun w1 hb1 =>
      ⟨hA.below hb1 hA.lt, (h.below hb0).s.below hb1, (h.below hb0).t.below hb1⟩
    have hend : ∀ e W', TxEnd (tx (arrT litT Lib.itoa l es)) W e W' → TtEnd l es true W e W' := fun e W' h => h
    refine Calls.mono ?_ hend
    by_cases h0 : l.length = 0
    · obtain rfl := List.length_eq_zero_iff.1 h0
      obtain rfl : n = 0 := hln.symm
      exact rText_0 K1 fun w1 hb => ⟨(pre w1 hb).1, same_b (rrow_is b d es w1 (pre w1 hb).2.2 hz hn)⟩
    · by_cases h1 : l.length = 1
      · obtain ⟨x, rfl⟩ := List.length_eq_one_iff.1 h1
        obtain rfl : n = 1 := hln.symm
        exact rText_1 K1 fun w1 hb => ⟨(pre w1 hb).1, same_b (rvec_is b d es w1 (pre w1 hb).2.2 hz hn)⟩
      · have hlm : (l.map Lib.itoa).length = n := by rw [List.length_map]; exact hln
        have hz1 := rowT_len (l.map Lib.itoa)
        have hz2 := vecT_len es
        rw [hlm] at hz1
        have hal : ∀ t ∈ l.map Lib.itoa, t.length ≤ 1000000 := fun t ht => by
          obtain ⟨z, hz, rfl⟩ := List.mem_map.1 ht
          obtain ⟨j, hj, rfl⟩ := mem_at hz
          have := fig_len (may_i64 hmay rfl j hj)
          omega
        have hc1 : tx (arrT litT Lib.itoa l es) = tx (rowT litT (l.map Lib.itoa)) ++ (⟨#[35]⟩ : ByteArray) ++ tx (vecT litT es) := by
          rw [show (⟨#[35]⟩ : ByteArray) = tx [35] from rfl, tx_cat, tx_cat]
          congr 1
          match l, h0, h1 with
          | x :: y :: r, _, _ =>
            show rowT litT ((x :: y :: r).map Lib.itoa) ++ 35 :: vecT litT es = _
            simp
        rw [hc1]
        refine rText_2 (l := l) (by omega) (by omega) (by rw [tx_size]; omega) (by rw [tx_size]; omega) K1 (may_i64 hmay hln) hln (fun w1 hb => ⟨(pre w1 hb).1, (pre w1 hb).2.1, same_b (rvec_is b d es w1 (pre w1 hb).2.2 hz hn)⟩) fun w1 a' c' hs => ?_
        have := rrow_is a' c' (l.map Lib.itoa) w1 (by rw [hlm]; exact hs) hal (by omega)
        rw [hlm] at this
        exact same_b this
end Go.Proofs.YtomkjmhebnecbaaGreatDoor

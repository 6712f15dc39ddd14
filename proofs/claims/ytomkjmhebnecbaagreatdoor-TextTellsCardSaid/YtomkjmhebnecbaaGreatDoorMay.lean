import Derived.Test.YtomkjmhebnecbaaGreatDoorMax
/-
  text.Text of any array.
-/
namespace Go.Proofs.YtomkjmhebnecbaaGreatDoor
set_option linter.unusedVariables false
set_option linter.unusedSimpArgs false
open Go.RowKit

def TtEnd (l : List Int) (es : List (List UInt8)) (v : Bool) (W : World) (e : Ending) (W' : World) : Prop :=
  e = .returned (.tuple #[.string (tx (if v then arrT litT Lib.itoa l es else [])), .int .i64 (if v then 0 else 1)]) ∧ Below W.heap.size W W'
theorem str_base {B w : World} {f : Nat} {args : Array Value} {t : List UInt8} (hb : Below B.heap.size B w) (h : Calls Tryz.prog f args w (StrBelow t w)) : Calls Tryz.prog f args w (fun e W' => e = .returned (.string (tx t)) ∧ Below B.heap.size B W') :=
  h.mono fun e W' h => ⟨h.1, hb.trans (h.2.mono hb.size)⟩
theorem tt_bel {B : Nat} {a w : World} (h : Below B a w) (n : Nat) : Below B a (w.drewN n) := ⟨h.os, h.tape, h.output, h.size, h.block⟩
theorem may_i64 {l : List Int} (h : MayL l) {n : Nat} (hn : l.length = n) : ∀ j, j < n → I64 (l.getD j 0) := fun j hj => by
  have h1 := h.nn j (by omega)
  have h2 := h.le j (by omega)
  exact ⟨by omega, by omega⟩
def TxW (W : World) (a : Option Addr) (n c : Nat) (b : Option Addr) (m d : Nat) : World := W.alloc (.cells #[.slice a n c, .slice b m d] 25)
def TxEnd (t : ByteArray) (W : World) (e : Ending) (W' : World) : Prop := e = .returned (.tuple #[.string t, .int .i64 0]) ∧ Below W.heap.size W W'
def StrB (t : ByteArray) (W : World) (e : Ending) (W' : World) : Prop := e = .returned (.string t) ∧ Below W.heap.size W W'
section
variable {a b : Option Addr} {c m d : Nat} {t : ByteArray} {W : World}
set_option maxHeartbeats 800000 in
theorem Text_0 (K1 : Calls Tryz.prog 12 #[.agg #[.slice a 0 c, .slice b m d]] (TxW W a 0 c b m d) (BoolEnd true (TxW W a 0 c b m d)))
    (K2 : ∀ w1, Below (TxW W a 0 c b m d).heap.size (TxW W a 0 c b m d) w1 → Bx w1 W.heap.size a 0 c b m d ∧ Calls Tryz.prog 16 #[.int .i64 1, Fv 15 W.heap.size] w1 (StrB t w1)) :
    Calls Tryz.prog 6 #[.agg #[.slice a 0 c, .slice b m d]] W (TxEnd t W) := by
  have hA := Bx.new W a 0 c b m d
  have hb0 : Below W.heap.size W (W.alloc (.cells #[.slice a 0 c, .slice b m d] 25)) := (Below.refl _ _).alloc (Nat.le_refl _) _
  have y0 := hA.c0
  have y1 := hA.c1
  replace K1 := Lib.hid K1
  replace K2 := Lib.hid K2
  unfold TxW at K1 K2
  clear hA
  go_enter Tryz.func6, Tryz.ntmps6
  go_wp2_with fail
  refine K1.out.mono ?_
  rintro e w1 ⟨rfl, hb1⟩
  obtain ⟨hA2, K3⟩ := K2.out w1 hb1
  have z0 := hA2.c0
  have z1 := hA2.c1
  unfold Fv at K3
  replace K3 := Lib.hid K3
  clear y0 y1 K1 K2 hA2
  go_wp2_with fail
  refine K3.out.mono ?_
  rintro e w2 ⟨rfl, hb2⟩
  go_wp2_with fail
  go_ret2
  exact ⟨rfl, hb0.trans ((hb1.trans (hb2.mono hb1.size)).mono hb0.size)⟩
set_option maxHeartbeats 800000 in
theorem Text_1 (K1 : Calls Tryz.prog 12 #[.agg #[.slice a 1 c, .slice b m d]] (TxW W a 1 c b m d) (BoolEnd true (TxW W a 1 c b m d)))
    (K2 : ∀ w1, Below (TxW W a 1 c b m d).heap.size (TxW W a 1 c b m d) w1 → Bx w1 W.heap.size a 1 c b m d ∧ Calls Tryz.prog 17 #[.int .i64 m, Fv 15 W.heap.size] w1 (StrB t w1)) :
    Calls Tryz.prog 6 #[.agg #[.slice a 1 c, .slice b m d]] W (TxEnd t W) := by
  have hA := Bx.new W a 1 c b m d
  have hb0 : Below W.heap.size W (W.alloc (.cells #[.slice a 1 c, .slice b m d] 25)) := (Below.refl _ _).alloc (Nat.le_refl _) _
  have y0 := hA.c0
  have y1 := hA.c1
  replace K1 := Lib.hid K1
  replace K2 := Lib.hid K2
  unfold TxW at K1 K2
  clear hA
  go_enter Tryz.func6, Tryz.ntmps6
  go_wp2_with fail
  refine K1.out.mono ?_
  rintro e w1 ⟨rfl, hb1⟩
  obtain ⟨hA2, K3⟩ := K2.out w1 hb1
  have z0 := hA2.c0
  have z1 := hA2.c1
  unfold Fv at K3
  replace K3 := Lib.hid K3
  clear y0 y1 K1 K2 hA2
  go_wp2_with fail
  refine K3.out.mono ?_
  rintro e w2 ⟨rfl, hb2⟩
  go_wp2_with fail
  go_ret2
  exact ⟨rfl, hb0.trans ((hb1.trans (hb2.mono hb1.size)).mono hb0.size)⟩
set_option maxRecDepth 10000 in
set_option maxHeartbeats 6400000 in
theorem Text_2 {n : Nat} {A B : ByteArray} (h2 : 2 ≤ n) (hs1 : A.size ≤ 4000) (hs2 : B.size ≤ 1001000002) (K1 : Calls Tryz.prog 12 #[.agg #[.slice a n c, .slice b m d]] (TxW W a n c b m d) (BoolEnd true (TxW W a n c b m d)))
    (K2 : ∀ w1, Below (TxW W a n c b m d).heap.size (TxW W a n c b m d) w1 → Bx w1 W.heap.size a n c b m d ∧ Calls Tryz.prog 16 #[.int .i64 n, Fv 13 W.heap.size] w1 (StrB A w1) ∧ Calls Tryz.prog 17 #[.int .i64 m, Fv 15 W.heap.size] w1 (StrB B w1)) :
    Calls Tryz.prog 6 #[.agg #[.slice a n c, .slice b m d]] W (TxEnd (A ++ (⟨#[35]⟩ : ByteArray) ++ B) W) := by
  have hA := Bx.new W a n c b m d
  have hb0 : Below W.heap.size W (W.alloc (.cells #[.slice a n c, .slice b m d] 25)) := (Below.refl _ _).alloc (Nat.le_refl _) _
  have y0 := hA.c0
  have y1 := hA.c1
  have e0 : ((n : Int) == 0) = false := beq_eq_false_iff_ne.2 (by omega)
  have e1 : ((n : Int) == 1) = false := beq_eq_false_iff_ne.2 (by omega)
  have q1 : ¬ (9223372036854775807 < A.size + 1) := by omega
  have q2 : ¬ (9223372036854775807 ≤ A.size) := by omega
  have q3 : ¬ (9223372036854775806 < A.size) := by omega
  have q4 : ¬ (9223372036854775807 < A.size + 1 + B.size) := by omega
  replace K1 := Lib.hid K1
  replace K2 := Lib.hid K2
  unfold TxW Fv at *
  clear hA h2 hs1 hs2
  go_enter Tryz.func6, Tryz.ntmps6
  go_wp2_with fail
  refine K1.out.mono ?_
  rintro e w1 ⟨rfl, hb1⟩
  have hA2 := (K2.out w1 hb1).1
  have z0 := hA2.c0
  have z1 := hA2.c1
  have ld := hA2.lt
  have KA := Lib.hid (fun w' (hb : Below w1.heap.size w1 w') => ((K2.out w' (hb1.trans (hb.mono hb1.size))).2.1).mono fun e W' h => (⟨h.1, hb.trans (h.2.mono hb.size)⟩ : e = .returned (.string A) ∧ Below w1.heap.size w1 W'))
  have KB := Lib.hid (fun w' (hb : Below w1.heap.size w1 w') => ((K2.out w' (hb1.trans (hb.mono hb1.size))).2.2).mono fun e W' h => (⟨h.1, hb.trans (h.2.mono hb.size)⟩ : e = .returned (.string B) ∧ Below w1.heap.size w1 W'))
  have hq : Below w1.heap.size w1 w1 := Below.refl _ _
  have HB := Lib.hid (hb0.trans (hb1.mono hb0.size))
  clear y0 y1 K1 K2 hA2 hb0 hb1
  go_wp2_with fail
  go_region_held3 (fun w' => w'.cell? ⟨W.heap.size, 0, none⟩ = some (.slice a n c) ∧ w'.cell? ⟨W.heap.size, 1, none⟩ = some (.slice b m d))
    (first | exact ⟨(Below.cell (p := ⟨W.heap.size, 0, none⟩) (by repeat' (first | exact hq | refine Below.drew ?_ | refine tt_bel ?_ _)) ld).trans z0, (Below.cell (p := ⟨W.heap.size, 1, none⟩) (by repeat' (first | exact hq | refine Below.drew ?_ | refine tt_bel ?_ _)) ld).trans z1⟩ | fail)
    (first
      | (go_at_call 16; (with_reducible refine (KA.out _ (by repeat' (first | exact hq | refine Below.drew ?_ | refine tt_bel ?_ _))).mono ?_); rintro e wa ⟨rfl, hq⟩)
      | (go_at_call 17; (with_reducible refine (KB.out _ (by repeat' (first | exact hq | refine Below.drew ?_ | refine tt_bel ?_ _))).mono ?_); rintro e wa ⟨rfl, hq⟩)
      | fail)
  all_goals
    go_wp2_with fail
    go_ret2
    exact ⟨rfl, HB.out.trans (hq.mono HB.out.size)⟩
end
theorem strb_of {f : Nat} {args : Array Value} {l : List UInt8} {W : World} (h : Calls Tryz.prog f args W (StrBelow l W)) : Calls Tryz.prog f args W (StrB (tx l) W) := h
theorem fig_len {x : Int} (h : I64 x) : (Lib.itoa x).length ≤ 1000 := by
  have := mayL_len ((mayL_itoa x).2 (lim_i64 h.1 h.2))
  omega
theorem Text_may {a b : Option Addr} {n c d : Nat} {l : List Int} {es : List (List UInt8)} (W : World) (h : Vl W a n b es.length l (es.map tx)) (hz : ∀ t ∈ es, t.length ≤ 1000) :
    Calls Tryz.prog 12 #[.agg #[.slice a n c, .slice b es.length d]] W (BoolEnd (mayV l (es.map tx)) W) :=
  VMay_is (c := c) (d := d) W h (fun j hj => by
    rw [getD_tx es hj, tx_size]
    have := hz _ (show es.getD j [] ∈ es by rw [List.getD_eq_getElem?_getD, List.getElem?_eq_getElem hj]; exact List.getElem_mem hj)
    unfold maxLen
    omega)
set_option maxHeartbeats 800000 in
theorem Text_no {a b : Option Addr} {n c m d : Nat} {W : World} (K1 : Calls Tryz.prog 12 #[.agg #[.slice a n c, .slice b m d]] (TxW W a n c b m d) (BoolEnd false (TxW W a n c b m d))) :
    Calls Tryz.prog 6 #[.agg #[.slice a n c, .slice b m d]] W fun e W' => e = .returned (.tuple #[.string ⟨#[]⟩, .int .i64 1]) ∧ Below W.heap.size W W' := by
  have hA := Bx.new W a n c b m d
  have hb0 : Below W.heap.size W (W.alloc (.cells #[.slice a n c, .slice b m d] 25)) := (Below.refl _ _).alloc (Nat.le_refl _) _
  have y0 := hA.c0
  have y1 := hA.c1
  replace K1 := Lib.hid K1
  unfold TxW at K1
  clear hA
  go_enter Tryz.func6, Tryz.ntmps6
  go_wp2_with fail
  refine K1.out.mono ?_
  rintro e w1 ⟨rfl, hb1⟩
  go_wp2_with fail
  go_ret2
  exact ⟨rfl, hb0.trans (hb1.mono hb0.size)⟩
theorem Text_is {a b : Option Addr} {n c d : Nat} {l : List Int} {es : List (List UInt8)} (W : World) (h : Vl W a n b es.length l (es.map tx)) (hz : ∀ t ∈ es, t.length ≤ 1000) (hn : es.length ≤ 1000000) (ht : Tab W) :
    Calls Tryz.prog 6 #[.agg #[.slice a n c, .slice b es.length d]] W (TtEnd l es (mayV l (es.map tx)) W) := by
  have hA := Bx.new W a n c b es.length d
  have hb0 : Below W.heap.size W (TxW W a n c b es.length d) := (Below.refl _ _).alloc (Nat.le_refl _) _
  have K1 := Text_may (c := c) (d := d) (TxW W a n c b es.length d) (h.below hb0) hz
  cases hv : mayV l (es.map tx) with
  | false =>
    rw [hv] at K1
    exact Text_no K1
  | true =>
    rw [hv] at K1
    have hm := mayV_yes.1 hv
    have hmay := szE_may.1 hm.e
    have hpr : ((es.length : Nat) : Int) = pr l := by have := hm.len; rwa [List.length_map] at this
    have hln := h.s.1
    have hl3 := hmay.len
    have pre : ∀ w1, Below (TxW W a n c b es.length d).heap.size (TxW W a n c b es.length d) w1 → Bx w1 W.heap.size a n c b es.length d ∧ Tells 15 W.heap.size es w1 ∧ Tells 13 W.heap.size (l.map Lib.itoa) w1 := fun w1 hb1 => by
      have hA2 := hA.below hb1 hA.lt
      exact ⟨hA2, el_tells hA2 ((h.below hb0).t.below hb1) hn, ax_tells hA2 ((h.below hb0).s.below hb1) (by omega) (may_i64 hmay hln) ((ht.below hb0).below hb1)⟩
    have hend : ∀ e W', TxEnd (tx (arrT litT Lib.itoa l es)) W e W' → TtEnd l es true W e W' := fun e W' h => h
    refine Calls.mono ?_ hend
    by_cases h0 : l.length = 0
    · obtain rfl := List.length_eq_zero_iff.1 h0
      obtain rfl : n = 0 := hln.symm
      have hl1 : es.length = 1 := by have : pr [] = 1 := rfl; omega
      exact Text_0 K1 fun w1 hb => ⟨(pre w1 hb).1, by
        have := row_is 15 W.heap.size enter_el es (by omega) hn hz w1 (pre w1 hb).2.1
        rw [hl1] at this
        exact strb_of this⟩
    · by_cases h1 : l.length = 1
      · obtain ⟨x, rfl⟩ := List.length_eq_one_iff.1 h1
        obtain rfl : n = 1 := hln.symm
        exact Text_1 K1 fun w1 hb => ⟨(pre w1 hb).1, strb_of (vector_is 15 W.heap.size enter_el es hn hz w1 (pre w1 hb).2.1)⟩
      · have hal : ∀ t ∈ l.map Lib.itoa, t.length ≤ 1000 := fun t ht => by
          obtain ⟨z, hz, rfl⟩ := List.mem_map.1 ht
          obtain ⟨j, hj, rfl⟩ := mem_at hz
          exact fig_len (may_i64 hmay rfl j hj)
        have hlm : (l.map Lib.itoa).length = n := by rw [List.length_map]; exact hln
        have hz1 := row_len hal
        have hz2 := vec_len hz
        rw [hlm] at hz1
        have hc1 : tx (arrT litT Lib.itoa l es) = tx (rowT litT (l.map Lib.itoa)) ++ (⟨#[35]⟩ : ByteArray) ++ tx (vecT litT es) := by
          rw [show (⟨#[35]⟩ : ByteArray) = tx [35] from rfl, tx_cat, tx_cat]
          congr 1
          match l, h0, h1 with
          | x :: y :: r, _, _ =>
            show rowT litT ((x :: y :: r).map Lib.itoa) ++ 35 :: vecT litT es = _
            simp
        rw [hc1]
        exact Text_2 (by omega) (by rw [tx_size]; omega) (by rw [tx_size]; omega) K1 fun w1 hb => ⟨(pre w1 hb).1, by
          have := row_is 13 W.heap.size enter_ax (l.map Lib.itoa) (by omega) (by omega) hal w1 (pre w1 hb).2.2
          rw [hlm] at this
          exact strb_of this, strb_of (vector_is 15 W.heap.size enter_el es hn hz w1 (pre w1 hb).2.1)⟩
end Go.Proofs.YtomkjmhebnecbaaGreatDoor

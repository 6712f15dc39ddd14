/-
  Where the trees below a node begin: of the program, and of the reference; whether two lists of places are the same.
-/
import Derived.Test.YtiopemimancliaaYd
namespace Go.Proofs.Ytiopemimancliaa
open Go.RowKit

theorem eN_one {K : List Int} {m p e : Nat} (h : eN K (m + 1) p = some e) : ∃ q, eN K 1 p = some q ∧ eN K m q = some e ∧ p < q ∧ q ≤ e ∧ un K (m + 1) p = p :: un K m q := by
  rw [Nat.add_comm, eN_sum, Option.bind_eq_some_iff] at h
  obtain ⟨q, h1, h2⟩ := h
  obtain ⟨d1, g1⟩ := Fd.ex h1
  obtain ⟨d2, g2⟩ := Fd.ex h2
  have := g1.le.1
  have := g2.le.1
  exact ⟨q, h1, h2, by omega, by omega, un_cons h1⟩
/-- Places in a row. -/
def vn (l : List Nat) : List Value := l.map fun x : Nat => Value.int .i64 (x : Int)
theorem vn_len (l : List Nat) : (vn l).length = l.length := by simp [vn]
/-- A slice of places, read. -/
def Pl (W : World) (a : Option Addr) (l : List Nat) : Prop := 0 < l.length → ∃ b off, a = some ⟨b, off, none⟩ ∧ ∀ (j x : Nat), l[j]? = some x → W.cell? ⟨b, off + j, none⟩ = some (.int .i64 (x : Int))
theorem Pl.below {W W' : World} {a : Option Addr} {l : List Nat} (h : Pl W a l) (hb : Below W.heap.size W W') : Pl W' a l := by
  intro hn
  obtain ⟨b, off, e, hc⟩ := h hn
  exact ⟨b, off, e, fun j x hj => (hb.cell (show (⟨b, off + j, none⟩ : Addr).block < W.heap.size from World.block_lt_of_cell? W _ (hc j x hj))).trans (hc j x hj)⟩
theorem own_pl {w : World} {base : Nat} {v : Value} {l : List Nat} {n : Nat} (h : w.ownsRow base 3 1 v n (vn l)) : l.length = n ∧ ∃ a c, v = .slice a n c ∧ n ≤ c ∧ c ≤ maxLen ∧ Pl w a l := by
  have hl : l.length = n := by have := h.1; rw [vn_len, Nat.mul_one] at this; exact this
  refine ⟨hl, ?_⟩
  rcases h.2 with ⟨rfl, rfl⟩ | ⟨g, cap, cur, rfl, h0, hg, h1, h2, h3, h4⟩
  · exact ⟨none, 0, rfl, Nat.le_refl _, by unfold maxLen; omega, fun h => by omega⟩
  · refine ⟨_, cap, rfl, by omega, h2, fun _ => ⟨g, 0, rfl, fun j x hj => ?_⟩⟩
    have hj2 := (List.getElem?_eq_some_iff.1 hj).1
    rw [Nat.zero_add, cell_of_row _ _ _ _ _ _ hg, ← Array.getElem?_toList]
    have e : cur.toList[j]? = (cur.toList.take (n * 1))[j]? := by rw [List.getElem?_take_of_lt (by omega)]
    rw [e, h4]
    simp [vn, hj]
/-- What Under tells. -/
def UnEnd (l : List Nat) (W : World) (e : Ending) (W' : World) : Prop := ∃ a c, e = .returned (.slice a l.length c) ∧ l.length ≤ c ∧ c ≤ maxLen ∧ Pl W' a l ∧ Below W.heap.size W W'
def unI (K : List Int) (i : Int) : List Nat :=
  match enI K i with
  | none => []
  | some _ => un K ((K.getD i.toNat 0).toNat) (i.toNat + 1)
theorem UnEnd.none_ {W W' : World} (hb : Below W.heap.size W W') : UnEnd [] W (.returned (.slice none 0 0)) W' := ⟨none, 0, rfl, Nat.le_refl _, by unfold maxLen; omega, fun h => by simp at h, hb⟩
theorem UnEnd.own {w W : World} {v : Value} {l xs : List Nat} {n : Nat} (h : w.ownsRow W.heap.size 3 1 v n (vn xs)) (he : l = xs) (hb : Below W.heap.size W w) : UnEnd l W (.returned v) w := by
  subst he
  obtain ⟨rfl, a, c, rfl, h1, h2, h3⟩ := own_pl h
  exact ⟨a, c, rfl, h1, h2, h3, hb⟩
theorem tree_at {K : List Int} {p e : Nat} (h : eN K 1 p = some e) : ∃ y : Nat, K[p]? = some (y : Int) ∧ eN K y (p + 1) = some e ∧ p < e ∧ e ≤ K.length ∧ unI K p = un K y (p + 1) := by
  obtain ⟨d, hd⟩ := Fd.ex h
  have hl := hd.lt (by omega)
  have hle := hd.le
  obtain ⟨k, q, d1, d2, hk, h0, g1, _, g2, _⟩ := hd.inv
  obtain ⟨rfl, _⟩ := g2.inv0
  obtain ⟨y, rfl⟩ : ∃ y : Nat, k = y := ⟨k.toNat, by omega⟩
  refine ⟨y, hk, g1.ends, by omega, hle.2 (by omega), ?_⟩
  unfold unI
  rw [enI_nat, h]
  show un K _ _ = _
  rw [Int.toNat_natCast, List.getD_eq_getElem?_getD, hk, Option.getD_some, Int.toNat_natCast]
theorem infoI : (Try.prog.info? 3).map (fun i => (i.zero, i.size, i.bytes)) = some (some (.int .i64 0), 1, 8) := by kernel_rfl
set_option maxHeartbeats 3200000 in
theorem Under_is (a : Option Addr) (n c : Nat) (f : Nat → Nd) (i : Int) (W : World) (h : Nq W a n f) (hn : n ≤ 1000000) (hi : i ≤ 9223372036854775807) :
    Calls Try.prog 14 #[.slice a n c, .int .i64 i] W (UnEnd (unI (ksF f n) i) W) := by
  have KE := End_is a n c f i W h hn hi
  cases he : enI (ksF f n) i with
  | none =>
    rw [he] at KE
    replace KE := Lib.hid KE
    unfold unI
    rw [he]
    clear he
    go_enter Try.func14, Try.ntmps14
    go_wp2_with fail
    refine KE.out.mono ?_
    rintro e w1 ⟨rfl, hb⟩
    unfold endV
    go_wp2_with fail
    go_ret
    exact .none_ hb
  | some e =>
    have h0 : ¬ i < 0 := by
      intro h0
      unfold enI at he
      rw [if_pos h0] at he
      cases he
    obtain ⟨p, rfl⟩ : ∃ p : Nat, i = p := ⟨i.toNat, by omega⟩
    rw [he] at KE
    replace KE := Lib.hid KE
    rw [enI_nat] at he
    obtain ⟨y, hk, he2, hpe, hen, hu⟩ := tree_at he
    rw [ks_len] at hen
    have hlt : p < n := by omega
    rw [ks_at hlt] at hk
    injection hk with hk
    rw [hu]
    have hy : (y : Int) ≤ 3 := by rw [← hk]; exact (kd_le _ _).2
    have H := Lib.hid h
    obtain ⟨gb, off, rfl, hc⟩ := h.ld (by omega)
    have HC := Lib.hid (hc p hlt)
    have KK := Lib.hid (fun w => Kids_is (f p).k (f p).v (f p).a (f p).x (f p).g (f p).m (f p).c w)
    rw [hk] at KK
    have HE := Lib.hid he2
    have e1 : (p : Int) < (n : Int) := by omega
    have w3 : IntKind.i64.wrap ((p : Int) + 1) = (p : Int) + 1 := wrn (by omega) (by omega)
    clear h hc hk he2 he hu
    go_enter Try.func14, Try.ntmps14
    go_wp2_with fail
    refine KE.out.mono ?_
    rintro e' w1 ⟨rfl, hb⟩
    obtain ⟨c0, c1, c2, c3, c4⟩ := HC.out.below hb HC.out.lt
    unfold endV
    clear KE
    go_wp2_with fail
    refine (KK.out _).mono ?_
    rintro e' w2 ⟨rfl, hb1⟩
    replace hb := hb.trans (hb1.mono hb.size)
    clear c0 c1 c2 c3 c4 hb1 KK HC
    go_wp2_with fail
    go_loopw [7, 8, 24] (fun bv av kv wr => ∃ (q j : Nat) (xs : List Nat), av = .int .i64 q ∧ kv = .int .i64 j ∧ j ≤ y ∧ un (ksF f n) y (p + 1) = xs ++ un (ksF f n) (y - j) q ∧ eN (ksF f n) (y - j) q = some e ∧ wr.ownsRow W.heap.size 3 1 bv j (vn xs) ∧ Below W.heap.size W wr) (fun _ _ kv _ => y - (intOf kv).toNat)
    case atStart => exact ⟨p + 1, 0, [], by go_num, rfl, by omega, rfl, HE.out, ⟨rfl, .inl ⟨rfl, rfl⟩⟩, hb⟩
    case round =>
      clear hb
      obtain ⟨q, j, xs, rfl, rfl, hj, hu, he, ho, hb⟩ := hrel
      by_cases hjy : j < y
      · have e3 : (j : Int) < (y : Int) := by omega
        rw [show y - j = (y - (j + 1)) + 1 by omega] at hu he
        obtain ⟨q2, he1, he2, hq, hqe, hu2⟩ := eN_one he
        rw [hu2] at hu
        have KE := Lib.hid (fun w hw => he1 ▸ End_in (some ⟨gb, off, none⟩) n c f q w hw hn (by omega))
        have HU := Lib.hid hu
        have HE2 := Lib.hid he2
        have hsz := hb.size
        clear he hu hu2 he1 he2 HE
        obtain ⟨i0, hi, hz0, hz1, hz2⟩ := info_parts infoI
        go_wp2_with (at_builtin; refine wpList_append_own _ rfl (.tmp 26) (.tmp 28) 32 rfl W.heap.size 3 i0 (.int .i64 0) 1 8 Try.underlying32 hi hz0 hz1 hz2 rfl (by decide) _ _ _ rfl (ho.alloc _) ⟨wr.heap.size, 0, none⟩ 1 1 [.int .i64 q] rfl rfl ?c1 ?c2 ?c3 ?c4 ?c5 ?_)
        case c1 =>
          intro k u hk
          rw [Go.WideShapes.add_plain, Nat.zero_add, cell_of_row _ _ _ _ _ _ (heap_alloc_new wr _), ← hk, ← Array.getElem?_toList]
        case c2 => intro u hu; simp at hu; rcases hu with rfl; rfl
        case c3 => unfold maxLen; omega
        case c4 => omega
        case c5 => simp; omega
        intro v' w3 hown' hgrow hnn'
        have hb' : Below W.heap.size W w3 := (hb.alloc hsz _).grown hgrow (by simp; omega) (fun k hk => (ho.lt k hk).1)
        have HO := Lib.hid hown'
        have KE2 := Lib.hid (KE.out w3 (H.out.below hb'))
        clear hgrow ho hb hnn' hown' hsz KE
        go_wp2_with fail
        refine KE2.out.mono ?_
        rintro e' w4 ⟨rfl, hb1⟩
        have HO2 := Lib.hid (own_below5 HO.out hb1)
        replace hb' := hb'.trans (hb1.mono hb'.size)
        unfold endV
        clear hb1 KE2 HO
        go_wp2_with fail
        refine ⟨⟨q2, j + 1, xs ++ [q], rfl, by go_num, by omega, by rw [List.append_assoc]; exact HU.out, HE2.out, by have := HO2.out; unfold vn at this ⊢; rw [List.map_append]; exact this, hb'⟩, by simp [intOf]; omega⟩
      · have e3 : ¬ (j : Int) < (y : Int) := by omega
        obtain rfl : j = y := by omega
        rw [Nat.sub_self] at hu
        have HU := Lib.hid hu
        clear hu he HE
        go_wp2_with fail
        go_ret
        exact .own ho (HU.out.trans (List.append_nil _)) hb
set_option maxHeartbeats 3200000 in
theorem rUnder_is (a : Option Addr) (n c : Nat) (f : Nat → Nd) (i : Int) (W : World) (h : Nq W a n f) (hn : n ≤ 1000000) :
    Calls Try.prog 15 #[.slice a n c, .int .i64 i] W (UnEnd (unI (ksF f n) i) W) := by
  have KE := rEnd_is a n c f i W h hn
  cases he : enI (ksF f n) i with
  | none =>
    rw [he] at KE
    replace KE := Lib.hid KE
    unfold unI
    rw [he]
    clear he
    go_enter Try.func15, Try.ntmps15
    go_wp2_with fail
    refine KE.out.mono ?_
    rintro e w1 ⟨rfl, hb⟩
    unfold endV
    go_wp2_with fail
    go_ret
    exact .none_ hb
  | some e =>
    have h0 : ¬ i < 0 := by
      intro h0
      unfold enI at he
      rw [if_pos h0] at he
      cases he
    obtain ⟨p, rfl⟩ : ∃ p : Nat, i = p := ⟨i.toNat, by omega⟩
    rw [he] at KE
    replace KE := Lib.hid KE
    rw [enI_nat] at he
    obtain ⟨y, hk, he2, hpe, hen, hu⟩ := tree_at he
    rw [ks_len] at hen
    have hlt : p < n := by omega
    rw [ks_at hlt] at hk
    injection hk with hk
    rw [hu]
    have hy : (y : Int) ≤ 3 := by rw [← hk]; exact (kd_le _ _).2
    have H := Lib.hid h
    obtain ⟨gb, off, rfl, hc⟩ := h.ld (by omega)
    have HC := Lib.hid (hc p hlt)
    have KK := Lib.hid (fun w => rKids_is (f p).k (f p).v (f p).a (f p).x (f p).g (f p).m (f p).c w)
    rw [hk] at KK
    have HE := Lib.hid he2
    have e1 : (p : Int) < (n : Int) := by omega
    have w3 : IntKind.i64.wrap ((p : Int) + 1) = (p : Int) + 1 := wrn (by omega) (by omega)
    clear h hc hk he2 he hu
    go_enter Try.func15, Try.ntmps15
    go_wp2_with fail
    refine KE.out.mono ?_
    rintro e' w1 ⟨rfl, hb⟩
    unfold endV
    clear KE
    go_wp2_with fail
    go_loopw [5, 8, 9] (fun bv av kv wr => ∃ (q j : Nat) (xs : List Nat), av = .int .i64 q ∧ kv = .int .i64 j ∧ j ≤ y ∧ un (ksF f n) y (p + 1) = xs ++ un (ksF f n) (y - j) q ∧ eN (ksF f n) (y - j) q = some e ∧ wr.ownsRow W.heap.size 3 1 bv j (vn xs) ∧ Below W.heap.size W wr) (fun _ _ kv _ => y - (intOf kv).toNat)
    case atStart => exact ⟨p + 1, 0, [], by go_num, rfl, by omega, rfl, HE.out, ⟨rfl, .inl ⟨rfl, rfl⟩⟩, hb⟩
    case round =>
      clear hb
      obtain ⟨q, j, xs, rfl, rfl, hj, hu, he, ho, hb⟩ := hrel
      have HU0 := Lib.hid hu
      have HQ0 := Lib.hid he
      obtain ⟨c0, c1, c2, c3, c4⟩ := HC.out.below hb HC.out.lt
      clear hu he
      go_wp2_with fail
      refine (KK.out _).mono ?_
      rintro e' w2 ⟨rfl, hb1⟩
      replace ho := own_below5 ho hb1
      replace hb := hb.trans (hb1.mono hb.size)
      have hu := HU0.out
      have he := HQ0.out
      clear c0 c1 c2 c3 c4 hb1 KK HC HU0 HQ0
      by_cases hjy : j < y
      · have e3 : (j : Int) < (y : Int) := by omega
        rw [show y - j = (y - (j + 1)) + 1 by omega] at hu he
        obtain ⟨q2, he1, he2, hq, hqe, hu2⟩ := eN_one he
        rw [hu2] at hu
        have KE := Lib.hid (fun w hw => he1 ▸ rEnd_all (some ⟨gb, off, none⟩) n c f hn _ q (Nat.le_refl _) w hw)
        have HU := Lib.hid hu
        have HE2 := Lib.hid he2
        have hsz := hb.size
        clear he hu hu2 he1 he2 HE
        obtain ⟨i0, hi, hz0, hz1, hz2⟩ := info_parts infoI
        go_wp2_with (at_builtin; refine wpList_append_own _ rfl (.tmp 31) (.tmp 33) 32 rfl W.heap.size 3 i0 (.int .i64 0) 1 8 Try.underlying32 hi hz0 hz1 hz2 rfl (by decide) _ _ _ rfl (ho.alloc _) ⟨w2.heap.size, 0, none⟩ 1 1 [.int .i64 q] rfl rfl ?c1 ?c2 ?c3 ?c4 ?c5 ?_)
        case c1 =>
          intro k u hk
          rw [Go.WideShapes.add_plain, Nat.zero_add, cell_of_row _ _ _ _ _ _ (heap_alloc_new w2 _), ← hk, ← Array.getElem?_toList]
        case c2 => intro u hu; simp at hu; rcases hu with rfl; rfl
        case c3 => unfold maxLen; omega
        case c4 => omega
        case c5 => simp; omega
        intro v' w3 hown' hgrow hnn'
        have hb' : Below W.heap.size W w3 := (hb.alloc hsz _).grown hgrow (by simp; omega) (fun k hk => (ho.lt k hk).1)
        have HO := Lib.hid hown'
        have KE2 := Lib.hid (KE.out w3 (H.out.below hb'))
        clear hgrow ho hb hnn' hown' hsz KE
        go_wp2_with fail
        refine KE2.out.mono ?_
        rintro e' w4 ⟨rfl, hb1⟩
        have HO2 := Lib.hid (own_below5 HO.out hb1)
        replace hb' := hb'.trans (hb1.mono hb'.size)
        unfold endV
        clear hb1 KE2 HO
        go_wp2_with fail
        refine ⟨⟨q2, j + 1, xs ++ [q], rfl, by go_num, by omega, by rw [List.append_assoc]; exact HU.out, HE2.out, by have := HO2.out; unfold vn at this ⊢; rw [List.map_append]; exact this, hb'⟩, by simp [intOf]; omega⟩
      · have e3 : ¬ (j : Int) < (y : Int) := by omega
        obtain rfl : j = y := by omega
        rw [Nat.sub_self] at hu
        have HU := Lib.hid hu
        clear hu he HE
        go_wp2_with fail
        go_ret
        exact .own ho (HU.out.trans (List.append_nil _)) hb
end Go.Proofs.Ytiopemimancliaa

/-
  Whether two lists have the same nodes: of the program, and of the reference; few nodes.
-/
import Derived.Test.YtiopemimancliaaYn
namespace Go.Proofs.Ytiopemimancliaa
open Go.RowKit

/-- The first n nodes of both are the same. -/
def sameL (f g : Nat → Nd) (n : Nat) : Bool := (List.range n).all fun j => smN (f j) (g j)
theorem sameL_yes {f g : Nat → Nd} {n : Nat} : sameL f g n = true ↔ ∀ j, j < n → smN (f j) (g j) = true := by
  unfold sameL
  rw [List.all_eq_true]
  exact ⟨fun h j hj => h j (List.mem_range.2 hj), fun h j hj => h j (List.mem_range.1 hj)⟩
theorem sameL_no {f g : Nat → Nd} {n j : Nat} (hj : j < n) (h : smN (f j) (g j) = false) : sameL f g n = false := by
  cases hs : sameL f g n with
  | false => rfl
  | true => rw [sameL_yes.1 hs j hj] at h; cases h
set_option maxHeartbeats 3200000 in
theorem EqualF_is (a b : Option Addr) (n c d : Nat) (f g : Nat → Nd) (W : World) (h1 : Nq W a n f) (h2 : Nq W b n g) (hn : n ≤ 1000000) :
    Calls Try.prog 28 #[.slice a n c, .slice b n d, .func (.func 29) #[] #[]] W (ValEnd (.bool (sameL f g n)) W) := by
  have H1 := Lib.hid h1
  have H2 := Lib.hid h2
  obtain ⟨r, hr⟩ : ∃ r, r = sameL f g n := ⟨_, rfl⟩
  rw [← hr]
  have HR := Lib.hid hr
  clear h1 h2 hr
  go_enter Try.func28, Try.ntmps28
  go_wp2_with fail
  go_loopw [17] (fun kv wr => ∃ j : Nat, kv = .int .i64 j ∧ j ≤ n ∧ (∀ i, i < j → smN (f i) (g i) = true) ∧ Below W.heap.size W wr) (fun kv _ => n - (intOf kv).toNat)
  case atStart => exact ⟨0, rfl, by omega, fun i hi => by omega, Below.refl _ _⟩
  case round =>
    obtain ⟨j, rfl, hj, hall, hb⟩ := hrel
    have HA := Lib.hid hall
    clear hall
    by_cases hlt : j < n
    · have e3 : (j : Int) < (n : Int) := by omega
      obtain ⟨ga, oa, rfl, hca⟩ := H1.out.ld (by omega)
      obtain ⟨gb, ob, rfl, hcb⟩ := H2.out.ld (by omega)
      have KS : ∀ w, Below W.heap.size W w → Calls Try.prog 29 #[.agg #[.int .i64 (f j).k, .string (f j).v, .string (f j).a, .string (f j).x, .slice (f j).g (f j).m (f j).c], .agg #[.int .i64 (g j).k, .string (g j).v, .string (g j).a, .string (g j).x, .slice (g j).g (g j).m (g j).c]] w (ValEnd (.bool (smN (f j) (g j))) w) := fun w hw => same_is (f j) (g j) w ((H1.out.on j hlt).below hw) ((H2.out.on j hlt).below hw)
      have la := (hca j hlt).below hb (hca j hlt).lt
      have lb := (hcb j hlt).below hb (hcb j hlt).lt
      have HNA := Lib.hid (fun (h : smN (f j) (g j) = true) i (hi : i < j + 1) => show smN (f i) (g i) = true by
        by_cases hij : i < j
        · exact HA.out i hij
        · obtain rfl : i = j := by omega
          exact h)
      have HNF := Lib.hid (fun (h : smN (f j) (g j) = false) => show r = false by rw [HR.out]; exact sameL_no hlt h)
      generalize smN (f j) (g j) = q at *
      generalize f j = df at *
      generalize g j = dg at *
      obtain ⟨c0, c1, c2, c3, c4⟩ := la
      have hsz := hb.size
      have hA := Bd.new wr df.k df.v df.a df.x df.g df.m df.c
      have hb2 := hb.alloc hsz (.cells #[.int .i64 df.k, .string df.v, .string df.a, .string df.x, .slice df.g df.m df.c] 25)
      have lb2 := lb.below (box_below wr (.cells #[.int .i64 df.k, .string df.v, .string df.a, .string df.x, .slice df.g df.m df.c] 25)) lb.lt
      obtain ⟨w1, hw1⟩ : ∃ w1, w1 = wr.alloc (.cells #[.int .i64 df.k, .string df.v, .string df.a, .string df.x, .slice df.g df.m df.c] 25) := ⟨_, rfl⟩
      rw [← hw1] at hA hb2 lb2
      have HW1 := Lib.hid hw1
      obtain ⟨b0, b1, b2, b3, b4⟩ := lb2
      have hA2 := hA.alloc (.cells #[.int .i64 dg.k, .string dg.v, .string dg.a, .string dg.x, .slice dg.g dg.m dg.c] 25)
      have hB2 := Bd.new w1 dg.k dg.v dg.a dg.x dg.g dg.m dg.c
      have hb3 := hb2.alloc hb2.size (.cells #[.int .i64 dg.k, .string dg.v, .string dg.a, .string dg.x, .slice dg.g dg.m dg.c] 25)
      have HB3 := Lib.hid hb3
      have u0 := hA2.c0
      have u1 := hA2.c1
      have u2 := hA2.c2
      have u3 := hA2.c3
      have u4 := hA2.c4
      have y0 := hB2.c0
      have y1 := hB2.c1
      have y2 := hB2.c2
      have y3 := hB2.c3
      have y4 := hB2.c4
      replace KS := Lib.hid (KS _ hb3)
      clear hca hcb lb hA hb2 hsz hb hw1 hA2 hB2 hb3
      go_upto_region 6 with fail
      rw [← HW1.out]
      cases q with
      | false =>
        go_wp2_with fail
        refine KS.out.mono ?_
        rintro e w5 ⟨rfl, hb5⟩
        have hb6 := HB3.out.trans (hb5.mono HB3.out.size)
        obtain rfl : r = false := HNF.out (by first | rfl | trivial)
        clear c0 c1 c2 c3 c4 b0 b1 b2 b3 b4 u0 u1 u2 u3 u4 y0 y1 y2 y3 y4 hb5
        go_wp2_with fail
        go_ret
        exact ⟨rfl, hb6⟩
      | true =>
        go_wp2_with fail
        refine KS.out.mono ?_
        rintro e w5 ⟨rfl, hb5⟩
        have hb6 := HB3.out.trans (hb5.mono HB3.out.size)
        clear c0 c1 c2 c3 c4 b0 b1 b2 b3 b4 u0 u1 u2 u3 u4 y0 y1 y2 y3 y4 hb5
        go_wp2_with fail
        refine ⟨⟨j + 1, by go_num, by omega, HNA.out (by first | rfl | trivial), hb6⟩, by simp [intOf]; omega⟩
    · have e3 : ¬ (j : Int) < (n : Int) := by omega
      obtain rfl : r = true := by rw [HR.out]; exact sameL_yes.2 fun i hi => HA.out i (by omega)
      go_wp2_with fail
      go_ret
      exact ⟨rfl, hb⟩
theorem Same_is (a b : Option Addr) (n m c d : Nat) (f g : Nat → Nd) (W : World) (h1 : Nq W a n f) (h2 : Nq W b m g) (hn : n ≤ 1000000) (hm : m ≤ 1000000) :
    Calls Try.prog 20 #[.slice a n c, .slice b m d] W (ValEnd (.bool (decide (n = m) && sameL f g n)) W) := by
  by_cases hnm : n = m
  · subst hnm
    have K := Lib.hid (EqualF_is a b n c d f g W h1 h2 hn)
    rw [decide_eq_true rfl, Bool.true_and]
    go_enter Try.func20, Try.ntmps20
    go_wp2_with fail
    refine K.out.mono ?_
    rintro e w1 ⟨rfl, hb⟩
    go_wp2_with fail
    go_ret
    exact ⟨rfl, hb⟩
  · rw [decide_eq_false hnm, Bool.false_and]
    have K : Calls Try.prog 28 #[.slice a n c, .slice b m d, .func (.func 29) #[] #[]] W (ValEnd (.bool false) W) := by
      have e1 : ¬ (n : Int) = (m : Int) := by omega
      clear h1 h2
      go_enter Try.func28, Try.ntmps28
      go_wp2_with fail
      go_ret
      exact ⟨rfl, Below.refl _ _⟩
    replace K := Lib.hid K
    go_enter Try.func20, Try.ntmps20
    go_wp2_with fail
    refine K.out.mono ?_
    rintro e w1 ⟨rfl, hb⟩
    go_wp2_with fail
    go_ret
    exact ⟨rfl, hb⟩
theorem tl_eq {s t : ByteArray} (h : s.toList = t.toList) : s = t := bytes_ext (by rw [str_tl, str_tl] at h; exact h)
theorem smN_yes {d e : Nd} : smN d e = true ↔ d.k = e.k ∧ d.v = e.v ∧ d.a = e.a ∧ d.x = e.x ∧ d.ns = e.ns := by
  unfold smN
  simp only [Bool.and_eq_true, decide_eq_true_iff]
  constructor
  · rintro ⟨h1, h2, h3, h4, h5⟩
    exact ⟨h1, tl_eq h2, tl_eq h3, tl_eq h4, h5⟩
  · rintro ⟨h1, h2, h3, h4, h5⟩
    exact ⟨h1, by rw [h2], by rw [h3], by rw [h4], h5⟩
theorem smN_no {d e : Nd} (h : ¬ (d.k = e.k ∧ d.v = e.v ∧ d.a = e.a ∧ d.x = e.x ∧ d.ns = e.ns)) : smN d e = false := by
  cases hs : smN d e with
  | false => rfl
  | true => exact absurd (smN_yes.1 hs) h
end Go.Proofs.Ytiopemimancliaa

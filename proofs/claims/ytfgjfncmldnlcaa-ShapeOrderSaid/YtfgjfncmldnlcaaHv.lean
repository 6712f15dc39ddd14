import Derived.Test.YtfgjfncmldnlcaaHt
namespace Go.Proofs.Ytfgjfncmldnlcaa
open Go.RowKit

/-! ### The law: ShapeMeets -/
set_option maxRecDepth 10000 in
set_option maxHeartbeats 1600000 in
theorem meets_any (a1 a2 : Option Addr) (n c m d : Nat) (l k : List Int) (W : World) (h1 : Sl W a1 n l) (h2 : Sl W a2 m k) (hc1 : n ≤ c) (hc2 : c ≤ maxLen) :
    Calls Try.prog 4 #[.slice a1 n c, .slice a2 m d] W (TrueEnd W) := by
  by_cases g1 : 20 < n
  · clear h1 h2
    have e1 : (20 : Int) < n := by omega
    go_enter Try.func4, Try.ntmps4
    go_wp2_with fail
    refine (shown_is _).mono ?_
    rintro x w1 ⟨rfl, hb1⟩
    go_wp2_with fail
    go_ret
    exact ⟨rfl, hb1⟩
  by_cases g2 : 20 < m
  · clear h1 h2
    have e1 : ¬ (20 : Int) < n := by omega
    have e2 : (20 : Int) < m := by omega
    go_enter Try.func4, Try.ntmps4
    go_wp2_with fail
    refine (shown_is _).mono ?_
    rintro x w1 ⟨rfl, hb1⟩
    go_wp2_with fail
    go_ret
    exact ⟨rfl, hb1⟩
  have e1 : ¬ (20 : Int) < n := by omega
  have e2 : ¬ (20 : Int) < m := by omega
  have K1 := Lib.hid (fun w (hb : Below W.heap.size W w) => Meet_is a1 a2 n c m d l k w (h1.below hb) (h2.below hb) (by omega) (by omega))
  have K2 := Lib.hid (fun w (hb : Below W.heap.size W w) => rMeet_is a1 a2 n c m d l k w (h1.below hb) (h2.below hb) (by omega) (by omega))
  have K3 := Lib.hid (fun w (hb : Below W.heap.size W w) => Items_is a1 n c l w (h1.below hb) (by omega) hc1 hc2)
  have K4 := Lib.hid (fun w (hb : Below W.heap.size W w) => rItems_is a1 n c l w (h1.below hb) (by omega) hc1 hc2)
  have K5 := Lib.hid (fun w (hb : Below W.heap.size W w) => Same_is a1 a2 n c m d l k w (h1.below hb) (h2.below hb) (by omega) (by omega))
  have K6 := Lib.hid (fun w (hb : Below W.heap.size W w) => rSame_is a1 a2 n c m d l k w (h1.below hb) (h2.below hb) (by omega) (by omega) _ rfl)
  clear h1 h2 hc1 hc2
  generalize (l == k) = sb at K5 K6
  generalize mtE l k = e at K1 K2
  generalize mtV l k = v at K1 K2
  generalize itV l = i at K3 K4
  generalize l.tail = r at K3 K4
  go_enter Try.func4, Try.ntmps4
  go_wp2_with fail
  refine (shown_is _).mono ?_
  rintro x w1 ⟨rfl, hb1⟩
  go_wp2_with fail
  refine (K1.out _ hb1).mono ?_
  rintro x w2 ⟨a3, n3, c3, rfl, hs3, hn3, hb2'⟩
  have hb2 := hb1.trans (hb2'.mono hb1.size)
  have HS3 := Lib.hid hs3
  clear hb2' hb1 hs3
  go_wp2_with fail
  refine (K2.out _ hb2).mono ?_
  rintro x w3 ⟨a4, n4, c4, rfl, hs4, hn4, hb3'⟩
  have hb3 := hb2.trans (hb3'.mono hb2.size)
  have HV := Lib.hid (And.intro (HS3.out.below hb3') hs4)
  clear hb3' hb2 hs4 HS3
  go_wp2_with fail
  refine (K3.out _ hb3).mono ?_
  rintro x w4 ⟨a5, n5, c5, rfl, hs5, hn5, hb4'⟩
  have hb4 := hb3.trans (hb4'.mono hb3.size)
  have HV4 := Lib.hid (And.intro (HV.out.1.below hb4') (HV.out.2.below hb4'))
  have HS5 := Lib.hid hs5
  clear hb4' hb3 hs5 HV
  go_wp2_with fail
  refine (K4.out _ hb4).mono ?_
  rintro x w5 ⟨a6, n6, c6, rfl, hs6, hn6, hb5'⟩
  have hb5 := hb4.trans (hb5'.mono hb4.size)
  have KV := Lib.hid (rSame_is a3 a4 n3 c3 n4 c4 v v w5 (HV4.out.1.below hb5') (HV4.out.2.below hb5') hn3 hn4 true (beq_self_eq_true v).symm)
  have KR := Lib.hid (fun w (hb : Below w5.heap.size w5 w) => rSame_is a5 a6 n5 c5 n6 c6 r r w ((HS5.out.below hb5').below hb) (hs6.below hb) hn5 hn6 true (beq_self_eq_true r).symm)
  clear hb5' hb4 hs6 HV4 HS5
  go_wp2_with fail
  refine KV.out.mono ?_
  rintro x w6 ⟨rfl, hd6⟩
  have hb6 := hb5.trans (hd6.below.mono hb5.size)
  have hr6 := hd6.below
  clear hd6
  go_wp2_with fail
  refine (K5.out _ hb6).mono ?_
  rintro x w7 ⟨rfl, hb7'⟩
  have hb7 := hb6.trans (hb7'.mono hb6.size)
  have hr7 := hr6.trans (hb7'.mono hr6.size)
  clear hb7' hr6 hb6
  go_wp2_with fail
  refine (K6.out _ hb7).mono ?_
  rintro x w8 ⟨rfl, hd8⟩
  have hb8 := hb7.trans (hd8.below.mono hb7.size)
  have hr8 := hr7.trans (hd8.below.mono hr7.size)
  clear hd8 hr7 hb7
  go_wp2_with fail
  refine (KR.out _ hr8).mono ?_
  rintro x w9 ⟨rfl, hd9⟩
  have hb9 := hb8.trans (hd9.below.mono hb8.size)
  clear hd9 hr8 hb8
  go_wp2_with fail
  go_ret
  exact ⟨rfl, hb9⟩

/-! ### The law: ShapeOrder -/
theorem mt_turn (l k : List Int) : mtE k l = mtE l k ∧ mtV k l = mtV l k := by
  unfold mtE mtV
  by_cases h1 : l = k
  · subst h1; exact ⟨rfl, rfl⟩
  · have e1 : (l == k) = false := beq_eq_false_iff_ne.2 h1
    have e2 : (k == l) = false := beq_eq_false_iff_ne.2 (fun e => h1 e.symm)
    rw [e1, e2]
    by_cases h2 : l.length = 0
    · by_cases h3 : k.length = 0
      · exact absurd ((List.length_eq_zero_iff.1 h2).trans (List.length_eq_zero_iff.1 h3).symm) h1
      · simp [h2, h3]
    · by_cases h3 : k.length = 0
      · simp [h2, h3]
      · simp [h2, h3]
theorem mt_self (l : List Int) : mtE l l = 0 ∧ mtV l l = l := by unfold mtE mtV; simp
theorem mt_nil (l : List Int) : mtE [] l = 0 ∧ mtV [] l = l := by
  unfold mtE mtV
  by_cases h : l.length = 0
  · rw [List.length_eq_zero_iff.1 h]; simp
  · simp
theorem mt_may {l k : List Int} (h1 : szE l = 0) (h2 : szE k = 0) (h : mtE l k = 0) : szE (mtV l k) = 0 := by
  unfold mtE at h
  unfold mtV
  split at h
  · rename_i hc; rw [if_pos hc]; exact h1
  · rename_i hc
    rw [if_neg hc]
    split at h
    · rename_i h3; rw [if_pos h3]; exact h2
    · cases h
set_option maxRecDepth 10000 in
set_option maxHeartbeats 3200000 in
theorem order_any (a1 a2 : Option Addr) (n c m d : Nat) (l k : List Int) (W : World) (h1 : Sl W a1 n l) (h2 : Sl W a2 m k) :
    Calls Try.prog 7 #[.slice a1 n c, .slice a2 m d] W (TrueEnd W) := by
  by_cases g1 : 20 < n
  · clear h1 h2
    have e1 : (20 : Int) < n := by omega
    go_enter Try.func7, Try.ntmps7
    go_wp2_with fail
    refine (shown_is _).mono ?_
    rintro x w1 ⟨rfl, hb1⟩
    go_wp2_with fail
    go_ret
    exact ⟨rfl, hb1⟩
  by_cases g2 : 20 < m
  · clear h1 h2
    have e1 : ¬ (20 : Int) < n := by omega
    have e2 : (20 : Int) < m := by omega
    go_enter Try.func7, Try.ntmps7
    go_wp2_with fail
    refine (shown_is _).mono ?_
    rintro x w1 ⟨rfl, hb1⟩
    go_wp2_with fail
    go_ret
    exact ⟨rfl, hb1⟩
  have e1 : ¬ (20 : Int) < n := by omega
  have e2 : ¬ (20 : Int) < m := by omega
  have K1 := Lib.hid (fun w (hb : Below W.heap.size W w) => Meet_is a1 a2 n c m d l k w (h1.below hb) (h2.below hb) (by omega) (by omega))
  have K2 := fun w (hb : Below W.heap.size W w) => Meet_is a2 a1 m d n c k l w (h2.below hb) (h1.below hb) (by omega) (by omega)
  rw [(mt_turn l k).1, (mt_turn l k).2] at K2
  have K3 := fun w (hb : Below W.heap.size W w) => Meet_is a1 a1 n c n c l l w (h1.below hb) (h1.below hb) (by omega) (by omega)
  rw [(mt_self l).1, (mt_self l).2] at K3
  have K4 := fun w (hb : Below W.heap.size W w) => Meet_is none a1 0 0 n c [] l w (Sl.nil _ _) (h1.below hb) (by omega) (by omega)
  rw [(mt_nil l).1, (mt_nil l).2] at K4
  have K5 := Lib.hid (fun w (hb : Below W.heap.size W w) => May_is a1 n c l w (h1.below hb) _ rfl)
  have K6 := Lib.hid (fun w (hb : Below W.heap.size W w) => May_is a2 m d k w (h2.below hb) _ rfl)
  have K7 := Lib.hid (fun w a n c (hs : Sl w a n (mtV l k)) => May_is a n c (mtV l k) w hs _ rfl)
  have hmay : (szE l == 0) = true → (szE k == 0) = true → (mtE l k = 0) → (szE (mtV l k) == 0) = true := by
    intro x1 x2 x3
    rw [beq_iff_eq] at x1 x2 ⊢
    exact mt_may x1 x2 x3
  have HM := Lib.hid hmay
  have H1 := Lib.hid h1
  have K2 := Lib.hid K2
  have K3 := Lib.hid K3
  have K4 := Lib.hid K4
  clear h2 hmay h1
  generalize (szE l == 0) = b1 at K5 HM
  generalize (szE k == 0) = b2 at K6 HM
  generalize (szE (mtV l k) == 0) = b3 at K7 HM
  generalize mtE l k = e at K1 K2 HM
  generalize mtV l k = v at K1 K2 K7
  go_enter Try.func7, Try.ntmps7
  go_wp2_with fail
  refine (shown_is _).mono ?_
  rintro x w1 ⟨rfl, hb1⟩
  go_wp2_with fail
  refine (K1.out _ hb1).mono ?_
  rintro x w2 ⟨a3, n3, c3, rfl, hs3, hn3, hb2'⟩
  have hb2 := hb1.trans (hb2'.mono hb1.size)
  have HS3 := Lib.hid hs3
  clear hb2' hb1 hs3
  go_wp2_with fail
  refine (K2.out _ hb2).mono ?_
  rintro x w3 ⟨a4, n4, c4, rfl, hs4, hn4, hb3'⟩
  have hb3 := hb2.trans (hb3'.mono hb2.size)
  have HV := Lib.hid (And.intro (HS3.out.below hb3') hs4)
  clear hb3' hb2 hs4 HS3
  go_wp2_with fail
  refine (K3.out _ hb3).mono ?_
  rintro x w4 ⟨a5, n5, c5, rfl, hs5, hn5, hb4'⟩
  have hb4 := hb3.trans (hb4'.mono hb3.size)
  have HV4 := Lib.hid (And.intro (HV.out.1.below hb4') (HV.out.2.below hb4'))
  have HS5 := Lib.hid hs5
  clear hb4' hb3 hs5 HV
  go_wp2_with fail
  refine (K4.out _ hb4).mono ?_
  rintro x w5 ⟨a6, n6, c6, rfl, hs6, hn6, hb5'⟩
  have hb5 := hb4.trans (hb5'.mono hb4.size)
  have KV := Lib.hid (fun w (hb : Below w5.heap.size w5 w) => rSame_is a3 a4 n3 c3 n4 c4 v v w ((HV4.out.1.below hb5').below hb) ((HV4.out.2.below hb5').below hb) hn3 hn4 true (beq_self_eq_true v).symm)
  have KX := Lib.hid (fun w (hb : Below w5.heap.size w5 w) => rSame_is a5 a1 n5 c5 n c l l w ((HS5.out.below hb5').below hb) ((H1.out.below hb5).below hb) hn5 (by omega) true (beq_self_eq_true l).symm)
  have KY := Lib.hid (fun w (hb : Below w5.heap.size w5 w) => rSame_is a6 a1 n6 c6 n c l l w (hs6.below hb) ((H1.out.below hb5).below hb) hn6 (by omega) true (beq_self_eq_true l).symm)
  have KM := Lib.hid (fun w (hb : Below w5.heap.size w5 w) => K7.out w a3 n3 c3 ((HV4.out.1.below hb5').below hb))
  clear hb5' hb4 hs6 HV4 HS5 K7
  go_wp2_with fail
  refine (K5.out _ hb5).mono ?_
  rintro x w6 ⟨rfl, rfl⟩
  rcases Bool.eq_false_or_eq_true b1 with rfl | rfl
  · go_wp2_with fail
    refine (K6.out _ hb5).mono ?_
    rintro x w6 ⟨rfl, rfl⟩
    go_wp2_with fail
    refine (KV.out _ (Below.refl _ _)).mono ?_
    rintro x w6 ⟨rfl, hd6⟩
    have hb6 := hd6.below
    clear hd6
    go_wp2_with fail
    refine (KX.out _ hb6).mono ?_
    rintro x w7 ⟨rfl, hd7⟩
    have hb7 := hb6.trans (hd7.below.mono hb6.size)
    clear hd7 hb6
    go_wp2_with fail
    refine (KY.out _ hb7).mono ?_
    rintro x w8 ⟨rfl, hd8⟩
    have hb8 := hb7.trans (hd8.below.mono hb7.size)
    clear hd8 hb7
    have hbw := hb5.trans (hb8.mono hb5.size)
    rcases Bool.eq_false_or_eq_true b2 with rfl | rfl
    · by_cases he : e = 0
      · obtain rfl : b3 = true := by have h := HM.out; first | exact h rfl rfl he | exact h trivial trivial he | simpa [he] using h
        subst he
        go_wp2_with fail
        refine (KM.out _ hb8).mono ?_
        rintro x w9 ⟨rfl, rfl⟩
        go_wp2_with fail
        go_ret
        exact ⟨rfl, hbw⟩
      · go_wp2_with fail
        go_ret
        exact ⟨rfl, hbw⟩
    · go_wp2_with fail
      go_ret
      exact ⟨rfl, hbw⟩
  · go_wp2_with fail
    refine (KV.out _ (Below.refl _ _)).mono ?_
    rintro x w6 ⟨rfl, hd6⟩
    have hb6 := hd6.below
    clear hd6
    go_wp2_with fail
    refine (KX.out _ hb6).mono ?_
    rintro x w7 ⟨rfl, hd7⟩
    have hb7 := hb6.trans (hd7.below.mono hb6.size)
    clear hd7 hb6
    go_wp2_with fail
    refine (KY.out _ hb7).mono ?_
    rintro x w8 ⟨rfl, hd8⟩
    have hb8 := hb7.trans (hd8.below.mono hb7.size)
    clear hd8 hb7
    have hbw := hb5.trans (hb8.mono hb5.size)
    go_wp2_with fail
    go_ret
    exact ⟨rfl, hbw⟩
end Go.Proofs.Ytfgjfncmldnlcaa

/-
  val.Join of arrays of one shape.
-/
import Derived.Test.YtpnedgldnndnjaaDoorVj
namespace Go.Proofs.YtpnedgldnndnjaaDoor
open Go.RowKit

/-- Arrays in a row, read: all of shape s, the j-th one's elements p j. -/
def Its (w : World) (av : Option Addr) (k : Nat) (s : List Int) (p : Nat → List ByteArray) : Prop :=
  0 < k → ∃ g, av = some ⟨g, 0, none⟩ ∧ ∀ j, j < k → ∃ a n c b m d, w.cell? ⟨g, j * 2, none⟩ = some (.slice a n c) ∧ w.cell? ⟨g, j * 2 + 1, none⟩ = some (.slice b m d) ∧ Vl w a n b m s (p j)
theorem Its.below {w w' : World} {av : Option Addr} {k : Nat} {s : List Int} {p : Nat → List ByteArray} (h : Its w av k s p) (hb : Below w.heap.size w w') : Its w' av k s p := by
  intro hk
  obtain ⟨g, e, h⟩ := h hk
  refine ⟨g, e, fun j hj => ?_⟩
  obtain ⟨a, n, c, b, m, d, h1, h2, h3⟩ := h j hj
  exact ⟨a, n, c, b, m, d, (hb.cell (p := ⟨g, j * 2, none⟩) (World.block_lt_of_cell? w _ h1)).trans h1, (hb.cell (p := ⟨g, j * 2 + 1, none⟩) (World.block_lt_of_cell? w _ h2)).trans h2, h3.below hb⟩
/-- The first k, joined. -/
def cat (p : Nat → List ByteArray) : Nat → List ByteArray
  | 0 => []
  | k + 1 => cat p k ++ p k
theorem cat_part (es : List ByteArray) (e : Nat) : ∀ k, cat (part es e) k = es.take (k * e)
  | 0 => by rw [Nat.zero_mul]; rfl
  | k + 1 => by show cat (part es e) k ++ part es e k = _; rw [cat_part es e k, part_take]
theorem cat_len (p : Nat → List ByteArray) {j k : Nat} (h : j ≤ k) : (cat p j).length ≤ (cat p k).length := by
  induction k with
  | zero => rw [show j = 0 by omega]; exact Nat.le_refl _
  | succ k ih =>
    rcases Nat.lt_or_ge j (k + 1) with h1 | h1
    · have := ih (by omega)
      show _ ≤ (cat p k ++ p k).length
      rw [List.length_append]; omega
    · rw [show j = k + 1 by omega]; exact Nat.le_refl _
def JoEnd (k : Nat) (s : List Int) (es : List ByteArray) (W : World) (e : Ending) (W' : World) : Prop :=
  ∃ a n c b m d, e = .returned (.tuple #[.agg #[.slice a n c, .slice b m d], .int .i64 0]) ∧ Vl W' a n b m ((k : Int) :: s) es ∧ n ≤ 21 ∧ Below W.heap.size W W'
theorem valsS_append (l k : List ByteArray) : valsS l ++ valsS k = valsS (l ++ k) := by unfold valsS; rw [List.map_append]
set_option maxRecDepth 10000 in
set_option maxHeartbeats 3200000 in
theorem Join_is {av : Option Addr} {k cv : Nat} {s : List Int} {p : Nat → List ByteArray} (W : World) (h : Its W av k s p) (hk : 0 < k) (hk3 : k ≤ 300) (hs : s.length ≤ 20) (hsz : szE ((k : Int) :: s) = 0) (hcat : (cat p k).length ≤ 1000) :
    Calls Tryd.prog 12 #[.slice av k cv] W (JoEnd k s (cat p k) W) := by
  have HI := Lib.hid h
  obtain ⟨g, rfl, hit⟩ := h hk
  obtain ⟨a0, n0, c0, b0, m0, d0, q0, q1, hV0⟩ := hit 0 hk
  rw [show 0 * 2 = 0 from rfl] at q0 q1
  have hn0 : n0 ≤ 20 := by have := hV0.s.1; omega
  have hg := World.block_lt_of_cell? W _ q0
  have hA := Bx.new W none 0 0 none 0 0
  have hb0 : Below W.heap.size W (W.alloc (.cells #[.slice none 0 0, .slice none 0 0] 25)) := (Below.refl _ _).alloc (Nat.le_refl _) _
  have f0 := (hb0.cell (p := ⟨g, 0, none⟩) hg).trans q0
  have H0 := Lib.hid hV0.s
  have HK := Lib.hid (And.intro hsz (And.intro hcat hs))
  have e0 : ((k : Int) == 0) = false := beq_eq_false_iff_ne.2 (by omega)
  have e1 : (0 : Int) < (k : Int) := by omega
  clear hit q0 q1 hV0 hsz hcat h
  go_enter Tryd.func12, Tryd.ntmps12
  go_wp2_with fail
  go_loopw [23] (fun i wr => ∃ j : Nat, i = .int .i64 j ∧ j ≤ k ∧ Bx wr W.heap.size none 0 0 none 0 0 ∧ Below W.heap.size W wr) (fun i _ => k - (intOf i).toNat)
  case atStart => exact ⟨0, rfl, by omega, hA, hb0⟩
  case round =>
    obtain ⟨j, rfl, hj, hA1, hb1⟩ := hrel
    clear hA hb0 f0
    by_cases hlt : j < k
    · have e2 : (j : Int) < (k : Int) := by omega
      have hIr := HI.out.below hb1
      obtain ⟨g', eg, hit⟩ := hIr (by omega)
      injection eg with eg
      injection eg with eg _ _
      subst eg
      obtain ⟨a, n, c, b, m, d, q0, q1, hV⟩ := hit j hlt
      have hn : n ≤ 20 := by have := hV.s.1; have := HK.out.2.2; omega
      have KS := Lib.hid (Same_is a a0 n c n0 c0 s s (wr.alloc (.cells #[.slice a n c, .slice b m d] 25)) ((hV.s).below ((Below.refl _ _).alloc (Nat.le_refl _) _)) ((H0.out.below hb1).below ((Below.refl _ _).alloc (Nat.le_refl _) _)) (by omega) (by omega))
      have hb2 := hb1.alloc hb1.size (.cells #[.slice a n c, .slice b m d] 25)
      have hA2 := hA1.alloc (.cells #[.slice a n c, .slice b m d] 25)
      clear hIr hit hV hA1 hb1
      go_wp2_with fail
      refine KS.out.mono ?_
      rintro y w2 ⟨rfl, hb⟩
      have hA3 := hA2.below hb hA2.lt
      have hb3 := hb2.trans (hb.mono hb2.size)
      clear KS hA2 hb2 hb q0 q1
      have es : (s == s) = true := beq_self_eq_true s
      go_wp2_with fail
      go_roundw
      case rel => exact ⟨j + 1, by go_num, by omega, hA3, hb3⟩
      case measure => simp [intOf]; omega
    · have e2 : ¬ (j : Int) < (k : Int) := by omega
      obtain rfl : j = k := by omega
      have hb2 := hb1.alloc hb1.size (.cells #[.int .i64 j] 3)
      have hA2 := hA1.alloc (.cells #[.int .i64 j] 3)
      have hr0 := Lib.hid (Sl.row (l := [(j : Int)]) (heap_alloc_new wr (.cells #[.int .i64 j] 3))).rd
      have hr1 := Lib.hid ((H0.out.below hb1).below ((Below.refl wr.heap.size wr).alloc (Nat.le_refl _) (.cells #[.int .i64 j] 3))).rd
      have hn0s := H0.out.1
      clear hA1 hb1
      go_wp2_with (at_builtin; refine wpList_append_full rfl (.tmp 36) (.tmp 37) 22 rfl 3 (.int .i64 0) 8 Tryd.underlying22 infoInt1 rfl (by decide) (some ⟨wr.heap.size, 0, none⟩) 1 [.int .i64 j] rfl hr0.out (by intro u hu; rw [List.mem_singleton] at hu; rw [hu]; rfl) a0 n0 c0 (valsI s) rfl hr1.out (valsI_one s) (by omega) ?_; intro aj cj w2 hbj hrj _ _)
      have hS2 : Sl w2 aj (1 + n0) ((j : Int) :: s) := Rd.sl hrj
      have hb3 := hb2.trans (hbj.mono hb2.size)
      have hA3 := hA2.below hbj hA2.lt
      have hsz := Size_is aj (1 + n0) cj ((j : Int) :: s) w2 hS2
      unfold SizeIs at hsz
      rw [HK.out.1] at hsz
      have KZ := Lib.hid hsz
      have HS2 := Lib.hid hS2
      clear hr0 hr1 hb2 hA2 hrj hbj hsz hS2
      generalize szV ((j : Int) :: s) = vz at KZ
      go_wp2_with fail
      refine KZ.out.mono ?_
      rintro y w9 ⟨rfl, rfl⟩
      go_wp2_with fail
      go_loopw [10, 50] (fun ev i wq => ∃ q : Nat, i = .int .i64 q ∧ q ≤ j ∧ wq.ownsRow w2.heap.size 9 1 ev (cat p q).length (valsS (cat p q)) ∧ Below w2.heap.size w2 wq) (fun _ i _ => j - (intOf i).toNat)
      case atStart => exact ⟨0, rfl, by omega, World.ownsRow_nil _ _ _ _, Below.refl _ _⟩
      case round =>
        obtain ⟨q, rfl, hq, hown, hbq⟩ := hrel
        by_cases hlt2 : q < j
        · have e3 : (q : Int) < (j : Int) := by omega
          have hIr := HI.out.below (hb3.trans (hbq.mono hb3.size))
          obtain ⟨g', eg, hit⟩ := hIr (by omega)
          injection eg with eg
          injection eg with eg _ _
          subst eg
          obtain ⟨a, n, c, b, m, d, q0, q1, hV⟩ := hit q hlt2
          have hr2 := Lib.hid ((hV.t).below ((Below.refl wr.heap.size wr).alloc (Nat.le_refl _) (.cells #[.slice a n c, .slice b m d] 25))).rd
          have ho2 := Lib.hid (hown.alloc (.cells #[.slice a n c, .slice b m d] 25))
          have hml := hV.t.1
          have hcl := cat_len p (show q + 1 ≤ j by omega)
          have hcl2 : (cat p (q + 1)).length = (cat p q).length + (p q).length := by show (cat p q ++ p q).length = _; rw [List.length_append]
          have hcm := HK.out.2.1
          have hbs := hbq.size
          have HB := Lib.hid hbq
          clear hIr hit hV hown hbq
          go_wp2_with (at_builtin; refine wpList_append_rd rfl (.tmp 54) (.tmp 56) 23 rfl w2.heap.size 9 (.string ⟨#[]⟩) 16 Tryd.underlying23 infoStr rfl (by decide) _ (cat p q).length (valsS (cat p q)) rfl ho2.out b m d (valsS (p q)) rfl hr2.out (valsS_one _) (by omega) (by simp; omega) ?_; intro av' cv' w3 hown3 hg3)
          have hb4 : Below w2.heap.size w2 w3 := (HB.out.alloc HB.out.size _).trans (grown_below' hg3 (fun g' hg' => (ho2.out.lt g' hg').1) (by simp; omega))
          have hown4 : w3.ownsRow w2.heap.size 9 1 (.slice av' ((cat p q).length + m) cv') (cat p (q + 1)).length (valsS (cat p (q + 1))) := by
            rw [hcl2, hml]
            show w3.ownsRow _ _ _ _ _ (valsS (cat p q ++ p q))
            rw [← valsS_append]
            exact hown3
          clear hg3 hown3 ho2 hr2 hcl hcl2 hcm
          go_wp2_with fail
          go_roundw
          case rel => exact ⟨q + 1, by go_num, by omega, hown4, hb4⟩
          case measure => simp [intOf]; omega
        · have e3 : ¬ (q : Int) < (j : Int) := by omega
          obtain rfl : q = j := by omega
          obtain ⟨ae, ce, rfl⟩ := own_form hown
          have hT := own_st hown
          have hA4 := hA3.below hbq hA3.lt
          have hS4 := HS2.out.below hbq
          have hb4 := hb3.trans (hbq.mono hb3.size)
          have hcm := HK.out.2.1
          have y0 := hA4.c0
          have y1 := hA4.c1
          have f0 := hA4.f 0
          have f1 := hA4.f 1
          clear hown hbq hA3 hb3
          go_wp2_with fail
          have hA5 := hA4.set aj (1 + n0) cj ae (cat p q).length ce
          have r0 := hA5.c0
          have r1 := hA5.c1
          exact bodyPost_ret (v := .tuple #[.agg #[.slice aj (1 + n0) cj, .slice ae (cat p q).length ce], .int .i64 0]) (by simp [results, Tryd.results12, go_sem, r0, r1]) rfl ⟨_, _, _, _, _, _, rfl, ⟨hA4.sl hS4 _ _, hA4.st hT _ _, by omega⟩, by omega, below_made hb4 (Nat.le_refl _) _ _⟩
end Go.Proofs.YtpnedgldnndnjaaDoor

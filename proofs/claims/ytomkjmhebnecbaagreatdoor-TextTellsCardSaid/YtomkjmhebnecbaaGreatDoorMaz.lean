import Derived.Test.YtomkjmhebnecbaaGreatDoorMay
/-
  Texts tell their arrays, and no two alike; the document's example at the head of all statements of layer 11.
-/
namespace Go.Proofs.YtomkjmhebnecbaaGreatDoor
set_option linter.unusedVariables false
set_option linter.unusedSimpArgs false
open Go.RowKit

structure XT (W : World) : Prop where
  tab : Tab W
  err : ErrT W
theorem XT.below {w w' : World} (h : XT w) (hb : Below w.heap.size w w') : XT w' := ⟨h.tab.below hb, h.err.below hb⟩
theorem is_one {s : ByteArray} {o p : Option Int} (h : Is s o) (g : Is s p) : o = p := by
  cases o with
  | none =>
    cases p with
    | none => rfl
    | some y =>
      have h1 := h.may
      have h2 := g.may
      rw [h1] at h2
      cases h2
  | some x =>
    cases p with
    | none =>
      have h1 := h.may
      have h2 := g.may
      rw [h1] at h2
      cases h2
    | some y => rw [S_inj (h.1.symm.trans g.1)]
/-- The number that a text is; what it is as an int64. -/
noncomputable def numO (l : List UInt8) : Option Int := @dite _ (∃ o, Is (tx l) o) (Classical.propDecidable _) (fun h => Classical.choose h) (fun _ => none)
noncomputable def fiX (l : List UInt8) : Int := (intO (numO l)).1
theorem numO_is {l : List UInt8} {o : Option Int} (h : Is (tx l) o) : numO l = o := by
  have hx : ∃ o, Is (tx l) o := ⟨o, h⟩
  unfold numO
  rw [dif_pos hx]
  exact is_one (Classical.choose_spec hx) h
theorem fiX_is {x : Int} (h : I64 x) : fiX (Lib.itoa x) = x := by
  have : Is (tx (Lib.itoa x)) (some x) := ⟨rfl, lim_i64 h.1 h.2⟩
  unfold fiX
  rw [numO_is this]
  exact congrArg Prod.fst (if_pos h)
theorem TA.arr {s : List UInt8} {l : List Int} {es : List (List UInt8)} (h : TA s l es) : Arr Lib.itoa fiX l es := by
  have ht := h.tl
  refine ⟨ht.el, ht.h0, ht.h1, fun x hx _ => ?_⟩
  have h1 := fine_yes.1 (ht.h2 x hx)
  exact ⟨fine_may x (ht.h2 x hx), fiX_is ⟨by omega, by omega⟩⟩
theorem TA.inj {s : List UInt8} {l k : List Int} {es fs : List (List UInt8)} (h : TA s l es) (g : TA s k fs) : l = k ∧ es = fs := h.arr.inj g.arr (h.2.symm.trans g.2)
theorem TA.few {s : List UInt8} {l : List Int} {es : List (List UInt8)} (h : TA s l es) : (∀ t ∈ es, t.length ≤ 1000) ∧ es.length ≤ 4096 ∧ l.length ≤ 3 :=
  ⟨fun t ht => by have := mayL_len (h.tl.el t ht); omega, h.tl.few, h.tl.rank⟩

/-! ### The example -/
def ex1 : List (List UInt8) := [[49], [50], [51], [52], [53], [54]]
def exS : List UInt8 := [50, 32, 51, 35, 49, 32, 50, 32, 51, 32, 52, 32, 53, 32, 54]
theorem itoa_fig (c : UInt8) (n : Nat) (hn : dval [c] = n) (hd : 48 ≤ c.toNat ∧ c.toNat ≤ 57) (hz : c.toNat ≠ 48) : Lib.itoa (n : Int) = [c] := by
  have h := S_lit (l := [c]) hn (by intro x hx; rw [List.mem_singleton] at hx; rw [hx]; exact hd) ⟨c, [], rfl, hz⟩
  exact congrArg (fun s : ByteArray => s.data.toList) h
theorem ex_ta : TA exS [2, 3] ex1 := by
  refine ⟨by decide, ?_⟩
  have h2 : Lib.itoa 2 = [50] := itoa_fig 50 2 rfl (by decide) (by decide)
  have h3 : Lib.itoa 3 = [51] := itoa_fig 51 3 rfl (by decide) (by decide)
  show exS = rowT litT [Lib.itoa 2, Lib.itoa 3] ++ 35 :: vecT litT ex1
  rw [h2, h3]
  decide
theorem ex_txt : (if mayV [1] ([[45, 55]].map tx) = true then arrT litT Lib.itoa [1] [[45, 55]] else []) = [44, 95, 55] := by decide
set_option maxRecDepth 10000 in
set_option maxHeartbeats 1600000 in
theorem tshown_is (W : World) (hx : XT W) : Calls Tryz.prog 4 #[] W (TrueEnd W) := by
  have K1 : ∀ w, XT w → Calls Tryz.prog 8 #[.string ⟨#[50, 32, 51, 35, 49, 32, 50, 32, 51, 32, 52, 32, 53, 32, 54]⟩] w (fun e W' => ∃ a c b d, e = .returned (.tuple #[.agg #[.slice a 2 c, .slice b 6 d], .int .i64 0]) ∧ Vl W' a 2 b 6 [2, 3] (ex1.map tx) ∧ (2 ≤ c ∧ c ≤ 1000000) ∧ Below w.heap.size w W') := fun w hw => by
    refine (Read_is exS (by decide) w hw.err).mono ?_
    rintro e W' (⟨a, n, c, b, m, d, l, es, rfl, ht, hV, hc, hb⟩ | ⟨_, hno, _⟩)
    · obtain ⟨rfl, rfl⟩ := ht.inj ex_ta
      obtain rfl : 2 = n := hV.s.1
      obtain rfl : 6 = m := hV.t.1
      exact ⟨a, c, b, d, rfl, hV, hc, hb⟩
    · exact absurd ex_ta (hno _ _)
  have K2 : ∀ w, Tab w → ∀ a b, Vl w a 1 b 1 [1] ([[45, 55]].map tx) → Calls Tryz.prog 6 #[.agg #[.slice a 1 1, .slice b 1 1]] w (fun e W' => e = .returned (.tuple #[.string ⟨#[44, 95, 55]⟩, .int .i64 0]) ∧ Below w.heap.size w W') := fun w hw a b hV => by
    refine (Text_is (es := [[45, 55]]) (c := 1) (d := 1) w hV (by decide) (by decide) hw).mono ?_
    rintro e W' ⟨rfl, hb⟩
    rw [ex_txt, show mayV [1] ([[45, 55]].map tx) = true by decide]
    exact ⟨rfl, hb⟩
  have KM := Lib.hid (fun w a b c d (h : Vl w a 2 b 6 [2, 3] (ex1.map tx)) (hc : 2 ≤ c ∧ c ≤ 1000000) => VMany_is (d := d) w h (by omega) hc.1 (by unfold maxLen; omega))
  have HX := Lib.hid hx
  replace K1 := Lib.hid (K1 W hx)
  replace K2 := Lib.hid K2
  clear hx
  go_enter Tryz.func4, Tryz.ntmps4
  go_wp2_with fail
  refine K1.out.mono ?_
  rintro e w1 ⟨a, c, b, d, rfl, hV, hc, hb⟩
  have HC := Lib.hid hc
  clear K1 hc
  go_wp2_with fail
  obtain ⟨h1, h2, h3, hb0⟩ := alloc3 w1 (.cells #[.slice a 2 c, .slice b 6 d] 25) (.cells #[.int .i64 1] 3) (.cells #[.string ⟨#[45, 55]⟩] 9)
  have hV2 : Vl _ (some ⟨w1.heap.size + 1, 0, none⟩) 1 (some ⟨w1.heap.size + 1 + 1, 0, none⟩) 1 [1] ([[45, 55]].map tx) := ⟨Sl.row (l := [1]) h2, St.row (l := [[45, 55]].map tx) h3, by omega⟩
  have hbb := hb.trans (hb0.mono hb.size)
  have hA : Bx _ w1.heap.size a 2 c b 6 d := h1
  refine (K2.out _ (HX.out.below hbb).tab _ _ hV2).mono ?_
  rintro e w2 ⟨rfl, hb2⟩
  have hA2 := hA.below hb2 hA.lt
  have hV3 := (hV.below hb0).below hb2
  have hb3 := hbb.trans (hb2.mono hbb.size)
  have z0 := hA2.c0
  have z1 := hA2.c1
  have K3 := Lib.hid (KM.out w2 a b c d hV3 HC.out)
  clear h1 h2 h3 hb0 hV2 hbb hA hb2 hA2 hV3 hV hb K2 KM
  go_wp2_with fail
  refine K3.out.mono ?_
  rintro e w3 ⟨rfl, hb4⟩
  rw [show itV [2, 3] = 2 from rfl]
  have z2 := (hb4.cell (p := ⟨w1.heap.size, 1, none⟩) (World.block_lt_of_cell? w2 _ z1)).trans z1
  have hb5 := hb3.trans (hb4.mono hb3.size)
  clear z0 z1 K3 hb4 hb3
  go_wp2_with fail
  go_ret
  exact ⟨rfl, hb5⟩
end Go.Proofs.YtomkjmhebnecbaaGreatDoor

import Derived.Test.YtomkjmhebnecbaaGreatDoorMat
import Derived.Test.YtomkjmhebnecbaaGreatDoorMau
import Derived.Deep.RegionWith
/-
  strings.Cut at a sign; text's elements and axes.
-/
namespace Go.Proofs.YtomkjmhebnecbaaGreatDoor
set_option linter.unusedVariables false
set_option linter.unusedSimpArgs false
open Go.RowKit

theorem idx_is : IdxIs := fun s w => Tryz.strings_Index_one s 32 w
theorem num_is : NumIs := fun l h w => Number_is l h w
theorem idx35_free {a : List UInt8} (h : ∀ c ∈ a, c ≠ 35) : Lib.indexByte a 35 = -1 := by
  induction a with
  | nil => rfl
  | cons x a ih =>
    have hx : (x == 35) = false := beq_false_of_ne (h x (by simp))
    unfold Lib.indexByte
    rw [hx, ih fun c hc => h c (by simp [hc])]
    rfl
theorem idx35_at {a : List UInt8} (h : ∀ c ∈ a, c ≠ 35) (r : List UInt8) : Lib.indexByte (a ++ 35 :: r) 35 = (a.length : Int) := by
  induction a with
  | nil => rfl
  | cons x a ih =>
    have hx : (x == 35) = false := beq_false_of_ne (h x (by simp))
    rw [List.cons_append]
    unfold Lib.indexByte
    rw [hx, ih fun c hc => h c (by simp [hc])]
    have h1 : ((a.length : Int) == -1) = false := beq_false_of_ne (by omega)
    simp [h1]
theorem tx_behind35 (a r : List UInt8) : (tx (a ++ 35 :: r)).extract (a.length + 1) (a.length + (r.length + 1)) = tx r := bytes_ext (by
  rw [extract_list, tx_list, tx_list, show a ++ 35 :: r = (a ++ [35]) ++ r by simp, show a.length + 1 = (a ++ [35]).length by simp, List.drop_left, List.take_of_length_le (by simp; omega)])
def CutEnd (a r : List UInt8) (b : Bool) (w : World) (e : Ending) (w' : World) : Prop := e = .returned (.tuple #[.string (tx a), .string (tx r), .bool b]) ∧ ∃ n, w' = w.drewN n
theorem cut35 : ∀ s : List UInt8, (∀ c ∈ s, c ≠ 35) ∨ ∃ a r, s = a ++ 35 :: r ∧ ∀ c ∈ a, c ≠ 35
  | [] => .inl fun c h => by cases h
  | x :: s => by
    by_cases hx : x = 35
    · exact .inr ⟨[], s, by rw [hx]; rfl, fun c h => by cases h⟩
    · rcases cut35 s with h | ⟨a, r, e, h⟩
      · exact .inl fun c hc => by
          rcases List.mem_cons.1 hc with rfl | hc
          · exact hx
          · exact h c hc
      · exact .inr ⟨x :: a, r, by rw [e]; rfl, fun c hc => by
          rcases List.mem_cons.1 hc with rfl | hc
          · exact hx
          · exact h c hc⟩
theorem slCut_no {s : List UInt8} (h : ∀ c ∈ s, c ≠ 35) (w : World) : Calls Tryz.prog 50 #[.string (tx s), .string ⟨#[35]⟩] w (CutEnd s [] false w) := by
  have K := Tryz.stringslite_Index_one (tx s) 35 w
  rw [tx_list, idx35_free h] at K
  replace K := Lib.hid K
  clear h
  go_enter Tryz.func50, Tryz.ntmps50
  go_wp2_with fail
  refine K.out.mono ?_
  rintro e w1 ⟨rfl, rfl⟩
  go_wp2_with fail
  go_ret3
  exact ⟨rfl, 0, rfl⟩
theorem slCut_yes {a : List UInt8} (h : ∀ c ∈ a, c ≠ 35) (r : List UInt8) (hz : (a ++ 35 :: r).length ≤ 140737488355327) (w : World) : Calls Tryz.prog 50 #[.string (tx (a ++ 35 :: r)), .string ⟨#[35]⟩] w (CutEnd a r true w) := by
  have K := Tryz.stringslite_Index_one (tx (a ++ 35 :: r)) 35 w
  rw [tx_list, idx35_at h] at K
  replace K := Lib.hid K
  have e1 := tx_take a (35 :: r)
  have e2 := tx_behind35 a r
  have hl : a.length + (r.length + 1) ≤ 140737488355327 := by simpa using hz
  have hsz : (tx (a ++ 35 :: r)).size = a.length + (r.length + 1) := by rw [tx_size]; simp
  clear h hz
  generalize tx (a ++ 35 :: r) = u at *
  go_enter Tryz.func50, Tryz.ntmps50
  go_wp2_with fail
  refine K.out.mono ?_
  rintro e w1 ⟨rfl, rfl⟩
  go_wp2_with fail
  go_region
  go_wp2_with fail
  go_ret3
  exact ⟨rfl, 1, rfl⟩
theorem Cut_any {s a r : List UInt8} {b : Bool} (w : World) (h : Calls Tryz.prog 50 #[.string (tx s), .string ⟨#[35]⟩] w (CutEnd a r b w)) : Calls Tryz.prog 36 #[.string (tx s), .string ⟨#[35]⟩] w (CutEnd a r b w) := by
  have K := Lib.hid h
  clear h
  go_enter Tryz.func36, Tryz.ntmps36
  go_wp2_with fail
  refine K.out.mono ?_
  rintro e w1 ⟨rfl, n, rfl⟩
  go_wp2_with fail
  go_ret3
  exact ⟨rfl, n, rfl⟩
theorem mayL_len {l : List UInt8} (h : mayL l = true) : l.length ≤ 101 := by
  have h2 : (figs l).length ≤ 100 := by
    unfold mayL at h
    simp only [Bool.and_eq_true, decide_eq_true_eq] at h
    exact h.1.1.2
  cases l with
  | nil => simp
  | cons c r =>
    by_cases hc : c = 45
    · rw [hc, figs_neg] at h2; simp; omega
    · rw [figs_pos (l := c :: r) (fun h => hc (Option.some.inj h))] at h2; omega
theorem nb_few {s : List UInt8} {m : Nat} {es : List (List UInt8)} {b : Bool} (h : NbS s m es b) : es.length ≤ m ∧ ∀ e ∈ es, e.length ≤ 1000000000 := by
  rcases h with ⟨_, h, hm⟩ | ⟨_, rfl, _⟩
  · exact ⟨hm, fun e he => by have := mayL_len (h.2.1 e he); omega⟩
  · exact ⟨Nat.zero_le _, fun e he => by cases he⟩
def ElEnd (s : List UInt8) (W : World) (e : Ending) (W' : World) : Prop :=
  ∃ a c es b, e = .returned (.tuple #[.slice a es.length c, .bool b]) ∧ St W' a es.length (es.map tx) ∧ ElS s 4096 es b ∧ es.length ≤ 4096 ∧ Below W.heap.size W W'
set_option maxHeartbeats 800000 in
theorem elements_is (s : List UInt8) (hz : s.length ≤ 1000000000) (w : World) : Calls Tryz.prog 37 #[.string (tx s)] w (ElEnd s w) := by
  by_cases h0 : s = [33, 48]
  · subst h0
    have h1 : (tx [33, 48]).toList = [33, 48] := by rw [str_tl]; rfl
    go_enter Tryz.func37, Tryz.ntmps37
    go_wp2_with fail
    go_ret2
    exact ⟨none, 0, [], true, rfl, St.nil _ _, el_none _, by simp, Below.refl _ _⟩
  · have h1 : ((tx s).toList == [33, 48]) = false := by
      rw [str_tl]
      exact beq_eq_false_iff_ne.2 h0
    have main : ∀ (r : List UInt8) (v : Bool), r.length ≤ 1000000000 → (s.head? == some 44) = v → (r = if v then s.drop 1 else s) → (∀ es b, NbS r 4096 es b → ElS s 4096 es (b && (v == ((es.length : Int) == 1)))) → Calls Tryz.prog 37 #[.string (tx s)] w (ElEnd s w) := by
      intro r v hr hv hm hE
      have K1 := Lib.hid (Cut_tx s r 44 w v hv hm)
      have K2 := Lib.hid (numbers_is idx_is num_is r hr 4096 (by decide))
      replace hE := Lib.hid hE
      clear h0 hm hv hz
      cases v with
      | false =>
        go_enter Tryz.func37, Tryz.ntmps37
        go_wp2_with fail
        refine K1.out.mono ?_
        rintro e w1 ⟨rfl, rfl⟩
        go_wp2_with fail
        refine (K2.out w).mono ?_
        rintro e w1 ⟨q, es, b, rfl, hrow, hN, hb⟩
        obtain ⟨a, c, rfl, hst, _⟩ := owns_st hrow
        have hfew := (nb_few hN).1
        have HE := Lib.hid (hE.out es b hN)
        clear K1 K2 hrow hN
        cases b with
        | false =>
          go_wp2_with fail
          go_ret2
          exact ⟨a, c, es, false, rfl, hst, HE.out, hfew, hb⟩
        | true =>
          by_cases h1 : es.length = 1
          · have e1 : ((es.length : Int) == 1) = true := by rw [h1]; rfl
            rw [e1] at HE
            clear h1
            go_wp2_with fail
            go_ret2
            exact ⟨a, c, es, false, rfl, hst, HE.out, hfew, hb⟩
          · have e1 : ((es.length : Int) == 1) = false := beq_eq_false_iff_ne.2 (by omega)
            rw [e1] at HE
            clear h1
            go_wp2_with fail
            go_ret2
            exact ⟨a, c, es, true, rfl, hst, HE.out, hfew, hb⟩
      | true =>
        go_enter Tryz.func37, Tryz.ntmps37
        go_wp2_with fail
        refine K1.out.mono ?_
        rintro e w1 ⟨rfl, rfl⟩
        go_wp2_with fail
        refine (K2.out w).mono ?_
        rintro e w1 ⟨q, es, b, rfl, hrow, hN, hb⟩
        obtain ⟨a, c, rfl, hst, _⟩ := owns_st hrow
        have hfew := (nb_few hN).1
        have HE := Lib.hid (hE.out es b hN)
        clear K1 K2 hrow hN
        cases b with
        | false =>
          go_wp2_with fail
          go_ret2
          exact ⟨a, c, es, false, rfl, hst, HE.out, hfew, hb⟩
        | true =>
          by_cases h1 : es.length = 1
          · have e1 : ((es.length : Int) == 1) = true := by rw [h1]; rfl
            rw [e1] at HE
            clear h1
            go_wp2_with fail
            go_ret2
            exact ⟨a, c, es, true, rfl, hst, HE.out, hfew, hb⟩
          · have e1 : ((es.length : Int) == 1) = false := beq_eq_false_iff_ne.2 (by omega)
            rw [e1] at HE
            clear h1
            go_wp2_with fail
            go_ret2
            exact ⟨a, c, es, false, rfl, hst, HE.out, hfew, hb⟩
    by_cases h4 : s.head? = some 44
    · obtain ⟨r, rfl⟩ : ∃ r, s = 44 :: r := by
        cases s with
        | nil => cases h4
        | cons d r => cases h4; exact ⟨r, rfl⟩
      exact main r true (by simp at hz; omega) rfl rfl (fun es b hN => el_comma hN)
    · exact main s false hz (beq_eq_false_iff_ne.2 h4) rfl (fun es b hN => el_row h0 h4 hN)
def AxEnd (s : List UInt8) (W : World) (e : Ending) (W' : World) : Prop :=
  ∃ a n c xs b, e = .returned (.tuple #[.slice a n c, .bool b]) ∧ AxS Lib.itoa (fun x => fine x = true) s xs b ∧ (b = true → Sl W' a n xs) ∧ (n ≤ c ∧ c ≤ 1000000) ∧ Below W.heap.size W W'
theorem fine_may : ∀ x, fine x = true → mayL (Lib.itoa x) = true := fun x hx => by
  have := fine_yes.1 hx
  exact (mayL_itoa x).2 (lim_i64 (by omega) (by omega))
set_option maxHeartbeats 800000 in
theorem axes_is (s : List UInt8) (hz : s.length ≤ 1000000000) (w : World) (he : ErrT w) : Calls Tryz.prog 39 #[.string (tx s)] w (AxEnd s w) := by
  have K1 := Lib.hid (numbers_is idx_is num_is s hz 3 (by decide) w)
  have HE := Lib.hid he
  clear hz he
  go_enter Tryz.func39, Tryz.ntmps39
  go_wp2_with fail
  refine K1.out.mono ?_
  rintro e w1 ⟨q, es, b, rfl, hrow, hN, hb⟩
  obtain ⟨a, c, rfl, hst, _⟩ := owns_st hrow
  obtain ⟨hfew, hlen⟩ := nb_few hN
  have HN := Lib.hid hN
  clear K1 hrow hN
  cases b with
  | false =>
    go_wp2_with fail
    go_ret2
    exact ⟨none, 0, 0, [], false, rfl, ax_no1 fine_may HN.out, fun h => (by cases h), by decide, hb⟩
  | true =>
    by_cases h2 : es.length < 2
    · go_wp2_with fail
      go_ret2
      exact ⟨none, 0, 0, [], false, rfl, ax_no2 fine_may HN.out h2, fun h => (by cases h), by decide, hb⟩
    · have K2 := Lib.hid (Vector_is a c es w1 hst (by omega))
      have HL := Lib.hid (And.intro hlen hfew)
      have HB := Lib.hid hb
      clear hlen hfew hst hb
      go_wp2_with fail
      refine K2.out.mono ?_
      rintro e w2 ⟨g, a2, c2, rfl, hV, hb2⟩
      have K3 := Lib.hid (AllT_is (c := 1) (d := c2) w2 hV HL.out.1 (by have := HL.out.2; omega) ((HE.out.below HB.out).below hb2))
      have HB2 := Lib.hid hb2
      clear hV hb2 K2
      go_wp2_with fail
      refine K3.out.mono ?_
      rintro e w3 ⟨a3, n3, c3, z, rfl, hz, hcap, hb3⟩
      have hbb := HB.out.trans ((HB2.out.trans (hb3.mono HB2.out.size)).mono HB.out.size)
      have HC := Lib.hid hcap
      clear hb3 K3 HB2 hcap
      rcases hz with ⟨rfl, xs, hx, hf, hs⟩ | ⟨rfl, rfl, e1, he1, hno⟩
      · have HX := Lib.hid (And.intro hx (And.intro hf hs))
        clear hx hf hs
        go_wp2_with fail
        go_ret2
        exact ⟨_, _, _, xs, true, rfl, ax_yes HN.out (by omega) HX.out.1 HX.out.2.1, fun _ => HX.out.2.2, HC.out, hbb⟩
      · have HX := Lib.hid (And.intro he1 hno)
        clear he1 hno
        go_wp2_with fail
        go_ret2
        exact ⟨_, _, _, [], false, rfl, ax_no3 fine_may HN.out HX.out.1 HX.out.2 [], fun h => (by cases h), HC.out, hbb⟩
end Go.Proofs.YtomkjmhebnecbaaGreatDoor

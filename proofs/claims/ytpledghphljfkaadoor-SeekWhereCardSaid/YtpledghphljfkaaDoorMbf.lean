import Derived.Test.YtpledghphljfkaaDoorMbc
import Derived.Test.YtpledghphljfkaaDoorMae
/-
  SeekWhere at every slice of bytes.
-/
namespace Go.Proofs.YtpledghphljfkaaDoor
set_option linter.unusedVariables false
set_option linter.unusedSimpArgs false
open Go.RowKit Go.ChangeShapes Go.WideShapes Go.ChangeAt

theorem byte_le {x : Int} (h : (Lit.int .u8 x).wf = true) : 0 ≤ x ∧ x ≤ 255 := by
  have h1 : IntKind.u8.min = 0 := rfl
  have h2 : IntKind.u8.max = 255 := rfl
  simp only [Lit.wf, Bool.and_eq_true, decide_eq_true_eq] at h
  omega
/-- A slice of bytes, read by a function. -/
def Bs (W : World) (a : Option Addr) (n : Nat) (f : Nat → Int) : Prop := 0 < n → ∃ b off, a = some ⟨b, off, none⟩ ∧ ∀ j, j < n → W.cell? ⟨b, off + j, none⟩ = some (.int .u8 (f j)) ∧ 0 ≤ f j ∧ f j ≤ 255
set_option maxRecDepth 100000 in
theorem bytes_opened {H : Type} {enc : TypeId × Value → H} {W : World} {r : Reach} {b0 : Nat} {v : Value} {dd : DataW H} {p : List MemPlace} (hv : Value.okWide Tryd.prog W r b0 38 v) (h : DataW.Trod enc Tryd.prog W 0 (fun _ => true) true 38 v dd p) :
    ∃ a n c f, v = .slice a n c ∧ Bs W a n f ∧ n ≤ c ∧ c ≤ maxLen := by
  obtain ⟨a, n, c, rfl⟩ := okWide_slice Tryd.underlying38 hv
  obtain ⟨fuel, hf⟩ := h
  have hc : Tryd.prog.cellsOf 5 = 1 := by kernel_rfl
  rcases open_ints Tryd.underlying38 Tryd.underlying5 hc hf with ⟨hcs, _⟩ | ⟨a', n', c', zs, hcs, _, hle, hmax, hall, _, hcell, hwf⟩
  · simp [Value.cells] at hcs
    obtain ⟨rfl, rfl, rfl⟩ := hcs
    exact ⟨none, 0, 0, fun _ => 0, rfl, fun h => by omega, Nat.le_refl _, by unfold maxLen; omega⟩
  · simp [Value.cells] at hcs
    obtain ⟨rfl, rfl, rfl⟩ := hcs
    simp only [if_true] at hall
    refine ⟨some a', n, c, fun j => zs.getD j 0, rfl, fun hn => ?_, hle, hmax⟩
    obtain ⟨b, off, spot⟩ := a'
    have hspot : spot = none := by simpa [Addr.add] using World.cell?_spot (hcell 0 (by omega))
    subst hspot
    refine ⟨b, off, rfl, fun j hj => ⟨?_, ?_⟩⟩
    · rw [← Go.WideShapes.add_plain]; exact hcell j (by omega)
    · have hj2 : j < zs.length := by omega
      exact byte_le (hwf (zs.getD j 0) (by rw [List.getD_eq_getElem?_getD, List.getElem?_eq_getElem hj2]; exact List.getElem_mem hj2))
/-- The numbers that bytes make. -/
def bk (f : Nat → Int) (n : Nat) : List Nat := (List.range n).map fun j => (f j % 4).toNat
theorem bk_len (f : Nat → Int) (n : Nat) : (bk f n).length = n := by simp [bk]
theorem bk_at {f : Nat → Int} {n j : Nat} (h : j < n) : (bk f n).getD j 0 = (f j % 4).toNat := by simp [bk, List.getD_eq_getElem?_getD, h]
theorem bk_snoc (f : Nat → Int) (n : Nat) : bk f (n + 1) = bk f n ++ [(f n % 4).toNat] := by simp [bk, List.range_succ]
theorem bk_sum (f : Nat → Int) : ∀ n, (bk f n).sum ≤ 3 * n
  | 0 => by simp [bk]
  | n + 1 => by
    rw [bk_snoc, List.sum_append]
    have := bk_sum f n
    have h2 : (f n % 4).toNat ≤ 3 := by omega
    simp only [List.sum_cons, List.sum_nil]
    omega
theorem wh_bk {f : Nat → Int} {n : Nat} (h : n ≤ 300) : whK (some ([(n : Int)], intL (bk f n))) = (some ([((bk f n).sum : Int)], intL (whS 0 (bk f n))), 0) := by
  have hs := bk_sum f n
  have hk : ∀ x ∈ intL (bk f n), 0 ≤ x ∧ x ≤ 3 := fun x hx => by
    obtain ⟨i, hi, rfl⟩ := List.mem_map.1 hx
    obtain ⟨j, _, rfl⟩ := List.mem_map.1 hi
    omega
  rw [wh_yes (q := ([(n : Int)], intL (bk f n))) rfl (nears fun x hx => by have := hk x hx; omega), if_neg, nat_int, if_neg (by omega)]
  rintro ⟨x, hx, h0⟩
  have := hk x hx
  omega
/-- The array of counts. -/
def Mr (w : World) (g : Nat) (F : Nat → Int) : Prop := w.rowIs g 40 300 (fun j => Value.int .i64 (F j))
theorem zc_is : Tryd.zeroCells40 = madeCells #[.int .i64 0] 300 := by kernel_rfl
theorem Mr.made (w : World) : Mr (w.alloc (.cells Tryd.zeroCells40 40)) w.heap.size (fun _ => 0) := by
  rw [zc_is]; exact World.rowIs_made w _ 300 _
theorem Mr.set {w : World} {g : Nat} {F : Nat → Int} (h : Mr w g F) (i : Nat) (v : Int) : Mr (w.setCell ⟨g, i, none⟩ (.int .i64 v)) g (fun j => if j = i then v else F j) := by
  refine (World.rowIs.set h i _).congr fun j _ => ?_
  show (if j = i then _ else _) = Value.int .i64 (if j = i then v else F j)
  split <;> rfl
theorem Mr.on {w w' : World} {g : Nat} {F : Nat → Int} (h : Mr w g F) (hb : Below w.heap.size w w') : Mr w' g F := World.rowIs.of_block h (hb.block g (World.rowIs.lt h))
theorem lwS_P {P : World → Prop} {w : World} {f : FuncId} {args : Array Value} {l xs : List Int} (h : Lv P w) (hc : Calls Tryd.prog f args w (PtEnd l (xs.map S) w) ∧ Rok (some (l, xs)))
    (hs : Stb P := by repeat' (first | exact Stb.bel _ | exact Stb.bx | exact Av.stb2 | exact Stb.sl | refine Stb.and ?_ ?_ | exact Stb.triv)) :
    Calls Tryd.prog f args w fun e w' => ∃ a n c b m d, e = .returned (.agg #[.slice a n c, .slice b m d]) ∧ Lv (fun w'' => Av w'' a n c b m d l (xs.map S) (some (l, xs)) ∧ P w'') w' := lw_P h hc hs
set_option maxRecDepth 100000 in
set_option maxHeartbeats 3200000 in
theorem swheres_big {a : Option Addr} {n c : Nat} (W : World) (hW : WT W) (hn : 300 < n) : Calls Tryd.prog 6 #[.slice a n c] W (TrueEnd W) := by
  have KS := Lib.hid (kshown_is W hW)
  have hn3 : (300 : Int) < (n : Int) := by omega
  clear hW
  go_enter Tryd.func6, Tryd.ntmps6
  go_wp2_with fail
  refine KS.out.mono ?_
  rintro e w ⟨rfl, hb⟩
  go_wp2_with fail
  go_ret
  exact ⟨rfl, hb⟩
set_option maxRecDepth 100000 in
set_option maxHeartbeats 32000000 in
theorem swheres_yes {a : Option Addr} {n c : Nat} {f : Nat → Int} (W : World) (hW : WT W) (hB : Bs W a n f) (hn : n ≤ 300) : Calls Tryd.prog 6 #[.slice a n c] W (TrueEnd W) := by
  have KS := Lib.hid (kshown_is W hW)
  have HB := Lib.hid hB
  have KW := Lib.hid (fun w (hb : Below W.heap.size W w) => hW.below hb)
  have hn3 : ¬ (300 : Int) < (n : Int) := by omega
  clear hW hB
  go_enter Tryd.func6, Tryd.ntmps6
  go_wp2_with fail
  refine KS.out.mono ?_
  rintro e w0 ⟨rfl, hb0⟩
  obtain ⟨B, hBe⟩ : ∃ B, B = w0.heap.size := ⟨_, rfl⟩
  have HB0 := Lib.hid hb0
  clear hb0 KS
  go_wp2_with fail
  go_loopw [4, 5, 6] (fun kv sv iv wr => ∃ (i s : Nat) (av : Option Addr) (cv : Nat), kv = .slice av i cv ∧ sv = .int .i64 (s : Int) ∧ iv = .int .i64 (i : Int) ∧ i ≤ n ∧ s ≤ 3 * i ∧ Hid (s = (bk f i).sum) ∧ Hid (wr.ownsRow B 3 1 (.slice av i cv) i (valsI (intL (bk f i)))) ∧ Below B w0 wr) (fun _ _ iv _ => n - (intOf iv).toNat)
  case atStart => exact ⟨0, 0, none, 0, rfl, rfl, rfl, Nat.zero_le _, Nat.zero_le _, Lib.hid rfl, Lib.hid (World.ownsRow_nil _ _ _ _), by rw [hBe]; exact Below.refl _ _⟩
  case round =>
    obtain ⟨i, s, av, cv, rfl, rfl, rfl, hi, hs3, HSS, HO, hb⟩ := hrel
    have hBz : B ≤ wr.heap.size := by rw [hBe]; exact hb.size
    have hBW : W.heap.size ≤ B := by rw [hBe]; exact HB0.out.size
    by_cases hil : i < n
    · have e3 : (i : Int) < (n : Int) := by omega
      obtain ⟨bb, off, rfl, hc⟩ := HB.out (by omega)
      obtain ⟨hci, h0, h255⟩ := hc i hil
      have lci := World.block_lt_of_cell? W _ hci
      have hck := ((HB0.out.trans (hb.mono hBW)).cell (p := ⟨bb, off + i, none⟩) lci).trans hci
      obtain ⟨x, hx⟩ : ∃ x, x = f i := ⟨_, rfl⟩
      rw [← hx] at hck h0 h255
      obtain ⟨y, hy⟩ : ∃ y : Nat, y = (x % 4).toNat := ⟨_, rfl⟩
      have hsn := bk_snoc f i
      rw [← hx, ← hy] at hsn
      have hy3 : y ≤ 3 := by omega
      have hm1 : x % 4 = (y : Int) := by omega
      have hm2 : x.tmod 4 = (y : Int) := by rw [Int.tmod_eq_emod_of_nonneg h0]; exact hm1
      have hw1 : IntKind.u8.wrap (y : Int) = (y : Int) := by rw [IntKind.wrap_u8]; omega
      have hw2 : IntKind.i64.wrap (y : Int) = (y : Int) := IntWalk.i64_in _ (by omega)
      have hw3 : IntKind.i64.wrap ((s : Int) + (y : Int)) = ((s + y : Nat) : Int) := by rw [← Int.natCast_add]; exact IntWalk.i64_in _ (by omega)
      have HSN := Lib.hid hsn
      have HBB := Lib.hid hb
      have ho2 := Lib.hid (HO.out.alloc (.cells #[.int .i64 (y : Int)] 3))
      have hr5 := Lib.hid (own_rd (own_new1 wr (y : Int)))
      have HCI := Lib.hid hci
      have FXI := Lib.hid hx.symm
      clear hc hci hx hy hsn hb
      go_upto_region 10 with (at_builtin; refine wpList_append_rd rfl (.tmp 25) (.tmp 32) 22 rfl B 3 (.int .i64 0) 8 Tryd.underlying22 infoInt1 rfl (by decide) _ i _ rfl ho2.out _ 1 1 (valsI [(y : Int)]) rfl hr5.out (valsI_one _) (by omega) (by simp; omega) ?_; intro av' cv' w3 hown3 hg3)
      have hb3 : Below B w0 w3 := (HBB.out.alloc hBz _).trans (grown_below' hg3 (fun g' hg' => (ho2.out.lt g' hg').1) (by simp; omega))
      have hck3 := ((HB0.out.trans (hb3.mono hBW)).cell (p := ⟨bb, off + i, none⟩) lci).trans HCI.out
      rw [show f i = x from FXI.out] at hck3
      rw [← int_snoc, ← HSN.out] at hown3
      have HO3 := Lib.hid hown3
      clear hg3 hown3 ho2 hr5 hck
      go_wp2_with fail
      go_roundw
      case rel => exact ⟨i + 1, s + y, av', cv', rfl, rfl, by go_num, by omega, by omega, Lib.hid (by rw [HSN.out, List.sum_append, ← HSS.out]; simp), HO3, hb3⟩
      case measure => simp [intOf]; omega
    · have e3 : ¬ (i : Int) < (n : Int) := by omega
      obtain rfl : i = n := by omega
      have hbW := HB0.out.trans (hb.mono hBW)
      have hsk : Sl wr av i (intL (bk f i)) := own_sl HO.out
      have h : Lv (fun z => Sl z av i (intL (bk f i)) ∧ Below W.heap.size W z) wr := ⟨hsk, hbW⟩
      have hk3 : ∀ x ∈ intL (bk f i), 0 ≤ x ∧ x ≤ 3 := fun x hx => by
        obtain ⟨i, hi, rfl⟩ := List.mem_map.1 hx
        obtain ⟨j, _, rfl⟩ := List.mem_map.1 hi
        omega
      have KI := Ints_pt av i cv (intL (bk f i)) wr hsk (fun j hj => by
        have hl : j < (intL (bk f i)).length := by rw [intL_len, bk_len]; exact hj
        rw [List.getD_eq_getElem?_getD, List.getElem?_eq_getElem hl]
        have := hk3 _ (List.getElem_mem hl)
        show I64 (intL (bk f i))[j]
        unfold I64; omega) (by omega) (KW.out _ hbW)
      have RK : Rok (some ([(i : Int)], intL (bk f i))) := vec_rok (t := i) (by omega) (by rw [intL_len, bk_len]) fun x hx => small_rok (by have := hk3 x hx; omega)
      have HTW := Lib.hid (wh_bk (f := f) (n := i) (by omega))
      have HP := Lib.hid (show (intL (whS 0 (bk f i))).length = s by rw [intL_len, wh_len, HSS.out])
      have HPA := Lib.hid (show (intL (whS 0 (bk f i))).all nearM = true from nears fun x hx => by
        obtain ⟨p, hp, rfl⟩ := List.mem_map.1 hx
        have := (wh_mem hp).2
        rw [bk_len] at this
        omega)
      rw [← HSS.out] at HTW
      have KII := Lib.hid (And.intro KI RK)
      clear hsk hbW hb hk3 KI RK
      go_wp2_with fail
      with_reducible refine (lwS_P h (KII.out)).mono ?_
      clear h
      rintro e w ⟨ak, nk, ck, bkk, mk, dk, rfl, h⟩
      have KJ := SWhere_is h.out.1 (KW.out _ h.out.2.2)
      rw [HTW.out] at KJ
      go_wp2_with fail
      with_reducible refine (lwS_M h (KJ)).mono ?_
      clear h
      rintro e w ⟨az, nz, cz, bz, mz, dz, rfl, h⟩
      clear KJ
      have KA := All_av (c := cz) (d := dz) (s := [(s : Int)]) _ (show Vl _ az nz bz mz [(s : Int)] ((intL (whS 0 (bk f i))).map S) from h.out.2.1.v) h.out.2.1.i.2.2.2 (by have := h.out.2.1.mlen.2.2; omega) (KW.out _ h.out.2.2.2.2)
      have xz := h.out.1.c0
      have yz := h.out.1.c1
      go_wp2_with fail
      with_reducible refine (lwS_al h (And.intro KA HPA.out)).mono ?_
      clear h xz yz
      rintro e w ⟨ap, np, cp, rfl, hnp, h⟩
      obtain rfl : np = s := hnp.trans HP.out
      clear hnp KA
      obtain ⟨wq, hwq⟩ : ∃ z, z = w := ⟨_, rfl⟩
      subst hwq
      obtain ⟨P, hP⟩ : ∃ P, P = whS 0 (bk f i) := ⟨_, rfl⟩
      have hPL : P.length = np := by rw [hP, wh_len]; exact HSS.out.symm
      have HPP : Hid (∀ k, k < np → (intL P).getD k 0 = ((P.getD k 0 : Nat) : Int)) := Lib.hid fun k hk => by
        rw [List.getD_eq_getElem?_getD, intL, List.getElem?_map, List.getElem?_eq_getElem (by omega), List.getD_eq_getElem?_getD, List.getElem?_eq_getElem (by omega)]; rfl
      have HPB : Hid (∀ k, k < np → P.getD k 0 < i) := Lib.hid fun k hk => by
        have hk2 : k < P.length := by omega
        rw [List.getD_eq_getElem?_getD, List.getElem?_eq_getElem hk2]
        have k5 := (wh_mem (i := 0) (l := bk f i) (p := P[k]) (by rw [← hP]; exact List.getElem_mem hk2)).2
        rw [bk_len] at k5
        show P[k] < i
        omega
      have HPR : Hid (∀ k, k + 1 < np → P.getD k 0 ≤ P.getD (k + 1) 0) := Lib.hid fun k hk => by
        have k5 := wh_rises 0 (bk f i)
        rw [← hP] at k5
        rw [List.getD_eq_getElem?_getD, List.getElem?_eq_getElem (by omega), List.getD_eq_getElem?_getD, List.getElem?_eq_getElem (by omega)]
        exact List.pairwise_iff_getElem.1 k5 k (k + 1) (by omega) (by omega) (by omega)
      have HPT : Hid (∀ k, k < np → P.take (k + 1) = P.take k ++ [P.getD k 0]) := Lib.hid fun k hk => by
        rw [List.take_succ_eq_append_getElem (by omega), List.getD_eq_getElem?_getD, List.getElem?_eq_getElem (by omega)]; rfl
      have HPC : Hid (∀ k, k < i → (P.take np).count k = (bk f i).getD k 0) := Lib.hid fun k hk => by
        rw [List.take_of_length_le (by omega), hP]
        have k5 := wh_count 0 (bk f i) k
        rwa [Nat.zero_add] at k5
      have HPLe : Hid (∀ k j, (P.take k).count j ≤ np) := Lib.hid fun k j => by
        have k5 := List.count_le_length (a := j) (l := P.take k)
        rw [List.length_take] at k5; omega
      rw [← hP] at h
      have HLV := Lib.hid h
      have hm0 := Mr.made wq
      have HBK : Hid (∀ k, k < i → (intL (bk f i)).getD k 0 = (((bk f i).getD k 0 : Nat) : Int)) := Lib.hid fun k hk => by
        rw [List.getD_eq_getElem?_getD, intL, List.getElem?_map, List.getElem?_eq_getElem (by rw [bk_len]; exact hk), List.getD_eq_getElem?_getD, List.getElem?_eq_getElem (by rw [bk_len]; exact hk)]; rfl
      obtain ⟨wo, hwo⟩ : ∃ z, z = wq.alloc (.cells Tryd.zeroCells40 40) := ⟨_, rfl⟩
      have hbo : Below wq.heap.size wq wo := by rw [hwo]; exact (Below.refl _ _).alloc (Nat.le_refl _) _
      rw [← hwo] at hm0
      have HM0 := Lib.hid hm0
      have HBO := Lib.hid hbo
      have HNP := Lib.hid (show np ≤ 900 by omega)
      clear h hP hPL hm0 hbo hs3 HP HPA HTW KII
      go_upto_region 16 with fail
      rw [← hwo]
      clear hwo
      go_wp2_with fail
      go_loopw [12] (fun iv wr => ∃ (k : Nat) (G : Nat → Int), iv = .int .i64 (k : Int) ∧ k ≤ np ∧ Hid (Mr wr wq.heap.size G) ∧ Hid (∀ j, G j = ((P.take k).count j : Nat)) ∧ Below wq.heap.size wq wr) (fun iv _ => np - (intOf iv).toNat)
      case atStart => exact ⟨0, _, rfl, Nat.zero_le _, HM0, Lib.hid fun j => by simp, HBO.out⟩
      case round =>
        obtain ⟨k, G, rfl, hk, HM, HG, hb⟩ := hrel
        have h := lwS_on HLV.out hb
        clear HM0 HBO
        by_cases hkp : k < np
        · have e4 : (k : Int) < (np : Int) := by omega
          obtain ⟨pp, po, hpe, hcp⟩ := h.out.1.2 (by omega)
          have cx := hcp k hkp
          rw [HPP.out k hkp] at cx
          have hxi := HPB.out k hkp
          have HT := Lib.hid (HPT.out k hkp)
          have HZ : Hid (∀ j, k = j + 1 → wr.cell? ⟨pp, po + j, none⟩ = some (.int .i64 ((P.getD j 0 : Nat) : Int)) ∧ P.getD j 0 ≤ P.getD k 0) := Lib.hid fun j e => by
            subst e
            have k5 := hcp j (by omega)
            rw [HPP.out j (by omega)] at k5
            exact ⟨k5, HPR.out j hkp⟩
          subst hpe
          have HGX := Lib.hid (HG.out (P.getD k 0))
          obtain ⟨x, hx⟩ : ∃ x, x = P.getD k 0 := ⟨_, rfl⟩
          rw [← hx] at cx hxi HZ HT HGX
          have hq1 : decide ((x : Int) < 0) = false := decide_eq_false (by omega)
          have hq2 : decide ((i : Int) ≤ (x : Int)) = false := decide_eq_false (by omega)
          have hq2n : decide (i ≤ x) = false := decide_eq_false (by omega)
          have hx3 : (x : Int) < 300 := by omega
          have hx0 : ¬ ((x : Int) < 0) := by omega
          have hxi2 : ¬ ((i : Int) ≤ (x : Int)) := by omega
          have hcn := HPLe.out k x
          have lp := World.block_lt_of_cell? wr _ cx
          have HB := Lib.hid hb
          have STEP : Hid (∀ w2, Below wr.heap.size wr w2 → w2.cell? ⟨pp, po + k, none⟩ = some (.int .i64 (x : Int)) ∧ w2.cell? ⟨wq.heap.size, x, none⟩ = some (.int .i64 (G x)) ∧ w2.frozen? ⟨wq.heap.size, x, none⟩ = false ∧ Mr (w2.setCell ⟨wq.heap.size, x, none⟩ (.int .i64 (G x + 1))) wq.heap.size (fun j => if j = x then G x + 1 else G j) ∧ Below wq.heap.size wq (w2.setCell ⟨wq.heap.size, x, none⟩ (.int .i64 (G x + 1)))) := Lib.hid fun w2 hb2 =>
            ⟨(hb2.cell (p := ⟨pp, po + k, none⟩) lp).trans cx, World.rowIs.cell (HM.out.on hb2) (by omega), World.rowIs.frozen (HM.out.on hb2) x, (HM.out.on hb2).set x _, (HB.out.trans (hb2.mono HB.out.size)).setCell (p := ⟨wq.heap.size, x, none⟩) (Nat.le_refl _) _⟩
          have hgx : G x = (((P.take k).count x : Nat) : Int) := HGX.out
          have hwx : IntKind.i64.wrap (G x + 1) = G x + 1 := IntWalk.i64_in _ (by rw [hgx]; have := HNP.out; omega)
          have HNX : Hid (∀ j, (if j = x then G x + 1 else G j) = ((P.take (k + 1)).count j : Nat)) := Lib.hid fun j => by
            rw [HT.out, List.count_append]
            by_cases e : j = x
            · subst e; rw [if_pos rfl, hgx]; simp
            · rw [if_neg e, HG.out j, show [x].count j = 0 from List.count_eq_zero.2 (by simpa using e), Nat.add_zero]
          obtain ⟨_, cm2, fm2, _, _⟩ := STEP.out wr (Below.refl _ _)
          have hnp9 : np ≤ 900 := HNP.out
          clear hcp hx hcn hgx hb h
          by_cases hk0 : k = 0
          · subst hk0
            rw [Nat.add_zero] at cx
            have e7 : (0 : Int) < (np : Int) := by omega
            go_wp2_with fail
            go_quiet (fail)
            go_wp2_with fail
            go_roundw
            case rel =>
              obtain ⟨_, _, _, hM2, hB2⟩ := STEP.out (wr.drewN nq) (below_drewN (Below.refl _ _) nq)
              exact ⟨0 + 1, _, by go_num, by omega, Lib.hid hM2, HNX, hB2⟩
            case measure => simp [intOf]; omega
          · obtain ⟨j, hj⟩ : ∃ j, k = j + 1 := ⟨k - 1, by omega⟩
            obtain ⟨cz, hzx⟩ := HZ.out j hj
            obtain ⟨z, hz⟩ : ∃ z, z = P.getD j 0 := ⟨_, rfl⟩
            rw [← hz] at cz hzx
            have hq3 : decide ((0 : Int) < (k : Int)) = true := decide_eq_true (by omega)
            have hk0i : (0 : Int) < (k : Int) := by omega
            have hq5 : decide (0 < k) = true := decide_eq_true (by omega)
            have hk0n : 0 < k := by omega
            have hq4 : decide ((x : Int) < (z : Int)) = false := decide_eq_false (by omega)
            have hq4n : decide (x < z) = false := decide_eq_false (by omega)
            have hzxi : ¬ ((x : Int) < (z : Int)) := by omega
            have hwj : IntKind.i64.wrap ((k : Int) - 1) = (j : Int) := by rw [show (k : Int) - 1 = (j : Int) by omega]; exact IntWalk.i64_in _ (by have := HNP.out; omega)
            have e6 : (j : Int) < (np : Int) := by omega
            clear hk0 hz hj hzx
            go_wp2_with fail
            go_quiet (fail)
            go_wp2_with fail
            go_roundw
            case rel =>
              obtain ⟨_, _, _, hM2, hB2⟩ := STEP.out (wr.drewN nq) (below_drewN (Below.refl _ _) nq)
              exact ⟨k + 1, _, by go_num, by omega, Lib.hid hM2, HNX, hB2⟩
            case measure => simp [intOf]; omega
        · have e4 : ¬ (k : Int) < (np : Int) := by omega
          obtain rfl : k = np := by omega
          have HB := Lib.hid hb
          clear hb h
          go_wp2_with fail
          go_loopw [13] (fun iv wz => ∃ m : Nat, iv = .int .i64 (m : Int) ∧ m ≤ i ∧ Hid (Mr wz wq.heap.size G) ∧ Below wq.heap.size wq wz) (fun iv _ => i - (intOf iv).toNat)
          case atStart => exact ⟨0, rfl, Nat.zero_le _, HM, HB.out⟩
          case round =>
            obtain ⟨m, rfl, hm, HM2, hb⟩ := hrel
            have h := lwS_on HLV.out hb
            by_cases hmi : m < i
            · have e5 : (m : Int) < (i : Int) := by omega
              have hm3 : (m : Int) < 300 := by omega
              obtain ⟨pb, ob, hpe, hcb⟩ := h.out.2.2.2.2.1.2 (by omega)
              subst hpe
              have cb := hcb m hmi
              rw [HBK.out m hmi] at cb
              have cm := World.rowIs.cell HM2.out (i := m) (by omega)
              rw [HG.out m, HPC.out m hmi] at cm
              generalize (bk f i).getD m 0 = bb at cb cm
              have HB3 := Lib.hid hb
              clear hcb hb h
              go_wp2_with fail
              go_quiet (fail)
              go_wp2_with fail
              go_roundw
              case rel => exact ⟨m + 1, by go_num, by omega, Lib.hid (HM2.out.on (below_drewN (Below.refl wr.heap.size wr) nq)), HB3.out.trans (below_drewN (Below.refl wr.heap.size wr) nq |>.mono HB3.out.size)⟩
              case measure => simp [intOf]; omega
            · have e5 : ¬ (m : Int) < (i : Int) := by omega
              have hend := h.out.2.2.2.2.2
              clear hb h
              go_wp2_with fail
              go_ret
              exact ⟨rfl, hend⟩
theorem swheres_any {a : Option Addr} {n c : Nat} {f : Nat → Int} (W : World) (hW : WT W) (hB : Bs W a n f) : Calls Tryd.prog 6 #[.slice a n c] W (TrueEnd W) := by
  by_cases hn : n ≤ 300
  · exact swheres_yes W hW hB hn
  · exact swheres_big W hW (by omega)
end Go.Proofs.YtpledghphljfkaaDoor

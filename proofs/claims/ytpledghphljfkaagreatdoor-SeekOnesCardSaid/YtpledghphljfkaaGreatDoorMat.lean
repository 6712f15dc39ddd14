import Derived.Test.YtpledghphljfkaaGreatDoorMas
/-
  An append of one number or text as a step of a region that draws, with all that it leaves; the reference's Item, by its contract.
-/
namespace Go.Proofs.YtpledghphljfkaaGreatDoor
set_option linter.unusedVariables false
set_option linter.unusedSimpArgs false
open Go.RowKit

theorem Stb.sl {a : Option Addr} {n : Nat} {l : List Int} : Stb fun w => Sl w a n l := fun _ _ h hb => h.below hb
theorem Stb.st {a : Option Addr} {n : Nat} {l : List ByteArray} : Stb fun w => St w a n l := fun _ _ h hb => h.below hb
theorem liveS {P : World → Prop} {w : World} {f : FuncId} {args : Array Value} {R : Ending → World → Prop} (h : Lv P w) (hc : Calls Tryz.prog f args w fun e w' => R e w' ∧ Below w.heap.size w w')
    (hs : Stb P := by repeat' (first | exact Stb.bel _ | exact Stb.bx | exact Stb.vl | exact Stb.sl | exact Stb.st | refine Stb.and ?_ ?_ | exact Stb.triv)) : Calls Tryz.prog f args w fun e w' => R e w' ∧ Lv P w' := hc.mono fun _ _ k => ⟨k.1, ⟨hs _ _ h.out k.2⟩⟩
theorem live_it2 {P : World → Prop} {w : World} {f : FuncId} {args : Array Value} {v : Int} {l : List Int} (h : Lv P w) (hc : Calls Tryz.prog f args w (ItPost v l w)) (hs : Stb P := by repeat' (first | exact Stb.bel _ | exact Stb.bx | exact Stb.vl | exact Stb.sl | exact Stb.st | refine Stb.and ?_ ?_ | exact Stb.triv)) :
    Calls Tryz.prog f args w fun e w' => ∃ a n c, e = .returned (.tuple #[.int .i64 v, .slice a n c]) ∧ Lv (fun z => Sl z a n l ∧ P z) w' ∧ n ≤ 20 :=
  hc.mono fun _ _ ⟨a, n, c, h1, h2, h3, h4⟩ => ⟨a, n, c, h1, ⟨h2, hs _ _ h.out h4⟩, h3⟩
theorem live_belS {P : World → Prop} {w w' : World} {B : Nat} (h : Lv P w) (hb : Below B w w') (hB : w.heap.size ≤ B) (hs : Stb P := by repeat' (first | exact Stb.bel _ | exact Stb.bx | exact Stb.vl | exact Stb.sl | exact Stb.st | refine Stb.and ?_ ?_ | exact Stb.triv)) : Lv P w' := ⟨hs _ _ h.out (hb.mono hB)⟩
/-- What lies elsewhere than in a box stays when the box is stored into. -/
theorem Bx.far1 {w : World} {g n c m d : Nat} {a b : Option Addr} (h : Bx w g a n c b m d) {p : Addr} {x : Value} (hp : w.cell? p = some x) (hx : ∀ a n c, x ≠ .slice a n c) {i : Nat} (hi : i = 0 ∨ i = 1) (u : Value) : (w.setCell ⟨g, i, none⟩ u).cell? p = some x := by
  have p1 : p ≠ ⟨g, i, none⟩ := by
    rintro rfl
    rcases hi with rfl | rfl
    · rw [h.c0] at hp
      injection hp with hp
      exact hx _ _ _ hp.symm
    · rw [h.c1] at hp
      injection hp with hp
      exact hx _ _ _ hp.symm
  rw [World.cell?_setCell_other _ _ _ _ p1.symm, hp]
theorem Bx.sl1 {w : World} {g n c m d : Nat} {a b : Option Addr} (h : Bx w g a n c b m d) {a' : Option Addr} {n' : Nat} {l : List Int} (hs : Sl w a' n' l) {i : Nat} (hi : i = 0 ∨ i = 1) (u : Value) : Sl (w.setCell ⟨g, i, none⟩ u) a' n' l :=
  ⟨hs.1, fun h0 => by obtain ⟨bb, off, e, hc⟩ := hs.2 h0; exact ⟨bb, off, e, fun j hj => h.far1 (hc j hj) (fun _ _ _ e => by cases e) hi u⟩⟩
theorem Bx.st1 {w : World} {g n c m d : Nat} {a b : Option Addr} (h : Bx w g a n c b m d) {a' : Option Addr} {n' : Nat} {l : List ByteArray} (hs : St w a' n' l) {i : Nat} (hi : i = 0 ∨ i = 1) (u : Value) : St (w.setCell ⟨g, i, none⟩ u) a' n' l :=
  ⟨hs.1, fun h0 => by obtain ⟨bb, off, e, hc⟩ := hs.2 h0; exact ⟨bb, off, e, fun j hj => h.far1 (hc j hj) (fun _ _ _ e => by cases e) hi u⟩⟩
/-- A row of numbers or texts doesn't lie in a box: it stays, whatever is put there. -/
theorem own_set_bx {w : World} {B N : Nat} {e : TypeId} {v : Value} {xs : List Value} (ho : w.ownsRow B e 1 v N xs) (he : e ≠ 25) {g n c m d : Nat} {a b : Option Addr} (hB : Bx w g a n c b m d) (i : Nat) (u : Value) : (w.setCell ⟨g, i, none⟩ u).ownsRow B e 1 v N xs := by
  refine ⟨ho.1, ?_⟩
  rcases ho.2 with h0 | ⟨g', cap, cur, e1, e2, hg, h2⟩
  · exact .inl h0
  · refine .inr ⟨g', cap, cur, e1, e2, (Below.heap_setCell _ _ _ g' ?_).trans hg, h2⟩
    show g' ≠ g
    rintro rfl
    have hx : w.heap[g']? = _ := hB
    rw [hx] at hg
    injection hg with hg
    injection hg with _ hg
    exact he hg.symm
/-- What an append turns is no box. -/
theorem Bx.grownV {w w' : World} {B N : Nat} {e : TypeId} {v : Value} {xs : List Value} (ho : w.ownsRow B e 1 v N xs) (he : e ≠ 25) (hg : w.grownBy w' v.ownBlock) {g n c m d : Nat} {a b : Option Addr} (hB : Bx w g a n c b m d) : Bx w' g a n c b m d := by
  refine (hg.block g hB.lt ?_).trans hB
  rcases ho.2 with ⟨h0, _⟩ | ⟨g', cap, cur, e1, e2, hg', h2⟩
  · rw [h0]; simp [Value.ownBlock]
  · rw [e1]
    simp only [Value.ownBlock]
    intro e3
    have e4 : g' = g := by simpa using e3.symm
    subst e4
    have hx : w.heap[g']? = _ := hB
    rw [hx] at hg'
    injection hg' with hg'
    injection hg' with _ hg'
    exact he hg'.symm
theorem own_grown {w w' : World} {B N : Nat} {e : TypeId} {v : Value} {xs : List Value} (ho : w.ownsRow B e 1 v N xs) (hg : w.grownBy w' v.ownBlock) (hB : B ≤ w.heap.size) : Below B w w' := grown_below' hg (fun g' hg' => (ho.lt g' hg').1) hB
theorem stepI {ops : Array Oper} {o : Oper} {a : Act} {K : Act → World → Prop} {Q : Exit → Act → World → Prop} {E : Prop} {w : World} (wr : World) (B : Nat) (s x : Operand) (av : Option Addr) (n cv : Nat) (xs : List Value) (v : Int)
    (ho : o.op = .call { callee := .builtin .append, args := #[s, x], argTypes := #[22, 22] }) (hgd : o.guard = none)
    (hs : a.eval s = .slice av n cv) (hx : a.eval x = .slice (some ⟨wr.heap.size, 0, none⟩) 1 1) (hh : w.heap = wr.heap.push (.cells #[.int .i64 v] 3)) (h1 : w.os = wr.os) (h2 : w.tape = wr.tape) (h3 : w.output = wr.output)
    (hown : wr.ownsRow B 3 1 (.slice av n cv) n xs) (hsz : B ≤ wr.heap.size) (hn : n ≤ 100000)
    (h : ∀ av' cv' w', w'.ownsRow B 3 1 (.slice av' (n + 1) cv') (n + 1) (xs ++ [.int .i64 v]) → wr.grownBy w' (Value.slice av n cv).ownBlock → ((Value.slice av' (n + 1) cv').ownBlock = (Value.slice av n cv).ownBlock ∨ ∃ g, (Value.slice av' (n + 1) cv').ownBlock = some g ∧ wr.heap.size ≤ g) → K (a.put o.dst (.slice av' (n + 1) cv')) w') :
    if Region.wanted o (yielded ops a.tmps) = true then Oper.wp Tryz.prog o a w K Q else E := by
  obtain ⟨i0, hi, hz0, hz1, hz2⟩ := info_parts infoInt
  have hown2 : w.ownsRow B 3 1 (.slice av n cv) n xs := by
    have h4 := hown.alloc (.cells #[.int .i64 v] 3)
    unfold World.ownsRow at h4 ⊢
    rw [hh]
    exact h4
  refine step_append_lies w hgd s x 22 ho B 3 i0 (.int .i64 0) 1 8 Tryz.underlying22 hi hz0 hz1 hz2 rfl (by decide) _ _ _ hs hown2 ⟨wr.heap.size, 0, none⟩ 1 1 [.int .i64 v] hx rfl ?_ ?_ (by decide) (by unfold maxLen; omega) (by omega) (by rw [hh, Array.size_push]; omega) _ rfl ?_
  · exact World.news_of_block (t := 3) (fr := (0, 0)) (cs := #[.int .i64 v]) (by rw [hh]; simp)
  · intro u hu
    rw [List.mem_singleton] at hu
    rw [hu]; rfl
  · intro g cap w' o1 o2 o3 _
    refine h _ _ w' o1 ⟨o2.os.trans h1, o2.tape.trans h2, o2.output.trans h3, ?_, fun k hk hne => ?_⟩ ?_
    · have := o2.size; rw [hh, Array.size_push] at this; omega
    · rw [o2.block k (by rw [hh, Array.size_push]; omega) hne, hh, Array.getElem?_push, if_neg (by omega)]
    · rcases o3 with e | e
      · exact .inl e.symm
      · exact .inr ⟨g, rfl, by rw [e, hh, Array.size_push]; omega⟩
theorem stepS {ops : Array Oper} {o : Oper} {a : Act} {K : Act → World → Prop} {Q : Exit → Act → World → Prop} {E : Prop} {w : World} (wr : World) (B : Nat) (s x : Operand) (av : Option Addr) (n cv : Nat) (xs : List Value) (v : ByteArray)
    (ho : o.op = .call { callee := .builtin .append, args := #[s, x], argTypes := #[23, 23] }) (hgd : o.guard = none)
    (hs : a.eval s = .slice av n cv) (hx : a.eval x = .slice (some ⟨wr.heap.size, 0, none⟩) 1 1) (hh : w.heap = wr.heap.push (.cells #[.string v] 9)) (h1 : w.os = wr.os) (h2 : w.tape = wr.tape) (h3 : w.output = wr.output)
    (hown : wr.ownsRow B 9 1 (.slice av n cv) n xs) (hsz : B ≤ wr.heap.size) (hn : n ≤ 100000)
    (h : ∀ av' cv' w', w'.ownsRow B 9 1 (.slice av' (n + 1) cv') (n + 1) (xs ++ [.string v]) → wr.grownBy w' (Value.slice av n cv).ownBlock → ((Value.slice av' (n + 1) cv').ownBlock = (Value.slice av n cv).ownBlock ∨ ∃ g, (Value.slice av' (n + 1) cv').ownBlock = some g ∧ wr.heap.size ≤ g) → K (a.put o.dst (.slice av' (n + 1) cv')) w') :
    if Region.wanted o (yielded ops a.tmps) = true then Oper.wp Tryz.prog o a w K Q else E := by
  obtain ⟨i0, hi, hz0, hz1, hz2⟩ := info_parts infoStr
  have hown2 : w.ownsRow B 9 1 (.slice av n cv) n xs := by
    have h4 := hown.alloc (.cells #[.string v] 9)
    unfold World.ownsRow at h4 ⊢
    rw [hh]
    exact h4
  refine step_append_lies w hgd s x 23 ho B 9 i0 (.string ⟨#[]⟩) 1 16 Tryz.underlying23 hi hz0 hz1 hz2 rfl (by decide) _ _ _ hs hown2 ⟨wr.heap.size, 0, none⟩ 1 1 [.string v] hx rfl ?_ ?_ (by decide) (by unfold maxLen; omega) (by omega) (by rw [hh, Array.size_push]; omega) _ rfl ?_
  · exact World.news_of_block (t := 9) (fr := (0, 0)) (cs := #[.string v]) (by rw [hh]; simp)
  · intro u hu
    rw [List.mem_singleton] at hu
    rw [hu]; rfl
  · intro g cap w' o1 o2 o3 _
    refine h _ _ w' o1 ⟨o2.os.trans h1, o2.tape.trans h2, o2.output.trans h3, ?_, fun k hk hne => ?_⟩ ?_
    · have := o2.size; rw [hh, Array.size_push] at this; omega
    · rw [o2.block k (by rw [hh, Array.size_push]; omega) hne, hh, Array.getElem?_push, if_neg (by omega)]
    · rcases o3 with e | e
      · exact .inl e.symm
      · exact .inr ⟨g, rfl, by rw [e, hh, Array.size_push]; omega⟩
theorem takeS_snoc {l : List ByteArray} {k : Nat} (hk : k < l.length) : valsS (l.take (k + 1)) = valsS (l.take k) ++ [.string (l.getD k ByteArray.empty)] := by
  rw [List.take_add_one, List.getD_eq_getElem?_getD, List.getElem?_eq_getElem hk]
  exact valsS_snoc _ _
theorem item_tail {l : List Int} (h : szE l = 0) (hl : l ≠ []) (hp : 0 < nI l) : szE l.tail = 0 ∧ szV l.tail = ((kI l : Nat) : Int) := by
  obtain ⟨m1, m2, m3, m4⟩ := szE_may.1 h
  cases l with
  | nil => exact absurd rfl hl
  | cons x r =>
    have hr : 0 ≤ pr r := pr_nonneg fun j hj => m2 (j + 1) (by simpa using hj)
    have hx : 0 < x := by have : 0 < x.toNat := hp; omega
    have e : pr (x :: r) = x * pr r := rfl
    have e2 : pr r ≤ x * pr r := by
      have := Int.mul_le_mul_of_nonneg_right (show (1 : Int) ≤ x by omega) hr
      omega
    have hz : szE r = 0 := szE_may.2 ⟨by simp at m1; omega, fun j hj => m2 (j + 1) (by simpa using hj), fun j hj => m3 (j + 1) (by simpa using hj), by omega⟩
    refine ⟨hz, ?_⟩
    show szV r = (((pr r).toNat : Nat) : Int)
    rw [szV_pr hz]; omega
def ItmEnd (r : List Int) (xs : List ByteArray) (W : World) (e : Ending) (W' : World) : Prop := ∃ a n c b m d, e = .returned (.tuple #[.agg #[.slice a n c, .slice b m d], .bool true]) ∧ Vl W' a n b m r xs ∧ Below W.heap.size W W' ∧ ∀ p, b = some p → W.heap.size ≤ p.block
set_option maxRecDepth 100000 in
set_option maxHeartbeats 3200000 in
theorem rItem_yes {a1 b1 : Option Addr} {n1 c1 m1 d1 : Nat} {l : List Int} {es : List ByteArray} {W : World} {q : Ar} (h1 : Av W a1 n1 c1 b1 m1 d1 l es (some q)) (h0 : 0 < n1) {i : Nat} (hi : i < nI l) :
    Calls Tryz.prog 45 #[.agg #[.slice a1 n1 c1, .slice b1 m1 d1], .int .i64 (i : Int)] W (ItmEnd l.tail (part es (kI l) i) W) := by
  have hl : l ≠ [] := by
    rintro rfl
    have := h1.v.s.1
    simp at this
    omega
  have hit := h1.items
  rw [mN_nI hl] at hit
  have hK : (i + 1) * kI l ≤ m1 := by rw [hit.1]; exact Nat.mul_le_mul_right _ hi
  obtain ⟨htz, htv⟩ := item_tail h1.sz hl (by omega)
  have hlen := part_length (es := es) (k := kI l) (i := i) (by rw [h1.v.t.1]; exact hK)
  have hm4 := h1.mlen.2.2
  have hn3 := h1.n3
  have hNb := hit.2.2.1
  have KI := fun w (hb : Below W.heap.size W w) => rItems_is a1 n1 c1 l w (h1.v.s.below hb) (by omega) h1.c.1 h1.c.2
  rw [← hit.2.1] at KI
  replace KI := Lib.hid KI
  have KM := Lib.hid (fun w (hb : Below W.heap.size W w) => rMay_av (h1.below hb))
  have KZ := Lib.hid (fun w a n c (hs : Sl w a n l.tail) => (show SizeIs 44 a n c ((kI l : Nat) : Int) 0 w by have := rSize_is a n c l.tail w hs; rwa [htz, htv] at this))
  have HT := Lib.hid h1.v.t
  have HP : Hid (∀ k, k < kI l → i * kI l + k < m1 ∧ (part es (kI l) i).getD k ByteArray.empty = es.getD (i * kI l + k) ByteArray.empty) := Lib.hid fun k hk => ⟨by rw [Nat.add_mul, Nat.one_mul] at hK; omega, part_get hk⟩
  have hKm : kI l ≤ m1 := by rw [Nat.add_mul, Nat.one_mul] at hK; omega
  have hiK : i * kI l ≤ m1 := by rw [Nat.add_mul, Nat.one_mul] at hK; omega
  have ge : ¬ ((nI l : Nat) : Int) ≤ (i : Int) := by omega
  have gi : ¬ ((i : Int) < 0) := by omega
  have hi2 : i ≤ 1099511627776 := by omega
  clear h1 hit hl htz htv hi hNb hK
  generalize l.tail = T at *
  generalize part es (kI l) i = P at *
  generalize nI l = N at *
  generalize kI l = K at *
  obtain ⟨o, ho⟩ : ∃ o, o = i * K := ⟨_, rfl⟩
  have hw5 : IntKind.i64.wrap ((i : Int) * (K : Int)) = (o : Int) := by rw [show (i : Int) * (K : Int) = (o : Int) by rw [ho, Int.natCast_mul]]; exact IntWalk.i64_in _ (by omega)
  rw [← ho] at HP hiK
  have HL := Lib.hid hlen
  clear ho hlen
  have h := live1 W a1 n1 c1 b1 m1 d1
  go_enter Tryz.func45, Tryz.ntmps45
  have x1 := h.out.2.1.c0
  go_wp2_with fail
  with_reducible refine (live_it2 h (KI.out _ h.out.2.2)).mono ?_
  clear h x1
  rintro e w ⟨ar, nr, cr, rfl, h, hr20⟩
  have x1 := h.out.2.2.1.c0
  have y1 := h.out.2.2.1.c1
  go_wp2_with fail
  with_reducible refine (liveS h (KM.out _ h.out.2.2.2)).mono ?_
  clear h x1 y1
  rintro e w ⟨rfl, h⟩
  go_wp2_with fail
  refine (KZ.out _ _ _ _ h.out.1).mono ?_
  rintro e w2 ⟨rfl, rfl⟩
  go_wp2_with fail
  have HSZ : W.heap.size ≤ w.heap.size := h.out.2.2.2.size
  have hO := Bx.new w ar nr cr none 0 0
  have hbO : Below w.heap.size w (w.alloc (.cells #[.slice ar nr cr, .slice none 0 0] 25)) := (Below.refl _ _).alloc (Nat.le_refl _) _
  go_loopw [11] (fun iv wr => ∃ (k : Nat) (bv : Option Addr) (dv : Nat), iv = .int .i64 k ∧ k ≤ K ∧ Bx wr w.heap.size ar nr cr bv k dv ∧ wr.ownsRow (w.heap.size + 1) 9 1 (.slice bv k dv) k (valsS (P.take k)) ∧ Below w.heap.size w wr) (fun iv _ => K - (intOf iv).toNat)
  case atStart => exact ⟨0, none, 0, rfl, by omega, hO, World.ownsRow_nil _ _ _ _, hbO⟩
  case round =>
    obtain ⟨k, bv, dv, rfl, hk, hO1, ho1, hb1⟩ := hrel
    clear hO hbO
    replace h := live_belS h hb1 (Nat.le_refl _)
    by_cases hlt : k < K
    · have e2 : (k : Int) < (K : Int) := by omega
      have HN := Lib.hid (takeS_snoc (l := P) (k := k) (by rw [HL.out]; exact hlt))
      obtain ⟨hp1, hp2⟩ := HP.out k hlt
      obtain ⟨bb, off, rfl, hc⟩ := HT.out.2 (by omega)
      have hck := (h.out.2.2.2.cell (p := ⟨bb, off + (o + k), none⟩) (World.block_lt_of_cell? W _ (hc _ hp1))).trans (hc _ hp1)
      rw [← hp2] at hck
      generalize P.getD k ByteArray.empty = x at *
      obtain ⟨p, hp⟩ : ∃ p, p = o + k := ⟨_, rfl⟩
      have hw6 : IntKind.i64.wrap ((o : Int) + (k : Int)) = (p : Int) := by rw [show (o : Int) + (k : Int) = (p : Int) by omega]; exact IntWalk.i64_in _ (by omega)
      rw [← hp] at hck hp1
      have x1 := h.out.2.2.1.c1
      have u1 := hO1.c1
      have lO := hO1.lt
      have HO := Lib.hid hO1
      have HR := Lib.hid ho1
      have HB := Lib.hid hb1
      clear hO1 ho1 hb1 hc hp hp2 h
      go_wp2_with fail
      go_region_law (refine stepS wr (w.heap.size + 1) (.tmp 44) (.tmp 54) bv k dv _ x rfl rfl rfl rfl rfl rfl rfl rfl HR.out (by omega) (by omega) ?_; intro av' cv' w9 hown9 hg9 _; have hO9 := Bx.grownV HR.out (by decide) hg9 HO.out; have z1 := hO9.c1; have g2 := hO9.f 1)
      all_goals
        rw [← HN.out] at hown9
        have hb10 := HB.out.trans ((own_grown HR.out hg9 (by omega)).mono (by omega))
        have hO11 := Lib.hid (hO9.set1 av' (k + 1) cv')
        have hr11 := Lib.hid (own_set hown9 (p := ⟨w.heap.size, 1, none⟩) (Nat.lt_succ_self _) (.slice av' (k + 1) cv'))
        have hb11 := Lib.hid (hb10.setCell (p := ⟨w.heap.size, 1, none⟩) (Nat.le_refl _) (.slice av' (k + 1) cv'))
        clear hO9 hg9 hown9 hb10 u1 z1 g2 HO HR HB x1 hck
        go_wp2_with fail
        go_roundw
        case rel => exact ⟨k + 1, av', cv', by go_num, by omega, hO11.out, hr11.out, hb11.out⟩
        case measure => simp [intOf]; omega
    · have e2 : ¬ (k : Int) < (K : Int) := by omega
      obtain rfl : k = K := by omega
      have x0 := hO1.c0
      have x1 := hO1.c1
      have hvl := Lib.hid (show Vl wr ar nr bv k T (P.take k) from ⟨h.out.1, own_st ho1, by omega⟩)
      rw [List.take_of_length_le (by rw [HL.out]; exact Nat.le_refl _)] at hvl
      have HFR := Lib.hid (fun p (hp : bv = some p) => Nat.le_trans HSZ (Nat.le_of_succ_le (ho1.lt p.block (by rw [hp]; rfl)).1))
      clear hO1 ho1 hb1
      have y0 := h.out.2.1.c0
      have y3 := h.out.2.1.c1
      have f0 := h.out.2.1.f 0
      have f1 := h.out.2.1.f 1
      go_wp2_with fail
      have hR := h.out.2.1.set ar nr cr bv k dv
      have r0 := hR.c0
      have r1 := hR.c1
      exact bodyPost_ret (v := .tuple #[.agg #[.slice ar nr cr, .slice bv k dv], .bool true]) (by simp [results, Tryz.results45, go_sem, r0, r1]) rfl ⟨_, _, _, _, _, _, rfl, ⟨h.out.2.1.sl hvl.out.s _ _, h.out.2.1.st hvl.out.t _ _, by omega⟩, below_made h.out.2.2.2 (by omega) _ _, HFR.out⟩
end Go.Proofs.YtpledghphljfkaaGreatDoor

import Derived.Test.YtcfbjdplhgdpfaaGreatDoorMbs
set_option maxHeartbeats 6400000
set_option maxRecDepth 100000
namespace Go.Proofs.YtcfbjdplhgdpfaaGreatDoor
set_option linter.unusedVariables false
set_option linter.unusedSimpArgs false
open Go.RowKit
theorem two_i64 {x y:Int} (hx:I64 x) (hy:I64 y):∀j,j<2→I64 (([x,y]:List Int).getD j 0):=by
 intro j hj
 have h:j=0∨j=1:=by omega
 rcases h with rfl|rfl
 · exact hx
 · exact hy
theorem tl_sm {x:Int} (h:x.natAbs<1000):tlI x=(some x,0):=tlI_near (Nat.lt_of_lt_of_le h (Nat.le_trans (by decide) lim_big))
theorem add_46:twoP [43] (some ([2],[1,2])) (some ([2],[3,4]))=(some ([2],[4,6]),0):=by
 have e:twoP [43] (some ([2],[1,2])) (some ([2],[3,4]))=dyA 0 (some ([2],[1,2])) (some ([2],[3,4])):=if_pos (by decide)
 have h1:dyI 0 1 3=(some 4,0):=tl_sm (by decide)
 have h2:dyI 0 2 4=(some 6,0):=tl_sm (by decide)
 rw[e,dyA_two (by decide) (by decide)]
 have ep:prs (nx [2]) (nx [2]) [1,2] [3,4] (prD (meV [2] [2])).toNat=[(1,3),(2,4)]:=by decide
 rw[ep]
 unfold spL
 rw[h1]
 dsimp only
 unfold spL
 rw[h2]
 dsimp only
 unfold spL
 rfl
theorem flip_1:oneP [43] (some ([],[1]))=(some ([],[1]),0):=by
 have e:oneP [43] (some ([],[1]))=fiM (some ([],[1])):=by simp[oneP,kmL]
 rw[e]
 decide
theorem sl_two (w:World) (x y:Int):Sl (w.alloc (.cells #[.int .i64 x,.int .i64 y] 3)) (some ⟨w.heap.size,0,none⟩) 2 [x,y]:=Sl.row (l:=[x,y]) (heap_alloc_new _ _)
theorem Ints_two (a:Option Addr) (x y:Int) (W:World) (h:Sl W a 2 [x,y]) (hi:∀j,j<2→I64 (([x,y]:List Int).getD j 0)) (ht:WT W):Calls Tryz.prog 17 #[.slice a 2 2] W (PtEnd [2] ([x,y].map S) W):=Ints_pt a 2 2 [x,y] W h hi (by omega) ht
theorem Scalar_1 (W:World):Calls Tryz.prog 18 #[.string ⟨#[49]⟩] W (PtEnd [] ([1].map S) W):=by
 rw[show([1]:List Int).map S=[⟨#[49]⟩]by simp[S_1]]
 exact Scalar_pt _ W
theorem pshown_is (W:World) (hW:PW W):Calls Tryz.prog 7 #[] W (TrueEnd W):=by
 have hA:Below W.heap.size W (W.alloc (.cells #[.int .i64 1,.int .i64 2] 3)):=(Below.refl _ _).alloc (Nat.le_refl _) _
 have h:Lv (fun w=>Below W.heap.size W w) (W.alloc (.cells #[.int .i64 1,.int .i64 2] 3)):=⟨hA⟩
 have KW:=Lib.hid (fun w (hb:Below W.heap.size W w)=>hW.below hb)
 have i1:=two_i64 (x:=1) (y:=2) (by decide) (by decide)
 have i2:=two_i64 (x:=3) (y:=4) (by decide) (by decide)
 have K1:=Lib.hid (Ints_two _ 1 2 _ (sl_two W 1 2) i1 (KW.out _ hA).wt)
 have R1:Rok (some ([2],[1,2])):=vec_rok (t:=2) (by omega) rfl (fun x hx=>small_rok (by simp at hx;omega))
 have R2:Rok (some ([2],[3,4])):=vec_rok (t:=2) (by omega) rfl (fun x hx=>small_rok (by simp at hx;omega))
 have R3:Rok (some ([2],[4,6])):=vec_rok (t:=2) (by omega) rfl (fun x hx=>small_rok (by simp at hx;omega))
 have R4:Rok (some ([],[1])):=⟨(by decide:szE []=0),(rfl:((1:Nat):Int)=pr []),fun x hx=>small_rok (by simp at hx;omega)⟩
 have KSC:=Lib.hid Scalar_1
 clear hW hA
 go_enter Tryz.func7,Tryz.ntmps7
 go_wp2_with fail
 with_reducible refine(lw_P h (⟨K1.out,R1⟩)).mono ?_
 clear h
 rintro e w ⟨ae,ne,ce,be,me,de,rfl,h⟩
 obtain⟨wu,hwu⟩:∃z,z=w:=⟨_,rfl⟩
 subst hwu
 have hA:Below wu.heap.size wu (wu.alloc (.cells #[.int .i64 3,.int .i64 4] 3)):=(Below.refl _ _).alloc (Nat.le_refl _) _
 replace h:=lw_on h hA
 have K2:=Lib.hid (Ints_two _ 3 4 _ (sl_two wu 3 4) i2 (KW.out _ h.out.2).wt)
 clear hA K1
 go_wp2_with fail
 with_reducible refine(lw_P h (⟨K2.out,R2⟩)).mono ?_
 clear h
 rintro e w ⟨af,nf,cf,bf,mf,df,rfl,h⟩
 have HI:=PTwo_is (s:=⟨#[43]⟩) h.out.2.1 h.out.1 (KW.out _ h.out.2.2) (by decide)
 rw[add_46]at HI
 go_wp2_with fail
 with_reducible refine(lw_M h (HI)).mono ?_
 clear h
 rintro e w ⟨au,nu,cu,bu,mu,du,rfl,h⟩
 obtain⟨wu,hwu⟩:∃z,z=w:=⟨_,rfl⟩
 subst hwu
 generalize hwz:wu.alloc (.cells #[.slice au nu cu,.slice bu mu du] 25)=wz at*
 go_wp2_with fail
 with_reducible refine(lw_P h (⟨KSC.out _,R4⟩)).mono ?_
 clear h
 rintro e w ⟨aj,nj,cj,bj,mj,dj,rfl,h⟩
 have HJ:=POne_is (s:=⟨#[43]⟩) h.out.1 (KW.out _ h.out.2.2.2.2.2) (by decide)
 rw[flip_1]at HJ
 go_wp2_with fail
 with_reducible refine(lw_M h (HJ)).mono ?_
 clear h
 rintro e w ⟨av,nv,cv,bv,mv,dv,rfl,h⟩
 obtain⟨wv,hwv⟩:∃z,z=w:=⟨_,rfl⟩
 subst hwv
 generalize hwy:wv.alloc (.cells #[.slice av nv cv,.slice bv mv dv] 25)=wy at*
 have xu:=h.out.2.2.2.1.c0
 have yu:=h.out.2.2.2.1.c1
 have xv:=h.out.1.c0
 have yv:=h.out.1.c1
 have lu:=h.out.2.2.2.1.lt
 have lv:=h.out.1.lt
 have i3:=two_i64 (x:=4) (y:=6) (by decide) (by decide)
 have Q1:Hid (∀z g,Below wy.heap.size wy z→z.heap[g]?=some (.cells #[.int .i64 4,.int .i64 6] 3 (0,0))→Calls Tryz.prog 17 #[.slice (some ⟨g,0,none⟩) 2 2] z fun e w'=>∃a n c b m d,e=.returned (.agg #[.slice a n c,.slice b m d])∧Av w' a n c b m d [2] ([4,6].map S) (some ([2],[4,6]))∧Below wy.heap.size wy w'∧Below z.heap.size z w'):=Lib.hid (fun z g hz hg=>(Ints_two (some ⟨g,0,none⟩) _ _ z (Sl.row (l:=[4,6]) hg) i3 (KW.out z (h.out.2.2.2.2.2.2.2.trans (hz.mono h.out.2.2.2.2.2.2.2.size))).wt).mono fun e w' (h:PtEnd _ _ _ _ _)=>by
  obtain⟨a,n,c,b,m,d,h1,h2,h3,h4⟩:=h
  exact⟨a,n,c,b,m,d,h1,Av.pt (q:=([2],[4,6])) h2 h3 R3,hz.trans (h4.mono hz.size),h4⟩)
 have Q2:Hid (∀z a0 n0 c0 b0 m0 d0,Below wy.heap.size wy z→Av z a0 n0 c0 b0 m0 d0 [2] ([4,6].map S) (some ([2],[4,6]))→Calls Tryz.prog 15 #[.agg #[.slice au nu cu,.slice bu mu du],.agg #[.slice a0 n0 c0,.slice b0 m0 d0]] z fun e w'=>e=.returned (.bool true)∧Below wy.heap.size wy w'):=Lib.hid (fun z a0 n0 c0 b0 m0 d0 hz hv=>(VSame_av (h.out.2.2.2.2.1.v.below hz) hv.v (by have:=h.out.2.2.2.2.1.n3;omega) (by have:=hv.n3;omega) rfl rfl).mono fun e w' k=>⟨k.1,hz.trans (k.2.mono hz.size)⟩)
 have Q3:Hid (∀z,Below wy.heap.size wy z→Calls Tryz.prog 18 #[.string ⟨#[49]⟩] z fun e w'=>∃a n c b m d,e=.returned (.agg #[.slice a n c,.slice b m d])∧Av w' a n c b m d [] ([1].map S) (some ([],[1]))∧Below wy.heap.size wy w'∧Below z.heap.size z w'):=Lib.hid (fun z hz=>(KSC.out z).mono fun e w' (h:PtEnd _ _ _ _ _)=>by
  obtain⟨a,n,c,b,m,d,h1,h2,h3,h4⟩:=h
  exact⟨a,n,c,b,m,d,h1,Av.pt (q:=([],[1])) h2 h3 R4,hz.trans (h4.mono hz.size),h4⟩)
 have Q4:Hid (∀z a0 n0 c0 b0 m0 d0,Below wy.heap.size wy z→Av z a0 n0 c0 b0 m0 d0 [] ([1].map S) (some ([],[1]))→Calls Tryz.prog 15 #[.agg #[.slice av nv cv,.slice bv mv dv],.agg #[.slice a0 n0 c0,.slice b0 m0 d0]] z fun e w'=>e=.returned (.bool true)∧Below wy.heap.size wy w'):=Lib.hid (fun z a0 n0 c0 b0 m0 d0 hz hv=>(VSame_av (h.out.2.1.v.below hz) hv.v (by have:=h.out.2.1.n3;omega) (by have:=hv.n3;omega) rfl rfl).mono fun e w' k=>⟨k.1,hz.trans (k.2.mono hz.size)⟩)
 have HB:=Lib.hid h.out.2.2.2.2.2.2.2
 have hq:Below wy.heap.size wy wy:=Below.refl _ _
 have hqz:=hq.size
 go_upto_region 3 with fail
 clear h hwz hwy K2 HI HJ
 go_region_held3 (fun w'=>w'.cell? ⟨wu.heap.size,0,none⟩=some (.slice au nu cu)∧w'.cell? ⟨wu.heap.size,1,none⟩=some (.slice bu mu du)∧w'.cell? ⟨wv.heap.size,0,none⟩=some (.slice av nv cv)∧w'.cell? ⟨wv.heap.size,1,none⟩=some (.slice bv mv dv))
  (first|exact⟨(Below.cell (p:=⟨wu.heap.size,0,none⟩) (by repeat' (first|exact hq|refine Below.drew ?_|refine below_drewN ?_ _|refine Below.alloc ?_ ?_ _|refine Below.setCell ?_ ?_ _|exact hqz|exact Nat.le_refl _|omega|(simp;done)|(simp;omega))) lu).trans xu,(Below.cell (p:=⟨wu.heap.size,1,none⟩) (by repeat' (first|exact hq|refine Below.drew ?_|refine below_drewN ?_ _|refine Below.alloc ?_ ?_ _|refine Below.setCell ?_ ?_ _|exact hqz|exact Nat.le_refl _|omega|(simp;done)|(simp;omega))) lu).trans yu,(Below.cell (p:=⟨wv.heap.size,0,none⟩) (by repeat' (first|exact hq|refine Below.drew ?_|refine below_drewN ?_ _|refine Below.alloc ?_ ?_ _|refine Below.setCell ?_ ?_ _|exact hqz|exact Nat.le_refl _|omega|(simp;done)|(simp;omega))) lv).trans xv,(Below.cell (p:=⟨wv.heap.size,1,none⟩) (by repeat' (first|exact hq|refine Below.drew ?_|refine below_drewN ?_ _|refine Below.alloc ?_ ?_ _|refine Below.setCell ?_ ?_ _|exact hqz|exact Nat.le_refl _|omega|(simp;done)|(simp;omega))) lv).trans yv⟩|fail)
  (first
    |(go_at_call 17;(with_reducible refine(Q1.out _ _ (by repeat' (first|exact hq|refine Below.drew ?_|refine below_drewN ?_ _|refine Below.alloc ?_ ?_ _|refine Below.setCell ?_ ?_ _|exact hqz|exact Nat.le_refl _|omega|(simp;done)|(simp;omega))) (by first|exact heap_alloc_new _ _|exact new_drew _ _|exact new_past _ _ _|exact new_pastd _ _ _|exact new_pastd2 _ _ _|exact new_pastd3 _ _ _|exact new_on _ _ _|exact new_ond _ _ _|exact new_ond2 _ _ _|exact new_ond3 _ _ _)).mono ?_);rintro e wa ⟨ai,ni,ci,bi,mi,di,rfl,hav,hq,hr⟩;have hqz:=hq.size)
    |(go_at_call 15;(with_reducible refine(Q2.out _ _ _ _ _ _ _ (by repeat' (first|exact hq|refine Below.drew ?_|refine below_drewN ?_ _|refine Below.alloc ?_ ?_ _|refine Below.setCell ?_ ?_ _|exact hqz|exact Nat.le_refl _|omega|(simp;done)|(simp;omega))) (by first|exact hav|exact hav.on (by repeat' (first|exact Below.refl _ _|refine Below.drew ?_|refine below_drewN ?_ _|refine Below.alloc ?_ ?_ _|exact Nat.le_refl _|(simp;done)|(simp;omega))))).mono ?_);rintro e wb ⟨rfl,hq⟩;have hqz:=hq.size)
    |(go_at_call 18;(with_reducible refine(Q3.out _ (by repeat' (first|exact hq|refine Below.drew ?_|refine below_drewN ?_ _|refine Below.alloc ?_ ?_ _|refine Below.setCell ?_ ?_ _|exact hqz|exact Nat.le_refl _|omega|(simp;done)|(simp;omega)))).mono ?_);rintro e wa ⟨ai,ni,ci,bi,mi,di,rfl,hbv,hq,hr⟩;have hqz:=hq.size)
    |(go_at_call 15;(with_reducible refine(Q4.out _ _ _ _ _ _ _ (by repeat' (first|exact hq|refine Below.drew ?_|refine below_drewN ?_ _|refine Below.alloc ?_ ?_ _|refine Below.setCell ?_ ?_ _|exact hqz|exact Nat.le_refl _|omega|(simp;done)|(simp;omega))) (by first|exact hbv|exact hbv.on (by repeat' (first|exact Below.refl _ _|refine Below.drew ?_|refine below_drewN ?_ _|refine Below.alloc ?_ ?_ _|exact Nat.le_refl _|(simp;done)|(simp;omega))))).mono ?_);rintro e wb ⟨rfl,hq⟩;have hqz:=hq.size)
    |fail)
 all_goals
  go_wp2_with fail
  go_ret
  exact⟨rfl,HB.out.trans (Below.mono (by repeat' (first|exact hq|refine Below.drew ?_|refine below_drewN ?_ _|refine Below.alloc ?_ ?_ _|refine Below.setCell ?_ ?_ _|exact hqz|exact Nat.le_refl _|omega|(simp;done)|(simp;omega))) HB.out.size)⟩
end Go.Proofs.YtcfbjdplhgdpfaaGreatDoor

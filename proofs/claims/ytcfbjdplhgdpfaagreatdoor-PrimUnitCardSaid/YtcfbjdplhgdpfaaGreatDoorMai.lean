import Derived.Test.YtcfbjdplhgdpfaaGreatDoorMah
set_option maxHeartbeats 1600000
set_option maxRecDepth 10000
namespace Go.Proofs.YtcfbjdplhgdpfaaGreatDoor
set_option linter.unusedVariables false
set_option linter.unusedSimpArgs false
open Go.RowKit
theorem sgn_abs (x:Int):x.sign*(x.natAbs:Int)=x:=Int.sign_mul_natAbs x
theorem plus_eq {x y:Int} (h:x.sign=y.sign):x.sign*((x.natAbs+y.natAbs:Nat):Int)=x+y:=by
 have h1:=sgn_abs x
 have h2:=sgn_abs y
 rw[←h]at h2
 rw[Int.natCast_add,Int.mul_add,h1,h2]
theorem plus_other {x y:Int} (h:x.sign≠y.sign) (hle:y.natAbs≤x.natAbs):x.sign*((x.natAbs-y.natAbs:Nat):Int)=x+y:=by
 have h1:=sgn_abs x
 have h2:=sgn_abs y
 rw[Int.natCast_sub hle,Int.mul_sub,h1]
 rcases sign_cases x with hx|hx|hx<;>rcases sign_cases y with hy|hy|hy
 · exact absurd (hx.trans hy.symm) h
 · rw[hx];rw[hy]at h2;omega
 · subst hy;simp
 · rw[hx];rw[hy]at h2;omega
 · exact absurd (hx.trans hy.symm) h
 · subst hy;simp
 · subst hx;have:y=0:=by simp at hle;exact hle
   subst this;exact absurd rfl h
 · subst hx;have:y=0:=by simp at hle;exact hle
   subst this;exact absurd rfl h
 · subst hx hy;exact absurd rfl h
theorem made_for (s:Int) {z q:Int} {n:Nat} (hz:s*(n:Int)=z) (hq:z.sign=q) (hs:s=1∨s= -1∨n=0) (hn:n<1000000000^200) (w1:World) (P:Option Addr) (l':List Nat) (c':Nat) (hP:Sz w1 P l') (ok:Ok l') (nm:Norm l') (hvP:val l'=n):
 Calls Tryz.prog 243 #[.int .i64 s,.slice P l'.length c'] w1 (MadeRes z q w1):=
 made_to s P l' c' w1 hP ok nm (cases3 hs fun h=>(norm_val_zero nm).1 (by rw[hvP,h])) (Nat.le_trans (len_of_val nm hvP hn) (by decide)) (by rw[hvP];exact hz) hq
theorem pow_le_100 {n k:Nat} (h:n<1000000000^k) (hk:k≤100):n<1000000000^100:=Nat.lt_of_lt_of_le h (Nat.pow_le_pow_right (by decide) hk)
theorem sum_lt_200 {a b:Nat} (ha:a<1000000000^100) (hb:b<1000000000^100):a+b<1000000000^200:=by
 have:1000000000^100+1000000000^100≤1000000000^200:=by decide
 omega
theorem plus_same (x y:Int) (A B:Option Addr) (l m:List Nat) (c d:Nat) (w:World) (hA:Sz w A l) (hB:Sz w B m) (ol:Ok l) (om:Ok m) (nl:Norm l) (nm:Norm m) (hv:val l=x.natAbs) (hv':val m=y.natAbs) (hl:l.length≤100) (hm:m.length≤100) (hss:x.sign=y.sign):
 Calls Tryz.prog 223 #[.agg #[.int .i64 x.sign,.slice A l.length c],.agg #[.int .i64 y.sign,.slice B m.length d]] w (MadePost (x+y) w):=by
 have hand:=fun w1 hA1 hB1=>and_any A B l m c d w1 hA1 hB1 ol om (by omega) (by omega)
 rw[hv,hv']at hand
 have a1:=val_lt ol
 have a2:=val_lt om
 rw[hv]at a1
 rw[hv']at a2
 have hlen:=sum_lt_200 (pow_le_100 a1 hl) (pow_le_100 a2 hm)
 have hz:=plus_eq hss
 have hs:x.sign=1∨x.sign= -1∨x.natAbs+y.natAbs=0:=by
  rcases sign_cases x with h|h|h
  · exact .inl h
  · exact .inr (.inl h)
  · subst h
    have hy:y=0:=Int.eq_zero_of_sign_eq_zero hss.symm
    subst hy
    exact .inr (.inr rfl)
 obtain⟨q,hq⟩:∃q,q=(x+y).sign:=⟨_,rfl⟩
 have HM:=Lib.hid (made_for x.sign hz hq.symm hs hlen)
 have HQ:=Lib.hid hq
 have H1:=Lib.hid hand
 rw[←hss]
 obtain⟨sx,hsx⟩:∃sx,sx=x.sign:=⟨_,rfl⟩
 rw[←hsx]at HM ⊢
 clear hand a1 a2 hlen hz hs hq hsx hss hv hv'
 go_enter Tryz.func223,Tryz.ntmps223
 go_wp2_with fail
 have hbox:=box3 w (.int .i64 sx) (.slice A l.length c) (.int .i64 sx) (.slice B m.length d) 200
 generalize ((w.alloc (.cells #[.int .i64 sx,.slice A l.length c] 200)).alloc (.cells #[.int .i64 sx,.slice B m.length d] 200)).alloc (.cells #[.int .i64 0,.slice none 0 0] 200)=W3 at hbox ⊢
 have hA3:=hA.below hbox.bel
 have hB3:=hB.below hbox.bel
 have c00:=hbox.c00
 have c01:=hbox.c01
 have c10:=hbox.c10
 have c11:=hbox.c11
 go_region_held3 (fun w'=>w'.cell? ⟨w.heap.size,0,none⟩=some (.int .i64 sx)∧w'.cell? ⟨w.heap.size,1,none⟩=some (.slice A l.length c)∧w'.cell? ⟨w.heap.size+1,0,none⟩=some (.int .i64 sx)∧w'.cell? ⟨w.heap.size+1,1,none⟩=some (.slice B m.length d))
  (first|exact⟨hbox.c00,hbox.c01,hbox.c10,hbox.c11⟩|exact⟨hbox1.c00,hbox1.c01,hbox1.c10,hbox1.c11⟩|exact⟨hbox2.c00,hbox2.c01,hbox2.c10,hbox2.c11⟩|exact hbox2.stored _ _)
  (first
    |(go_at_call 247;refine(H1.out _ (by exact hA3) (by exact hB3)).mono ?_;rintro e w4 ⟨_,rfl,⟨P,l',c',rfl,hP,okP,nmP,hvP⟩,hb4⟩;first|have hbox1:=hbox.below (undrew hb4)|have hbox1:=hbox.below hb4)
    |(go_at_call 243;refine(HM.out _ P l' c' hP okP nmP hvP).mono ?_;rintro e w5 ⟨P5,l5,c5,rfl,hP5,ok5,nm5,hv5,hb5⟩;(first|have hbox2:=hbox1.below (undrew hb5)|have hbox2:=hbox1.below hb5);have q0:=hbox2.q0;have q1:=hbox2.q1;have f0:=hbox2.fr 0;have f1:=hbox2.fr 1))
 obtain⟨r0,r1,hb⟩:=hbox2.res (.int .i64 q) (.slice P5 l5.length c5)
 have hS:=Sz.stored hbox2 hP5 (.int .i64 q) (.slice P5 l5.length c5)
 clear hbox hbox1 hbox2 hb4 hb5
 go_wp2_with fail
 exact bodyPost_ret (v:=.agg #[.int .i64 q,.slice P5 l5.length c5]) (by simp[results,Tryz.results223,go_sem,r0,r1]) rfl ⟨_,rfl,⟨P5,l5,c5,by rw[HQ.out],hS,ok5,nm5,hv5⟩,hb⟩
theorem plus_ge (x y:Int) (A B:Option Addr) (l m:List Nat) (c d:Nat) (w:World) (hA:Sz w A l) (hB:Sz w B m) (ol:Ok l) (om:Ok m) (nl:Norm l) (nm:Norm m) (hv:val l=x.natAbs) (hv':val m=y.natAbs) (hl:l.length≤100) (hm:m.length≤100) (hss:x.sign≠y.sign) (hge:y.natAbs≤x.natAbs):
 Calls Tryz.prog 223 #[.agg #[.int .i64 x.sign,.slice A l.length c],.agg #[.int .i64 y.sign,.slice B m.length d]] w (MadePost (x+y) w):=by
 have hml:m.length≤l.length:=by
  rcases Nat.lt_or_ge l.length m.length with h|h
  · have:=norm_len_lt ol nm h
    omega
  · exact h
 have hless:=fun w1 hA1 hB1=>less_any A B l m c d w1 hA1 hB1 ol om (by omega) hml (by omega)
 have hcmp:=fun(w1:World) hA1 hB1=>compared_any A B l m c d w1 hA1 hB1 ol om nl nm (by unfold maxLen;omega) (by unfold maxLen;omega)
 rw[hv,hv']at hless
 have a1:=val_lt ol
 rw[hv]at a1
 have a1':=pow_le_100 a1 hl
 have hlen:=sum_lt_200 (a:=x.natAbs-y.natAbs) (b:=0) (by omega) (by omega)
 have hz:=plus_other hss hge
 have hs:x.sign=1∨x.sign= -1∨x.natAbs-y.natAbs=0:=by
  rcases sign_cases x with h|h|h
  · exact .inl h
  · exact .inr (.inl h)
  · subst h;exact .inr (.inr (by simp))
 have hcv:¬CmpVal l m<0:=by
  unfold CmpVal cmpN;split
  · omega
  · split<;>omega
 obtain⟨cv,hcv2⟩:∃cv,cv=CmpVal l m:=⟨_,rfl⟩
 rw[←hcv2]at hcv hcmp
 obtain⟨q,hq⟩:∃q,q=(x+y).sign:=⟨_,rfl⟩
 have HM:=Lib.hid (made_for x.sign hz hq.symm hs (by omega))
 have HQ:=Lib.hid hq
 have H1:=Lib.hid hless
 have HC:=Lib.hid hcmp
 obtain⟨sx,hsx⟩:∃sx,sx=x.sign:=⟨_,rfl⟩
 obtain⟨sy,hsy⟩:∃sy,sy=y.sign:=⟨_,rfl⟩
 rw[←hsx]at HM
 rw[←hsx,←hsy]at hss ⊢
 have hse:(sx==sy)=false:=beq_eq_false_iff_ne.2 hss
 clear hless hcmp a1 a1' hlen hz hs hq hsx hsy hss hv hv' hcv2 hge
 go_enter Tryz.func223,Tryz.ntmps223
 go_wp2_with fail
 have hbox:=box3 w (.int .i64 sx) (.slice A l.length c) (.int .i64 sy) (.slice B m.length d) 200
 generalize ((w.alloc (.cells #[.int .i64 sx,.slice A l.length c] 200)).alloc (.cells #[.int .i64 sy,.slice B m.length d] 200)).alloc (.cells #[.int .i64 0,.slice none 0 0] 200)=W3 at hbox ⊢
 refine(HC.out _ (hA.below hbox.bel) (hB.below hbox.bel)).mono ?_
 rintro e W4 ⟨rfl,hD⟩
 have hbox0:=hbox.below hD.below
 clear hbox hD
 have hbox:=hbox0
 clear hbox0
 have hA3:=hA.below hbox.bel
 have hB3:=hB.below hbox.bel
 have c00:=hbox.c00
 have c01:=hbox.c01
 have c10:=hbox.c10
 have c11:=hbox.c11
 go_wp2_with fail
 go_region_held3 (fun w'=>w'.cell? ⟨w.heap.size,0,none⟩=some (.int .i64 sx)∧w'.cell? ⟨w.heap.size,1,none⟩=some (.slice A l.length c)∧w'.cell? ⟨w.heap.size+1,0,none⟩=some (.int .i64 sy)∧w'.cell? ⟨w.heap.size+1,1,none⟩=some (.slice B m.length d))
  (first|exact⟨hbox.c00,hbox.c01,hbox.c10,hbox.c11⟩|exact⟨hbox1.c00,hbox1.c01,hbox1.c10,hbox1.c11⟩|exact⟨hbox2.c00,hbox2.c01,hbox2.c10,hbox2.c11⟩|exact hbox2.stored _ _)
  (first
    |(go_at_call 249;refine(H1.out _ (by exact hA3) (by exact hB3)).mono ?_;rintro e w4 ⟨_,rfl,⟨P,l',c',rfl,hP,okP,nmP,hvP⟩,hb4⟩;first|have hbox1:=hbox.below (undrew hb4)|have hbox1:=hbox.below hb4)
    |(go_at_call 243;refine(HM.out _ P l' c' hP okP nmP hvP).mono ?_;rintro e w5 ⟨P5,l5,c5,rfl,hP5,ok5,nm5,hv5,hb5⟩;(first|have hbox2:=hbox1.below (undrew hb5)|have hbox2:=hbox1.below hb5);have q0:=hbox2.q0;have q1:=hbox2.q1;have f0:=hbox2.fr 0;have f1:=hbox2.fr 1))
 obtain⟨r0,r1,hb⟩:=hbox2.res (.int .i64 q) (.slice P5 l5.length c5)
 have hS:=Sz.stored hbox2 hP5 (.int .i64 q) (.slice P5 l5.length c5)
 clear hbox hbox1 hbox2 hb4 hb5
 go_wp2_with fail
 exact bodyPost_ret (v:=.agg #[.int .i64 q,.slice P5 l5.length c5]) (by simp[results,Tryz.results223,go_sem,r0,r1]) rfl ⟨_,rfl,⟨P5,l5,c5,by rw[HQ.out],hS,ok5,nm5,hv5⟩,hb⟩
end Go.Proofs.YtcfbjdplhgdpfaaGreatDoor
namespace Go.Proofs.YtcfbjdplhgdpfaaGreatDoor
set_option linter.unusedVariables false
set_option linter.unusedSimpArgs false
open Go.RowKit
theorem set_same {w:World} {g i:Nat} {u v:Value} (h:w.cell? ⟨g,i,none⟩=some u):(w.setCell ⟨g,i,none⟩ v).cell? ⟨g,i,none⟩=some v:=World.cell?_setCell_same _ _ _ h
theorem set_else {w:World} {g i g' i':Nat} {u v:Value} (h:w.cell? ⟨g',i',none⟩=some u) (hne:g≠g'∨i≠i'):(w.setCell ⟨g,i,none⟩ v).cell? ⟨g',i',none⟩=some u:=by
 rw[World.cell?_setCell_other _ _ _ _ (by intro e;injection e with e1 e2;exact hne.elim (fun h=>h e1) (fun h=>h e2)),h]
theorem Box3.swap {w W:World} {a0 a1 b0 b1:Value} (h:Box3 w W a0 a1 b0 b1):
 Box3 w ((((W.setCell ⟨w.heap.size,0,none⟩ b0).setCell ⟨w.heap.size,1,none⟩ b1).setCell ⟨w.heap.size+1,0,none⟩ a0).setCell ⟨w.heap.size+1,1,none⟩ a1) b0 b1 a0 a1:=by
 have o:∀{g i g' i':Nat},(g≠g'∨i≠i')→(g≠g'∨i≠i'):=fun h=>h
 refine⟨?_,?_,?_,?_,?_,?_,fun i=>by simp only[World.frozen?_setCell];exact h.fa i,fun i=>by simp only[World.frozen?_setCell];exact h.fb i,fun i=>by simp only[World.frozen?_setCell];exact h.fr i,by simpa[World.setCell]using h.size,fun i n=> ?_,?_⟩
 · exact set_else (set_else (set_else (set_same h.c00) (by omega)) (by omega)) (by omega)
 · exact set_else (set_else (set_same (set_else h.c01 (by omega))) (by omega)) (by omega)
 · exact set_else (set_same (set_else (set_else h.c10 (by omega)) (by omega))) (by omega)
 · exact set_same (set_else (set_else (set_else h.c11 (by omega)) (by omega)) (by omega))
 · exact set_else (set_else (set_else (set_else h.q0 (by omega)) (by omega)) (by omega)) (by omega)
 · exact set_else (set_else (set_else (set_else h.q1 (by omega)) (by omega)) (by omega)) (by omega)
 · rw[World.cell?_setCell_other _ _ _ _ (by intro e;injection e with e1;omega),World.cell?_setCell_other _ _ _ _ (by intro e;injection e with e1;omega),World.cell?_setCell_other _ _ _ _ (by intro e;injection e with e1;omega),World.cell?_setCell_other _ _ _ _ (by intro e;injection e with e1;omega)]
   exact h.far i n
 · exact(((h.bel.setCell (Nat.le_refl _) _).setCell (Nat.le_refl _) _).setCell (by show w.heap.size≤w.heap.size+1;omega) _).setCell (by show w.heap.size≤w.heap.size+1;omega) _
theorem plus_lt (x y:Int) (A B:Option Addr) (l m:List Nat) (c d:Nat) (w:World) (hA:Sz w A l) (hB:Sz w B m) (ol:Ok l) (om:Ok m) (nl:Norm l) (nm:Norm m) (hv:val l=x.natAbs) (hv':val m=y.natAbs) (hl:l.length≤100) (hm:m.length≤100) (hss:x.sign≠y.sign) (hge:x.natAbs<y.natAbs):
 Calls Tryz.prog 223 #[.agg #[.int .i64 x.sign,.slice A l.length c],.agg #[.int .i64 y.sign,.slice B m.length d]] w (MadePost (x+y) w):=by
 have hml:l.length≤m.length:=by
  rcases Nat.lt_or_ge m.length l.length with h|h
  · have:=norm_len_lt om nl h
    omega
  · exact h
 have hless:=fun w1 hA1 hB1=>less_any B A m l d c w1 hB1 hA1 om ol (by omega) hml (by omega)
 have hcmp:=fun(w1:World) hA1 hB1=>compared_any A B l m c d w1 hA1 hB1 ol om nl nm (by unfold maxLen;omega) (by unfold maxLen;omega)
 rw[hv,hv']at hless
 have a1:=val_lt om
 rw[hv']at a1
 have a1':=pow_le_100 a1 hm
 have hlen:=sum_lt_200 (a:=y.natAbs-x.natAbs) (b:=0) (by omega) (by omega)
 have hz:=plus_other (Ne.symm hss) (Nat.le_of_lt hge)
 rw[Int.add_comm y x]at hz
 have hs:y.sign=1∨y.sign= -1∨y.natAbs-x.natAbs=0:=by
  rcases sign_cases y with h|h|h
  · exact .inl h
  · exact .inr (.inl h)
  · subst h;exact .inr (.inr (by simp))
 have hcv:CmpVal l m<0:=by
  rw[CmpVal,cmpN_lt (by omega)];decide
 obtain⟨cv,hcv2⟩:∃cv,cv=CmpVal l m:=⟨_,rfl⟩
 rw[←hcv2]at hcv hcmp
 obtain⟨q,hq⟩:∃q,q=(x+y).sign:=⟨_,rfl⟩
 have HM:=Lib.hid (made_for y.sign hz hq.symm hs (by omega))
 have HQ:=Lib.hid hq
 have H1:=Lib.hid hless
 have HC:=Lib.hid hcmp
 obtain⟨sx,hsx⟩:∃sx,sx=x.sign:=⟨_,rfl⟩
 obtain⟨sy,hsy⟩:∃sy,sy=y.sign:=⟨_,rfl⟩
 rw[←hsy]at HM
 rw[←hsx,←hsy]at hss ⊢
 have hse:(sx==sy)=false:=beq_eq_false_iff_ne.2 hss
 clear hless hcmp a1 a1' hlen hz hs hq hsx hsy hss hv hv' hcv2 hge
 go_enter Tryz.func223,Tryz.ntmps223
 go_wp2_with fail
 have hbox:=box3 w (.int .i64 sx) (.slice A l.length c) (.int .i64 sy) (.slice B m.length d) 200
 generalize ((w.alloc (.cells #[.int .i64 sx,.slice A l.length c] 200)).alloc (.cells #[.int .i64 sy,.slice B m.length d] 200)).alloc (.cells #[.int .i64 0,.slice none 0 0] 200)=W3 at hbox ⊢
 refine(HC.out _ (hA.below hbox.bel) (hB.below hbox.bel)).mono ?_
 rintro e W4 ⟨rfl,hD⟩
 have hbox0:=hbox.below hD.below
 clear hbox hD
 have hbox:=hbox0
 clear hbox0
 have c00:=hbox.c00
 have c01:=hbox.c01
 have c10:=hbox.c10
 have c11:=hbox.c11
 have fa0:=hbox.fa 0
 have fa1:=hbox.fa 1
 have fb0:=hbox.fb 0
 have fb1:=hbox.fb 1
 go_wp2_with fail
 have hbox0:=hbox.swap
 generalize ((((W4.setCell ⟨w.heap.size,0,none⟩ (.int .i64 sy)).setCell ⟨w.heap.size,1,none⟩ (.slice B m.length d)).setCell ⟨w.heap.size+1,0,none⟩ (.int .i64 sx)).setCell ⟨w.heap.size+1,1,none⟩ (.slice A l.length c))=W5 at hbox0 ⊢
 clear hbox c00 c01 c10 c11 fa0 fa1 fb0 fb1
 have hbox:=hbox0
 clear hbox0
 have hA3:=hA.below hbox.bel
 have hB3:=hB.below hbox.bel
 have c00:=hbox.c00
 have c01:=hbox.c01
 have c10:=hbox.c10
 have c11:=hbox.c11
 go_region_held3 (fun w'=>w'.cell? ⟨w.heap.size,0,none⟩=some (.int .i64 sy)∧w'.cell? ⟨w.heap.size,1,none⟩=some (.slice B m.length d)∧w'.cell? ⟨w.heap.size+1,0,none⟩=some (.int .i64 sx)∧w'.cell? ⟨w.heap.size+1,1,none⟩=some (.slice A l.length c))
  (first|exact⟨hbox.c00,hbox.c01,hbox.c10,hbox.c11⟩|exact⟨hbox1.c00,hbox1.c01,hbox1.c10,hbox1.c11⟩|exact⟨hbox2.c00,hbox2.c01,hbox2.c10,hbox2.c11⟩|exact hbox2.stored _ _)
  (first
    |(go_at_call 249;refine(H1.out _ (by exact hA3) (by exact hB3)).mono ?_;rintro e w4 ⟨_,rfl,⟨P,l',c',rfl,hP,okP,nmP,hvP⟩,hb4⟩;first|have hbox1:=hbox.below (undrew hb4)|have hbox1:=hbox.below hb4)
    |(go_at_call 243;refine(HM.out _ P l' c' hP okP nmP hvP).mono ?_;rintro e w5 ⟨P5,l5,c5,rfl,hP5,ok5,nm5,hv5,hb5⟩;(first|have hbox2:=hbox1.below (undrew hb5)|have hbox2:=hbox1.below hb5);have q0:=hbox2.q0;have q1:=hbox2.q1;have f0:=hbox2.fr 0;have f1:=hbox2.fr 1))
 obtain⟨r0,r1,hb⟩:=hbox2.res (.int .i64 q) (.slice P5 l5.length c5)
 have hS:=Sz.stored hbox2 hP5 (.int .i64 q) (.slice P5 l5.length c5)
 clear hbox hbox1 hbox2 hb4 hb5
 go_wp2_with fail
 exact bodyPost_ret (v:=.agg #[.int .i64 q,.slice P5 l5.length c5]) (by simp[results,Tryz.results223,go_sem,r0,r1]) rfl ⟨_,rfl,⟨P5,l5,c5,by rw[HQ.out],hS,ok5,nm5,hv5⟩,hb⟩
theorem plus_any (x y:Int) (A B:Option Addr) (l m:List Nat) (c d:Nat) (w:World) (hA:Sz w A l) (hB:Sz w B m) (ol:Ok l) (om:Ok m) (nl:Norm l) (nm:Norm m) (hv:val l=x.natAbs) (hv':val m=y.natAbs) (hl:l.length≤100) (hm:m.length≤100):
 Calls Tryz.prog 223 #[.agg #[.int .i64 x.sign,.slice A l.length c],.agg #[.int .i64 y.sign,.slice B m.length d]] w (MadePost (x+y) w):=by
 by_cases hss:x.sign=y.sign
 · exact plus_same x y A B l m c d w hA hB ol om nl nm hv hv' hl hm hss
 · by_cases hge:y.natAbs≤x.natAbs
   · exact plus_ge x y A B l m c d w hA hB ol om nl nm hv hv' hl hm hss hge
   · exact plus_lt x y A B l m c d w hA hB ol om nl nm hv hv' hl hm hss (by omega)
end Go.Proofs.YtcfbjdplhgdpfaaGreatDoor
namespace Go.Proofs.YtcfbjdplhgdpfaaGreatDoor
set_option linter.unusedVariables false
set_option linter.unusedSimpArgs false
open Go.RowKit
def fq (x y:Int):Int:=if 0<y then x/y else(-x)/(-y)
def fr (x y:Int):Int:=x-y*fq x y
theorem fr_bd {x y:Int} (hy:y≠0):(0<y→0≤fr x y∧fr x y<y)∧(y<0→fr x y≤0∧y<fr x y):=by
 unfold fr fq
 constructor
 · intro h
   rw[if_pos h]
   have h1:=Int.emod_nonneg x hy
   have h2:=Int.emod_lt_of_pos x h
   have h3:=Int.mul_ediv_add_emod x y
   omega
 · intro h
   rw[if_neg (by omega)]
   have h1:=Int.emod_nonneg (-x) (show-y≠0 by omega)
   have h2:=Int.emod_lt_of_pos (-x) (show 0< -y by omega)
   have h3:=Int.mul_ediv_add_emod (-x) (-y)
   rw[Int.neg_mul]at h3
   omega
theorem fq_unique {x y q r:Int} (hy:y≠0) (h:x=y*q+r) (hp:0<y→0≤r∧r<y) (hn:y<0→r≤0∧y<r):fq x y=q∧fr x y=r:=by
 have e:fq x y=q:=by
  unfold fq
  rcases Int.lt_trichotomy y 0 with h0|h0|h0
  · rw[if_neg (by omega)]
    obtain⟨a,b⟩:=hn h0
    have:=(Int.ediv_emod_unique (a:= -x) (b:= -y) (r:= -r) (q:=q) (by omega)).2 ⟨by rw[h,Int.neg_mul];omega,by omega,by omega⟩
    exact this.1
  · exact absurd h0 hy
  · rw[if_pos h0]
    obtain⟨a,b⟩:=hp h0
    exact((Int.ediv_emod_unique (a:=x) (b:=y) (r:=r) (q:=q) h0).2 ⟨by omega,a,b⟩).1
 exact⟨e,by unfold fr;rw[e];omega⟩
theorem div_parts (x y:Int) (hy:y≠0):x=y*(x.sign*y.sign*((x.natAbs/y.natAbs:Nat):Int))+x.sign*((x.natAbs%y.natAbs:Nat):Int):=by
 have h1:=sgn_abs x
 have h2:=sgn_abs y
 have h3:=Nat.div_add_mod x.natAbs y.natAbs
 have hss:y.sign*y.sign=1:=by
  rcases sign_cases y with h|h|h
  · rw[h];rfl
  · rw[h];rfl
  · exact absurd h hy
 have e:y*(x.sign*y.sign*((x.natAbs/y.natAbs:Nat):Int))=x.sign*((y.natAbs*(x.natAbs/y.natAbs):Nat):Int):=by
  rw[←h2,Int.natCast_mul]
  rw[h2]
  have:y.sign*(y.natAbs:Int)*(x.sign*y.sign*((x.natAbs/y.natAbs:Nat):Int))=(y.sign*y.sign)*(x.sign*((y.natAbs:Int)*((x.natAbs/y.natAbs:Nat):Int))):=by ac_rfl
  rw[h2]at this
  rw[this,hss,Int.one_mul]
 rw[e,←Int.mul_add,←Int.natCast_add,h3,h1]
theorem mod_lt_abs (x y:Int) (hy:y≠0):x.natAbs%y.natAbs<y.natAbs:=Nat.mod_lt _ (by omega)
theorem div_exact {x y:Int} (hy:y≠0) (h:x.sign*((x.natAbs%y.natAbs:Nat):Int)=0∨(x.sign*((x.natAbs%y.natAbs:Nat):Int)).sign=y.sign):
 fq x y=x.sign*y.sign*((x.natAbs/y.natAbs:Nat):Int)∧fr x y=x.sign*((x.natAbs%y.natAbs:Nat):Int):=by
 have h1:=div_parts x y hy
 have h2:=mod_lt_abs x y hy
 generalize x.natAbs%y.natAbs=r at h h1 h2 ⊢
 refine fq_unique hy h1 (fun hp=> ?_) (fun hn=> ?_)
 · rcases sign_cases x with hx|hx|hx
   · rw[hx]at h ⊢;omega
   · rw[hx]at h ⊢
     rcases h with h|h
     · omega
     · rw[Int.sign_eq_one_of_pos hp]at h
       have:=Int.pos_of_sign_eq_one h
       omega
   · subst hx;simp;omega
 · rcases sign_cases x with hx|hx|hx
   · rw[hx]at h ⊢
     rcases h with h|h
     · omega
     · rw[Int.sign_eq_neg_one_of_neg hn]at h
       have:=Int.neg_of_sign_eq_neg_one h
       omega
   · rw[hx]at h ⊢;omega
   · subst hx;simp;omega
theorem div_less {x y:Int} (hy:y≠0) (h0:x.sign*((x.natAbs%y.natAbs:Nat):Int)≠0) (h:(x.sign*((x.natAbs%y.natAbs:Nat):Int)).sign≠y.sign):
 fq x y=x.sign*y.sign*((x.natAbs/y.natAbs:Nat):Int)+ -1∧fr x y=x.sign*((x.natAbs%y.natAbs:Nat):Int)+y:=by
 have h1:=div_parts x y hy
 have h2:=mod_lt_abs x y hy
 generalize x.sign*y.sign*((x.natAbs/y.natAbs:Nat):Int)=q at h1 ⊢
 generalize x.natAbs%y.natAbs=r at h h0 h1 h2 ⊢
 refine fq_unique hy (by rw[Int.mul_add];omega) (fun hp=> ?_) (fun hn=> ?_)
 · rcases sign_cases x with hx|hx|hx
   · exfalso
     rw[hx]at h h0
     exact h (by rw[Int.sign_eq_one_of_pos hp];exact Int.sign_eq_one_of_pos (by omega))
   · rw[hx]at h0 ⊢;omega
   · subst hx;simp at h0
 · rcases sign_cases x with hx|hx|hx
   · rw[hx]at h0 ⊢;omega
   · exfalso
     rw[hx]at h h0
     exact h (by rw[Int.sign_eq_neg_one_of_neg hn];exact Int.sign_eq_neg_one_of_neg (by omega))
   · subst hx;simp at h0
end Go.Proofs.YtcfbjdplhgdpfaaGreatDoor
namespace Go.Proofs.YtcfbjdplhgdpfaaGreatDoor
set_option linter.unusedVariables false
set_option linter.unusedSimpArgs false
open Go.RowKit
def Nb (W:World) (g:Nat) (s:Int) (P:Option Addr) (n c:Nat):Prop:=W.heap[g]?=some (.cells #[.int .i64 s,.slice P n c] 200 (0,0))
section
variable {W W':World} {g:Nat} {s:Int} {P:Option Addr} {n c:Nat}
theorem Nb.lt (h:Nb W g s P n c):g<W.heap.size:=(Array.getElem?_eq_some_iff.1 h).1
theorem Nb.c0 (h:Nb W g s P n c):W.cell? ⟨g,0,none⟩=some (.int .i64 s):=by rw[cell_of_row _ _ 0 _ _ _ h];rfl
theorem Nb.c1 (h:Nb W g s P n c):W.cell? ⟨g,1,none⟩=some (.slice P n c):=by rw[cell_of_row _ _ 1 _ _ _ h];rfl
theorem Nb.f (h:Nb W g s P n c) (i:Nat):W.frozen? ⟨g,i,none⟩=false:=frozen_of_row _ _ i _ _ h
theorem Nb.far (h:Nb W g s P n c) (i:Nat) (k:Int):W.cell? ⟨g,i,none⟩≠some (.int .u32 k):=by
 rw[cell_of_row _ _ i _ _ _ h]
 rcases i with _|_|i<;>simp
theorem Nb.below (h:Nb W g s P n c) {B:Nat} (hb:Below B W W') (hg:g<B):Nb W' g s P n c:=(hb.block g hg).trans h
theorem Nb.only (h:Nb W g s P n c) {g':Nat} (hb:Only g' W W') (hg:g≠g'):Nb W' g s P n c:=(hb.block g h.lt (by intro e;injection e with e;exact hg e)).trans h
theorem Nb.alloc (h:Nb W g s P n c) (o:Obj):Nb (W.alloc o) g s P n c:=(Below.heap_alloc W o g h.lt).trans h
theorem Nb.new (W:World) (s:Int) (P:Option Addr) (n c:Nat):Nb (W.alloc (.cells #[.int .i64 s,.slice P n c] 200)) W.heap.size s P n c:=heap_alloc_new W _
theorem Nb.set (h:Nb W g s P n c) (s':Int) (P':Option Addr) (n' c':Nat):Nb ((W.setCell ⟨g,0,none⟩ (.int .i64 s')).setCell ⟨g,1,none⟩ (.slice P' n' c')) g s' P' n' c':=by
 unfold Nb at*
 simp[World.setCell,Array.getElem?_modify,h]
end
theorem Only.two (g:Nat) (W:World) (u v:Value):Only g W ((W.setCell ⟨g,0,none⟩ u).setCell ⟨g,1,none⟩ v):=((Only.refl g W).setCell 0 u).setCell 1 v
structure B4 (w W:World) (s0:Int) (P0:Option Addr) (n0 c0:Nat) (s1:Int) (P1:Option Addr) (n1 c1:Nat) (s2:Int) (P2:Option Addr) (n2 c2:Nat) (s3:Int) (P3:Option Addr) (n3 c3:Nat):Prop where
 a:Nb W w.heap.size s0 P0 n0 c0
 b:Nb W (w.heap.size+1) s1 P1 n1 c1
 r:Nb W (w.heap.size+1+1) s2 P2 n2 c2
 t:Nb W (w.heap.size+1+1+1) s3 P3 n3 c3
 bel:Below w.heap.size w W
section
variable {w W W':World} {s0 s1 s2 s3:Int} {P0 P1 P2 P3:Option Addr} {n0 n1 n2 n3 c0 c1 c2 c3:Nat}
theorem b4_new (w:World) (s0:Int) (P0:Option Addr) (n0 c0:Nat) (s1:Int) (P1:Option Addr) (n1 c1:Nat):
 B4 w ((((w.alloc (.cells #[.int .i64 s0,.slice P0 n0 c0] 200)).alloc (.cells #[.int .i64 s1,.slice P1 n1 c1] 200)).alloc (.cells #[.int .i64 0,.slice none 0 0] 200)).alloc (.cells #[.int .i64 0,.slice none 0 0] 200))
  s0 P0 n0 c0 s1 P1 n1 c1 0 none 0 0 0 none 0 0:=by
 have h1:=Nb.new w s0 P0 n0 c0
 have h2:=Nb.new (w.alloc (.cells #[.int .i64 s0,.slice P0 n0 c0] 200)) s1 P1 n1 c1
 have h3:=Nb.new ((w.alloc (.cells #[.int .i64 s0,.slice P0 n0 c0] 200)).alloc (.cells #[.int .i64 s1,.slice P1 n1 c1] 200)) 0 none 0 0
 have h4:=Nb.new (((w.alloc (.cells #[.int .i64 s0,.slice P0 n0 c0] 200)).alloc (.cells #[.int .i64 s1,.slice P1 n1 c1] 200)).alloc (.cells #[.int .i64 0,.slice none 0 0] 200)) 0 none 0 0
 rw[show(w.alloc (.cells #[.int .i64 s0,.slice P0 n0 c0] 200)).heap.size=w.heap.size+1 by simp]at h2
 rw[show((w.alloc (.cells #[.int .i64 s0,.slice P0 n0 c0] 200)).alloc (.cells #[.int .i64 s1,.slice P1 n1 c1] 200)).heap.size=w.heap.size+1+1 by simp]at h3
 rw[show(((w.alloc (.cells #[.int .i64 s0,.slice P0 n0 c0] 200)).alloc (.cells #[.int .i64 s1,.slice P1 n1 c1] 200)).alloc (.cells #[.int .i64 0,.slice none 0 0] 200)).heap.size=w.heap.size+1+1+1 by simp]at h4
 exact⟨((h1.alloc _).alloc _).alloc _,(h2.alloc _).alloc _,h3.alloc _,h4,(((Below.refl _ _).alloc (Nat.le_refl _) _).alloc (by simp) _ |>.alloc (by simp;omega) _).alloc (by simp;omega) _⟩
theorem B4.below (h:B4 w W s0 P0 n0 c0 s1 P1 n1 c1 s2 P2 n2 c2 s3 P3 n3 c3) (hb:Below W.heap.size W W'):B4 w W' s0 P0 n0 c0 s1 P1 n1 c1 s2 P2 n2 c2 s3 P3 n3 c3:=
 ⟨h.a.below hb h.a.lt,h.b.below hb h.b.lt,h.r.below hb h.r.lt,h.t.below hb h.t.lt,h.bel.trans (hb.mono (by have:=h.a.lt;omega))⟩
theorem B4.set_r (h:B4 w W s0 P0 n0 c0 s1 P1 n1 c1 s2 P2 n2 c2 s3 P3 n3 c3) (s:Int) (P:Option Addr) (n c:Nat):
 B4 w ((W.setCell ⟨w.heap.size+1+1,0,none⟩ (.int .i64 s)).setCell ⟨w.heap.size+1+1,1,none⟩ (.slice P n c)) s0 P0 n0 c0 s1 P1 n1 c1 s P n c s3 P3 n3 c3:=
 ⟨h.a.only (Only.two _ _ _ _) (by omega),h.b.only (Only.two _ _ _ _) (by omega),h.r.set _ _ _ _,h.t.only (Only.two _ _ _ _) (by omega),h.bel.trans ((Only.two _ _ _ _).to_below (by omega) (by have:=h.a.lt;omega))⟩
theorem B4.set_t (h:B4 w W s0 P0 n0 c0 s1 P1 n1 c1 s2 P2 n2 c2 s3 P3 n3 c3) (s:Int) (P:Option Addr) (n c:Nat):
 B4 w ((W.setCell ⟨w.heap.size+1+1+1,0,none⟩ (.int .i64 s)).setCell ⟨w.heap.size+1+1+1,1,none⟩ (.slice P n c)) s0 P0 n0 c0 s1 P1 n1 c1 s2 P2 n2 c2 s P n c:=
 ⟨h.a.only (Only.two _ _ _ _) (by omega),h.b.only (Only.two _ _ _ _) (by omega),h.r.only (Only.two _ _ _ _) (by omega),h.t.set _ _ _ _,h.bel.trans ((Only.two _ _ _ _).to_below (by omega) (by have:=h.a.lt;omega))⟩
end
end Go.Proofs.YtcfbjdplhgdpfaaGreatDoor

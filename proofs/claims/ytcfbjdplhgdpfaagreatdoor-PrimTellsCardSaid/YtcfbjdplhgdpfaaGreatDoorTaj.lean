import Derived.Test.YtcfbjdplhgdpfaaGreatDoorTai
import Derived.Deep.DeepCutAuto
set_option maxHeartbeats 16000000
set_option maxRecDepth 10000
namespace Go.Proofs.YtcfbjdplhgdpfaaGreatDoor
set_option linter.unusedVariables false
set_option linter.unusedSimpArgs false
abbrev xP2:=@Int.natAbs_natCast
abbrev xO2:=@Int.natAbs_neg
abbrev yJ2:=@Int.neg_one_mul
abbrev yT1:=@Nat.lt_of_le_of_lt
open Go.RowKit
theorem zVk (x y:Int) (A B:Option Addr) (l m:List Nat) (c d:Nat) {z sx sy q:Int} (ol:Ok l) (om:Ok m) (nl:yJa l) (nm:yJa m) (hv:val l=x.natAbs) (hv':val m=y.natAbs) (hl:l.length≤100) (hm:m.length≤100) (hz:x+y=z) (hx:sx=x.sign) (hy:sy=y.sign) (hq:q=z.sign) (w:World) (hA:Sz w A l) (hB:Sz w B m):
 Calls Tryz.prog 223 #[.agg #[.int .i64 sx,.slice A l.length c],.agg #[.int .i64 sy,.slice B m.length d]] w (yZf z q w):=by
 subst hz hx hy hq;refine(xNf x y A B l m c d w hA hB ol om nl nm hv hv' hl hm).mono ?_;rintro e w' ⟨v,rfl,⟨P,l',c',rfl,h1,h2,h3,h4⟩,hb⟩;exact⟨P,l',c',rfl,h1,h2,h3,h4,hb⟩
def zWk (W:World) (P:Option Addr) (l:List Nat) (z:Int):Prop:=Sz W P l∧Ok l∧yJa l∧val l=z.natAbs
def DvCut (w:World) (sx:Int) (A:Option Addr) (ln c:Nat) (sy:Int) (B:Option Addr) (mn d:Nat) (q3 q4 X3 X4:Int) (wx:World):Prop:=
 ∃P9 l9 c9 P10 l10 c10,B4 w wx sx A ln c sy B mn d q3 P9 (List.length l9) c9 q4 P10 (List.length l10) c10∧zWk wx P9 l9 X3∧zWk wx P10 l10 X4
theorem DvCut.mk {w w10:World} {sx:Int} {A:Option Addr} {ln c:Nat} {sy:Int} {B:Option Addr} {mn d:Nat} {q3 q4 X3 X4:Int} {q1 q2:Int} {P5 P6:Option Addr} {n5 n6 c5 c6:Nat} (h:B4 w w10 sx A ln c sy B mn d q1 P5 n5 c5 q2 P6 n6 c6)
 {P9 P10:Option Addr} {l9 l10:List Nat} {c9 c10:Nat} (h9:zWk w10 P9 l9 X3) (h10:zWk w10 P10 l10 X4):
 DvCut w sx A ln c sy B mn d q3 q4 X3 X4 ((((w10.setCell ⟨w.heap.size+1+1,0,none⟩ (.int .i64 q3)).setCell ⟨w.heap.size+1+1,1,none⟩ (.slice P9 l9.length c9)).setCell ⟨w.heap.size+1+1+1,0,none⟩ (.int .i64 q4)).setCell ⟨w.heap.size+1+1+1,1,none⟩ (.slice P10 l10.length c10)):=
 ⟨P9,l9,c9,P10,l10,c10,(h.set_r q3 P9 l9.length c9).set_t q4 P10 l10.length c10,
   ⟨(h9.1.far h.r.far (Only.two _ _ (.int .i64 q3) (.slice P9 l9.length c9))).far (h.set_r q3 P9 l9.length c9).t.far (Only.two _ _ (.int .i64 q4) (.slice P10 l10.length c10)),h9.2⟩,
   ⟨(h10.1.far h.r.far (Only.two _ _ (.int .i64 q3) (.slice P9 l9.length c9))).far (h.set_r q3 P9 l9.length c9).t.far (Only.two _ _ (.int .i64 q4) (.slice P10 l10.length c10)),h10.2⟩⟩
theorem zXk (x y:Int) (A B:Option Addr) (l m:List Nat) (c d:Nat) (w:World) (hA:Sz w A l) (hB:Sz w B m) (ol:Ok l) (om:Ok m) (nl:yJa l) (nm:yJa m) (hv:val l=x.natAbs) (hv':val m=y.natAbs) (hl:l.length≤50) (hm:m.length≤50) (hy:y≠0)
 (hc0:x.sign*((x.natAbs%y.natAbs:Nat):Int)≠0) (hc1:(x.sign*((x.natAbs%y.natAbs:Nat):Int)).sign≠y.sign):
 Calls Tryz.prog 230 #[.agg #[.int .i64 x.sign,.slice A l.length c],.agg #[.int .i64 y.sign,.slice B m.length d]] w (zCe x y w):=by
 have hcut:=fun(w1:World) hA1 hB1=>xCb A B l m c d w1 hA1 hB1 ol om nl nm yEn yEn (by rintro rfl;rw[yKa]at hv';omega);rw[hv,hv']at hcut;have a1:=yVa ol;rw[hv]at a1;have a2:=xGf a1 yEn;have a3:=xHf (b:=0) a2 yEn;have hq:=Nat.div_le_self x.natAbs y.natAbs;have hr:=Nat.mod_le x.natAbs y.natAbs;obtain⟨e1,e2⟩:=xTf hy hc0 hc1;obtain⟨X1,hX1⟩:∃z,z=x.sign*y.sign*((x.natAbs/y.natAbs:Nat):Int):=⟨_,rfl⟩
 obtain⟨X2,hX2⟩:∃z,z=x.sign*((x.natAbs%y.natAbs:Nat):Int):=⟨_,rfl⟩
 rw[←hX1]at e1;rw[←hX2]at e2 hc0 hc1;have s1:IntKind.i64.wrap (x.sign*y.sign)=1∨IntKind.i64.wrap (x.sign*y.sign)= -1∨x.natAbs/y.natAbs=0:=by
  rw[zDe];exact yWf (zEe x y) fun h=>h.elim (fun h=>by rw[h];simp) (fun h=>absurd h hy)
 have s2:x.sign=1∨x.sign= -1∨x.natAbs%y.natAbs=0:=yWf (yUf x) fun h=>by rw[h];simp
 obtain⟨q1,hq1⟩:∃q,q=X1.sign:=⟨_,rfl⟩
 obtain⟨q2,hq2⟩:∃q,q=X2.sign:=⟨_,rfl⟩
 have HM1:=zC (xFf (IntKind.i64.wrap (x.sign*y.sign)) (z:=X1) (q:=q1) (n:=x.natAbs/y.natAbs) (by rw[zDe];exact hX1.symm) hq1.symm s1 yEn);have HM2:=zC (xFf x.sign (z:=X2) (q:=q2) (n:=x.natAbs%y.natAbs) hX2.symm hq2.symm s2 yEn);have h0:q2≠0:=by rw[hq2];exact fun h=>hc0 (xB2 h)
 have h1:q2≠y.sign:=by rw[hq2];exact hc1
 have HQ:=zC (And.intro hq1 hq2);have HE:=zC (And.intro e1 e2);have n1:X1.natAbs≤x.natAbs:=by
  rw[hX1];rcases zEe x y with h|h|h|h
  · rw[h,zF2,xP2];exact hq
  · rw[h,yJ2,xO2,xP2];exact hq
  · rw[h];simp
  · exact absurd h hy
 have n2:X2.natAbs≤x.natAbs:=by
  rw[hX2];rcases yUf x with h|h|h
  · rw[h,zF2,xP2];exact hr
  · rw[h,yJ2,xO2,xP2];exact hr
  · rw[h];simp
 have HN:=zC (And.intro n1 n2);have HV:=zC (And.intro a2 hv');have H1:=zC hcut;obtain⟨sx,hsx⟩:∃sx,sx=x.sign:=⟨_,rfl⟩
 obtain⟨sy,hsy⟩:∃sy,sy=y.sign:=⟨_,rfl⟩
 rw[←hsy]at h1;have HSY:=zC hsy;rw[←hsx,←hsy]at HM1 ⊢;rw[←hsx]at HM2;obtain⟨p,hp⟩:∃p,IntKind.i64.wrap (sx*sy)=p:=⟨_,rfl⟩
 rw[hp]at HM1;clear hcut a1 a2 a3 hq hr e1 e2 s1 s2 hq1 hq2 hsx hsy hv hv' hc0 hc1 hX1 hX2 n1 n2;go_in;go_wp2_with fail;have hbox:=xUf w sx A l.length c sy B m.length d;generalize ((((w.alloc (.cells #[.int .i64 sx,.slice A l.length c] 200)).alloc (.cells #[.int .i64 sy,.slice B m.length d] 200)).alloc (.cells #[.int .i64 0,.slice none 0 0] 200)).alloc (.cells #[.int .i64 0,.slice none 0 0] 200))=W3 at hbox ⊢;refine(H1.out _ (hA.below hbox.bel) (hB.below hbox.bel)).mono ?_;rintro e W4 ⟨_,_,rfl,⟨Q,lq,qc,rfl,hQ,okq,nmq,hvq⟩,⟨R,lr,rc,rfl,hR,okr,nmr,hvr⟩,hb4⟩;have hbox0:=hbox.below hb4;clear hbox hb4;have k0:=hbox0.a.c0;have k1:=hbox0.b.c0;have k0':W4.drew.cell? ⟨w.heap.size,0,none⟩=some (.int .i64 sx):=k0;have k1':W4.drew.cell? ⟨w.heap.size+1,0,none⟩=some (.int .i64 sy):=k1;go_wp2_with fail;go_region_held3 (fun w'=>w'.cell? ⟨w.heap.size,0,none⟩=some (.int .i64 sx)∧w'.cell? ⟨w.heap.size+1,0,none⟩=some (.int .i64 sy))
  (first|with_reducible exact⟨hbox0.a.c0,hbox0.b.c0⟩|with_reducible exact⟨k0',k1'⟩|with_reducible exact⟨hbox1.a.c0,hbox1.b.c0⟩|with_reducible exact⟨hbox2.a.c0,hbox2.b.c0⟩|with_reducible exact⟨(hbox2.set_r _ _ _ _).a.c0,(hbox2.set_r _ _ _ _).b.c0⟩|with_reducible exact⟨((hbox2.set_r _ _ _ _).set_t _ _ _ _).a.c0,((hbox2.set_r _ _ _ _).set_t _ _ _ _).b.c0⟩|fail)
  (first
    |(go_at_call_of 243 (Value.int .i64 p);refine(HM1.out _ Q lq qc (by exact hQ) okq nmq hvq).mono ?_;rintro e w5 ⟨P5,l5,c5,rfl,hP5,ok5,nm5,hv5,hb5⟩;(first|have hbox1:=hbox0.below (yXf hb5)|have hbox1:=hbox0.below hb5);(first|have hR1:=hR.below (yXf hb5)|have hR1:=hR.below hb5))
    |(go_at_call_of 243 (Value.int .i64 sx);refine(HM2.out _ R lr rc (by exact hR1) okr nmr hvr).mono ?_;rintro e w6 ⟨P6,l6,c6,rfl,hP6,ok6,nm6,hv6,hb6⟩;have hbox2:=hbox1.below hb6;have hP5':=hP5.below hb6;have y0:=hbox2.r.c0;have y1:=hbox2.r.c1;have y2:=hbox2.t.c0;have y3:=hbox2.t.c1;have f0:=hbox2.r.f 0;have f1:=hbox2.r.f 1;have f2:=hbox2.t.f 0;have f3:=hbox2.t.f 1))
 have hbox3:=(hbox2.set_r q1 P5 l5.length c5).set_t q2 P6 l6.length c6;have hS5:=(hP5'.far hbox2.r.far (Only.two _ _ (.int .i64 q1) (.slice P5 l5.length c5))).far (hbox2.set_r q1 P5 l5.length c5).t.far (Only.two _ _ (.int .i64 q2) (.slice P6 l6.length c6));have hS6:=(hP6.far hbox2.r.far (Only.two _ _ (.int .i64 q1) (.slice P5 l5.length c5))).far (hbox2.set_r q1 P5 l5.length c5).t.far (Only.two _ _ (.int .i64 q2) (.slice P6 l6.length c6));generalize ((((w6.setCell ⟨w.heap.size+1+1,0,none⟩ (.int .i64 q1)).setCell ⟨w.heap.size+1+1,1,none⟩ (.slice P5 l5.length c5)).setCell ⟨w.heap.size+1+1+1,0,none⟩ (.int .i64 q2)).setCell ⟨w.heap.size+1+1+1,1,none⟩ (.slice P6 l6.length c6))=W7 at hbox3 hS5 hS6 ⊢;clear hbox0 hbox1 hbox2 hb5 hb6 y0 y1 y2 y3 f0 f1 f2 f3 k0 k1 k0' k1' hP5 hP5' hP6 hQ hR hR1 HM1 HM2 H1 hp;have t0:=hbox3.t.c0;have t1:=hbox3.t.c1;have r0:=hbox3.r.c0;have r1:=hbox3.r.c1;have b0:=hbox3.b.c0;have f0:=hbox3.r.f 0;have f1:=hbox3.r.f 1;have f2:=hbox3.t.f 0;have f3:=hbox3.t.f 1;have b1:=hbox3.b.c1;have hn:(q2 != sy)=true:=by rw[yM2];exact h1
 have hz:=zXe _ false (zT0.2 h0);have HZ:=zC hz;clear h0 h1 hz;go_wp2_with fail;refine(HZ.out _).mono ?_;rintro e W8 ⟨rfl,rfl⟩;obtain⟨q3,hq3⟩:∃q,q=(X1+ -1).sign:=⟨_,rfl⟩
 obtain⟨q4,hq4⟩:∃q,q=(X2+y).sign:=⟨_,rfl⟩
 obtain⟨v1,v2⟩:=HV.out;have L5:l5.length≤100:=yVf nm5 hv5 (yT1 HN.out.1 v1);have L6:l6.length≤100:=yVf nm6 hv6 (yT1 HN.out.2 v1);have HP1:=zC (zVk X1 (-1) P5 (some ⟨W7.heap.size,0,none⟩) l5 [1] c5 1 (q:=q3) ok5 (by simp[Ok]) nm5 yIn hv5 yIn L5 yHn rfl HQ.out.1 (by rfl:(-1:Int)=(-1:Int).sign) hq3);have HP2:=zC (zVk X2 y P6 B l6 m c6 d (q:=q4) ok6 om nm6 nm hv6 v2 L6 yEn rfl HQ.out.2 HSY.out hq4);have HR:=zC (And.intro hq3 hq4);have hWA:Below w.heap.size w (W7.alloc (.cells #[.int .u32 1] 165)):=hbox3.bel.alloc hbox3.bel.size _;have hSA5:=hS5.below ((zI _ _).alloc (zR _) (.cells #[.int .u32 1] 165));have hSA6:=hS6.below ((zI _ _).alloc (zR _) (.cells #[.int .u32 1] 165));have hS1:Sz (W7.alloc (.cells #[.int .u32 1] 165)) (some ⟨W7.heap.size,0,none⟩) [1]:=yVb (yYb W7 _) yHn;have hboxA:=hbox3.below ((zI _ _).alloc (zR _) (.cells #[.int .u32 1] 165));have hBA:=hB.below hWA;clear hq3 hq4 v1 v2;have tA0:=hboxA.t.c0;have tA1:=hboxA.t.c1;have rA0:=hboxA.r.c0;have rA1:=hboxA.r.c1;have bA0:=hboxA.b.c0;have bA1:=hboxA.b.c1;go_upto_region 4 with fail
 go_cut [] (fun wx=>DvCut w sx A l.length c sy B m.length d q3 q4 (X1+ -1) (X2+y) wx)
 case first=>
  go_region_with (first
   |(go_at_call_of 223 (Value.int .i64 q1);refine(HP1.out _ (by exact hSA5) (by exact hS1)).mono ?_;rintro e w9 ⟨P9,l9,c9,rfl,hP9,ok9,nm9,hv9,hb9⟩;(first|have hbox9:=hboxA.below (yXf hb9)|have hbox9:=hboxA.below hb9);(first|have hS69:=hSA6.below (yXf hb9)|have hS69:=hSA6.below hb9);(first|have hSB9:=hBA.below (yXf hb9)|have hSB9:=hBA.below hb9);have t90:=hbox9.t.c0;have t91:=hbox9.t.c1;have b90:=hbox9.b.c0;have b91:=hbox9.b.c1)
   |(go_at_call_of 223 (Value.int .i64 q2);refine(HP2.out _ (by exact hS69) (by exact hSB9)).mono ?_;rintro e w10 ⟨P10,l10,c10,rfl,hP10,ok10,nm10,hv10,hb10⟩;have hbox10:=hbox9.below hb10;have hP9':=hP9.below hb10;have y0:=hbox10.r.c0;have y1:=hbox10.r.c1;have y2:=hbox10.t.c0;have y3:=hbox10.t.c1;have f10:=hbox10.r.f 0;have f11:=hbox10.r.f 1;have f12:=hbox10.t.f 0;have f13:=hbox10.t.f 1))
  all_goals(go_wp2_with fail;go_meet;exact DvCut.mk hbox10 ⟨hP9',ok9,nm9,hv9⟩ ⟨hP10,ok10,nm10,hv10⟩)
 case rest=>
  clear hbox3 hS5 hS6 t0 t1 r0 r1 b0 f0 f1 f2 f3 b1 hn hboxA tA0 tA1 rA0 rA1 bA0 bA1 hSA5 hSA6 hS1 hBA hWA HP1 HP2 HZ L5 L6;obtain⟨P9,l9,c9,P10,l10,c10,hbox3,⟨hS5,ok9,nm9,hv9⟩,⟨hS6,ok10,nm10,hv10⟩⟩:=hcut;obtain⟨e1,e2⟩:=HE.out;obtain⟨r1,r2⟩:=HR.out;rw[←e1]at r1 hv9;rw[←e2]at r2 hv10;have HF:=zC (And.intro r1 r2);have hbox4:=hbox3.drew;have hbox5:=(hbox3.set_r q3 P9 l9.length c9).drew;have hbox6:=((hbox3.set_r q3 P9 l9.length c9).set_t q4 P10 l10.length c10).drew;have hT5:=Sz.drew_ ((hS5.far hbox3.r.far (Only.two _ _ (.int .i64 q3) (.slice P9 l9.length c9))).far (hbox3.set_r q3 P9 l9.length c9).t.far (Only.two _ _ (.int .i64 q4) (.slice P10 l10.length c10)));have hT6:=Sz.drew_ ((hS6.far hbox3.r.far (Only.two _ _ (.int .i64 q3) (.slice P9 l9.length c9))).far (hbox3.set_r q3 P9 l9.length c9).t.far (Only.two _ _ (.int .i64 q4) (.slice P10 l10.length c10)));have f0:=hbox3.r.f 0;have f1:=hbox3.r.f 1;have f2:=hbox3.t.f 0;have f3:=hbox3.t.f 1;clear r1 r2 e1 e2 hS5 hS6;have y0:=hbox3.r.c0;have y1:=hbox3.r.c1;have y2:=hbox3.t.c0;have y3:=hbox3.t.c1;go_wp2_with fail;go_region_held3 (fun w'=>w'.cell? ⟨w.heap.size+1+1,0,none⟩=some (.int .i64 q3)∧w'.cell? ⟨w.heap.size+1+1,1,none⟩=some (.slice P9 l9.length c9)∧w'.cell? ⟨w.heap.size+1+1+1,0,none⟩=some (.int .i64 q4)∧w'.cell? ⟨w.heap.size+1+1+1,1,none⟩=some (.slice P10 l10.length c10))
   (first|with_reducible exact⟨hbox4.r.c0,hbox4.r.c1,hbox4.t.c0,hbox4.t.c1⟩|with_reducible exact⟨hbox5.r.c0,hbox5.r.c1,hbox5.t.c0,hbox5.t.c1⟩|with_reducible exact⟨hbox6.r.c0,hbox6.r.c1,hbox6.t.c0,hbox6.t.c1⟩|fail) (fail)
  have z0:=hbox6.r.c0;have z1:=hbox6.r.c1;have z2:=hbox6.t.c0;have z3:=hbox6.t.c1;go_wp2_with fail;exact zE (v:=.tuple #[.agg #[.int .i64 q3,.slice P9 l9.length c9],.agg #[.int .i64 q4,.slice P10 l10.length c10]]) xXl rfl ⟨_,_,rfl,⟨P9,l9,c9,by rw[←HF.out.1],hT5,ok9,nm9,hv9⟩,⟨P10,l10,c10,by rw[←HF.out.2],hT6,ok10,nm10,hv10⟩,hbox6.bel⟩
end Go.Proofs.YtcfbjdplhgdpfaaGreatDoor

import Derived.Test.YtcfbjdplhgdpfaaGreatDoorTbm
import Derived.Test.YtcfbjdplhgdpfaaGreatDoorTbr
import Derived.Test.YtcfbjdplhgdpfaaGreatDoorTbh
set_option maxHeartbeats 3200000
set_option maxRecDepth 100000
namespace Go.Proofs.YtcfbjdplhgdpfaaGreatDoor
set_option linter.unusedVariables false
set_option linter.unusedSimpArgs false
theorem zUn {P:Prop}(h:P:=by simp<;>omega):P:=h
theorem yQm {P:Prop}(h:P:=by simp[results,Tryz.results35,go_sem,r0,r1]):P:=h
open Go.RowKit
def vcl (l:List Int):List Int:=if l=[]then[1]else l
theorem yVh (l:List Int):(vcl l).length=l.length-1+1:=by
 unfold vcl;cases l with
 |nil=>rfl
 |cons x r=>simp
theorem yWh (l:List Int):(vcl l).tail=l.tail:=by
 unfold vcl;cases l with
 |nil=>rfl
 |cons x r=>simp
theorem yXh (l:List Int):(vcl l).getD 0 0=itV l:=by
 unfold vcl itV;cases l with
 |nil=>rfl
 |cons x r=>simp
def JC (W:World) (g:Nat) (n:Nat) (L:List Int) (b:Option Addr) (m d:Nat) (P:World→Prop) (w:World):Prop:=
 ∃a c,Bx w g a n c b m d∧Sl w a n L∧n≤c∧c≤maxLen∧P w∧Below W.heap.size W w
def OCut (l:List Int) (wz:World) (p:Value) (wx:World):Prop:=
 ∃g a n c,p=.pointer (some ⟨g,0,none⟩)∧Bx wx g a n c none 0 0∧Sl wx a n l∧n≤c∧c≤maxLen∧wz.heap.size≤g∧Below wz.heap.size wz wx
theorem OCut.new {l:List Int} {wz wb:World} {a:Option Addr} {n c:Nat} (hb:Below wz.heap.size wz wb) (hv:Sl wb a n l) (h1:n≤c) (h2:c≤maxLen):OCut l wz (.pointer (some ⟨wb.heap.size,0,none⟩)) (wb.alloc (.cells #[.slice a n c,.slice none 0 0] 25)):=
 have h3:Below wb.heap.size wb (wb.alloc (.cells #[.slice a n c,.slice none 0 0] 25)):=(zI _ _).alloc (zR _) _
 ⟨_,a,n,c,rfl,Bx.new _ _ _ _ _ _ _,hv.below h3,h1,h2,hb.size,hb.alloc hb.size _⟩
theorem OCut.set {l:List Int} {wz wb:World} {a:Option Addr} {g n c:Nat} (hb:Below wz.heap.size wz wb) (hv:Sl wb a n l) (h1:n≤c) (h2:c≤maxLen) (hZ:Bx wb g none 0 0 none 0 0) (h3:wz.heap.size≤g):OCut l wz (.pointer (some ⟨g,0,none⟩)) ((wb.setCell ⟨g,0,none⟩ (.slice a n c)).setCell ⟨g,1,none⟩ (.slice none 0 0)):=
 ⟨_,a,n,c,rfl,hZ.set _ _ _ _ _ _,hZ.sl hv _ _,h1,h2,h3,(hb.setCell h3 _).setCell h3 _⟩
theorem yYh {a1 b1 a2 b2:Option Addr} {n1 c1 m1 d1 n2 c2 m2 d2:Nat} {l m:List Int} {es fs:List ByteArray} {W:World} (h1:Av W a1 n1 c1 b1 m1 d1 l es none):
 Calls Tryz.prog 35 #[.agg #[.slice a1 n1 c1,.slice b1 m1 d1],.agg #[.slice a2 n2 c2,.slice b2 m2 d2]] W (xL3 (none,1) W):=by
 have KV:=zC (fun w (hb:Below W.heap.size W w)=>zM4 (h1.below hb));clear h1;have h:=xP3 W a1 n1 c1 b1 m1 d1 a2 n2 c2 b2 m2 d2;go_in;have x1:=h.out.2.2.1.c0;have y1:=h.out.2.2.1.c1;go_wp2_with fail
 with_reducible refine(yMf h (KV.out _ h.out.2.2.2)).mono ?_
 clear h x1 y1;rintro e w ⟨rfl,h⟩;have y0:=h.out.1.c0;have y3:=h.out.1.c1;have f0:=h.out.1.f 0;have f1:=h.out.1.f 1;go_wp2_with fail;have hR:=h.out.1.set none 0 0 none 0 0;have r0:=hR.c0;have r1:=hR.c1;exact zE (v:=.tuple #[.agg #[.slice none 0 0,.slice none 0 0],.int .i64 1]) yQm rfl (xN3 h.out.1 h.out.2.2.2 yEn)
theorem yZh {a1 b1 a2 b2:Option Addr} {n1 c1 m1 d1 n2 c2 m2 d2:Nat} {l m:List Int} {es fs:List ByteArray} {W:World} {q:Ar} (h1:Av W a1 n1 c1 b1 m1 d1 l es (some q)) (h2:Av W a2 n2 c2 b2 m2 d2 m fs none):
 Calls Tryz.prog 35 #[.agg #[.slice a1 n1 c1,.slice b1 m1 d1],.agg #[.slice a2 n2 c2,.slice b2 m2 d2]] W (xL3 (none,1) W):=by
 have KV:=zC (fun w (hb:Below W.heap.size W w)=>zM4 (h1.below hb));have KU:=zC (fun w (hb:Below W.heap.size W w)=>zM4 (h2.below hb));clear h1 h2;have h:=xP3 W a1 n1 c1 b1 m1 d1 a2 n2 c2 b2 m2 d2;go_in;have x1:=h.out.2.2.1.c0;have y1:=h.out.2.2.1.c1;go_wp2_with fail
 with_reducible refine(yMf h (KV.out _ h.out.2.2.2)).mono ?_
 clear h x1 y1;rintro e w ⟨rfl,h⟩;have x2:=h.out.2.1.c0;have y2:=h.out.2.1.c1;go_wp2_with fail
 with_reducible refine(yMf h (KU.out _ h.out.2.2.2)).mono ?_
 clear h x2 y2;rintro e w ⟨rfl,h⟩;have y0:=h.out.1.c0;have y3:=h.out.1.c1;have f0:=h.out.1.f 0;have f1:=h.out.1.f 1;go_wp2_with fail;have hR:=h.out.1.set none 0 0 none 0 0;have r0:=hR.c0;have r1:=hR.c1;exact zE (v:=.tuple #[.agg #[.slice none 0 0,.slice none 0 0],.int .i64 1]) yQm rfl (xN3 h.out.1 h.out.2.2.2 yEn)
theorem xAh {a1 b1 a2 b2:Option Addr} {n1 c1 m1 d1 n2 c2 m2 d2:Nat} {l m:List Int} {es fs:List ByteArray} {W:World} {q r:Ar} (h1:Av W a1 n1 c1 b1 m1 d1 l es (some q)) (h2:Av W a2 n2 c2 b2 m2 d2 m fs (some r)):
 Calls Tryz.prog 35 #[.agg #[.slice a1 n1 c1,.slice b1 m1 d1],.agg #[.slice a2 n2 c2,.slice b2 m2 d2]] W (xL3 (if n1-1≠n2-1 then(none,3)else if l.tail≠m.tail then(none,4)else if szE ((itV l+itV m)::l.tail)≠0 then(none,szE ((itV l+itV m)::l.tail))else(some ((itV l+itV m)::l.tail,q.2++r.2),0)) W):=by
 obtain⟨R,hR⟩:∃R,R=(if n1-1≠n2-1 then(none,3)else if l.tail≠m.tail then(none,4)else if szE ((itV l+itV m)::l.tail)≠0 then(none,szE ((itV l+itV m)::l.tail))else(some ((itV l+itV m)::l.tail,q.2++r.2),0)):=⟨_,rfl⟩
 rw[←hR];have HRES:=zC hR;have hb1:=h1.items.2.2.1;have hb2:=h2.items.2.2.1;have hv1:=h1.items.2.1;have hv2:=h2.items.2.1;have hn3:=h1.n3;have hn4:=h2.n3;have hm1:=h1.mlen.2.2;have hm2:=h2.mlen.2.2;have HV:=zC h1;have HU:=zC h2;have HL1:=zC (show(vcl l).length=n1-1+1 by rw[yVh,h1.v.s.1]);have HL2:=zC (show(vcl m).length=n2-1+1 by rw[yVh,h2.v.s.1]);have KV:=zC (fun w (hb:Below W.heap.size W w)=>zM4 (h1.below hb));have KU:=zC (fun w (hb:Below W.heap.size W w)=>zM4 (h2.below hb));have HT0:=zC (And.intro h1.v.t h2.v.t);have HQ:=zC (fun(ht:l.tail=m.tail) (hz:szE ((itV l+itV m)::l.tail)=0)=>(show Rok (some ((itV l+itV m)::l.tail,q.2++r.2))by
  have e1:=h1.fst;have e2:=h2.fst;subst e1 e2;exact zBf h1.i.rok h2.i.rok h1.fits h2.fits ht hz))
 have HE:=zC (show es++fs=(q.2++r.2).map S by rw[h1.i.2.1,h2.i.2.1,zN]);clear hR h1 h2;have h:=xP3 W a1 n1 c1 b1 m1 d1 a2 n2 c2 b2 m2 d2;go_in;have x1:=h.out.2.2.1.c0;have y1:=h.out.2.2.1.c1;go_wp2_with fail
 with_reducible refine(yMf h (KV.out _ h.out.2.2.2)).mono ?_
 clear h x1 y1;rintro e w ⟨rfl,h⟩;have x2:=h.out.2.1.c0;have y2:=h.out.2.1.c1;go_wp2_with fail
 with_reducible refine(yMf h (KU.out _ h.out.2.2.2)).mono ?_
 clear h x2 y2;rintro e w ⟨rfl,h⟩;have x1:=h.out.2.2.1.c0;have y1:=h.out.2.2.1.c1;have g0:=h.out.2.2.1.f 0;have g1:=h.out.2.2.1.f 1;go_upto_if 21 with fail
 go_cut [] (fun wx=>JC W W.heap.size (n1-1+1) (vcl l) b1 m1 d1 (fun X=>Bx X (W.heap.size+1+1) none 0 0 none 0 0∧Bx X (W.heap.size+1) a2 n2 c2 b2 m2 d2) wx)
 case first=>
  by_cases hn0:n1=0
  · subst hn0
    obtain rfl:l=[]:=yO0.1 HV.out.v.s.1;have lV:=h.out.2.2.1.lt;go_wp2_with fail;go_meet
    case rel=>
     have hA:Below w.heap.size w (w.alloc (.cells #[.int .i64 1] 3)):=(zI _ _).alloc (zR _) _;replace h:=xVf h hA;have hJ:JC W W.heap.size (0-1+1) (vcl []) b1 m1 d1 (fun X=>Bx X (W.heap.size+1+1) none 0 0 none 0 0∧Bx X (W.heap.size+1) a2 n2 c2 b2 m2 d2) (((w.alloc (.cells #[.int .i64 1] 3)).setCell ⟨W.heap.size,0,none⟩ (.slice (some ⟨w.heap.size,0,none⟩) 1 1)).setCell ⟨W.heap.size,1,none⟩ (.slice b1 m1 d1)):=
      ⟨some ⟨w.heap.size,0,none⟩,1,h.out.2.2.1.set _ _ _ _ _ _,h.out.2.2.1.sl (zYf (yKb w 1)) _ _,zR _,by unfold maxLen;omega,⟨(h.out.1.setOther (p:=⟨W.heap.size,0,none⟩) zUn _).setOther (p:=⟨W.heap.size,1,none⟩) zUn _,(h.out.2.1.setOther (p:=⟨W.heap.size,0,none⟩) zUn _).setOther (p:=⟨W.heap.size,1,none⟩) zUn _⟩,(h.out.2.2.2.setCell (zR _) _).setCell (zR _) _⟩
     rw[yG (hn:=lV),yG (hn:=by simpa using lV)]at hJ;exact hJ
  · have hne:((n1:Int)==0)=false:=zT0.2 yEn
    have hJ:JC W W.heap.size (n1-1+1) (vcl l) b1 m1 d1 (fun X=>Bx X (W.heap.size+1+1) none 0 0 none 0 0∧Bx X (W.heap.size+1) a2 n2 c2 b2 m2 d2) w:=by
     have e1:n1-1+1=n1:=by omega
     have e2:vcl l=l:=zY fun e=>by have:=HV.out.v.s.1;rw[e]at this;simp at this;omega
     rw[e1,e2];exact⟨a1,c1,h.out.2.2.1,HV.out.v.s.below h.out.2.2.2,HV.out.c.1,HV.out.c.2,⟨h.out.1,h.out.2.1⟩,h.out.2.2.2⟩
    clear h;go_wp2_with fail;go_meet
    case rel=>exact hJ
 case rest=>
 clear h x1 y1 g0 g1;obtain⟨a1',c1',hB1,hS1,hc1,hd1,⟨hR0,hB2⟩,hb0⟩:=hcut;have x2:=hB2.c0;have y2:=hB2.c1;have g0:=hB2.f 0;have g1:=hB2.f 1;go_upto_if 29 with fail
 go_cut [] (fun wx=>JC W (W.heap.size+1) (n2-1+1) (vcl m) b2 m2 d2 (fun X=>Bx X (W.heap.size+1+1) none 0 0 none 0 0∧Bx X W.heap.size a1' (n1-1+1) c1' b1 m1 d1∧Sl X a1' (n1-1+1) (vcl l)) wx)
 case first=>
  by_cases hn0:n2=0
  · subst hn0
    obtain rfl:m=[]:=yO0.1 HU.out.v.s.1;have lV:=hB2.lt;go_wp2_with fail;go_meet
    case rel=>
     have hA:Below wc.heap.size wc (wc.alloc (.cells #[.int .i64 1] 3)):=(zI _ _).alloc (zR _) _;have hJ:JC W (W.heap.size+1) (0-1+1) (vcl []) b2 m2 d2 (fun X=>Bx X (W.heap.size+1+1) none 0 0 none 0 0∧Bx X W.heap.size a1' (n1-1+1) c1' b1 m1 d1∧Sl X a1' (n1-1+1) (vcl l)) (((wc.alloc (.cells #[.int .i64 1] 3)).setCell ⟨W.heap.size+1,0,none⟩ (.slice (some ⟨wc.heap.size,0,none⟩) 1 1)).setCell ⟨W.heap.size+1,1,none⟩ (.slice b2 m2 d2)):=
      ⟨some ⟨wc.heap.size,0,none⟩,1,(hB2.alloc _).set _ _ _ _ _ _,(hB2.alloc _).sl (zYf (yKb wc 1)) _ _,zR _,by unfold maxLen;omega,⟨((hR0.alloc _).setOther (p:=⟨W.heap.size+1,0,none⟩) zUn _).setOther (p:=⟨W.heap.size+1,1,none⟩) zUn _,((hB1.alloc _).setOther (p:=⟨W.heap.size+1,0,none⟩) zUn _).setOther (p:=⟨W.heap.size+1,1,none⟩) zUn _,(hB2.alloc _).sl (hS1.below hA) _ _⟩,(((hb0.alloc hb0.size _).setCell (Nat.le_succ _) _).setCell (Nat.le_succ _) _)⟩
     rw[yG (hn:=lV),yG (hn:=by simpa using lV)]at hJ;exact hJ
  · have hne:((n2:Int)==0)=false:=zT0.2 yEn
    have hJ:JC W (W.heap.size+1) (n2-1+1) (vcl m) b2 m2 d2 (fun X=>Bx X (W.heap.size+1+1) none 0 0 none 0 0∧Bx X W.heap.size a1' (n1-1+1) c1' b1 m1 d1∧Sl X a1' (n1-1+1) (vcl l)) wc:=by
     have e1:n2-1+1=n2:=by omega
     have e2:vcl m=m:=zY fun e=>by have:=HU.out.v.s.1;rw[e]at this;simp at this;omega
     rw[e1,e2];exact⟨a2,c2,hB2,HU.out.v.s.below hb0,HU.out.c.1,HU.out.c.2,⟨hR0,hB1,hS1⟩,hb0⟩
    clear hR0 hB1 hS1 hB2;go_wp2_with fail;go_meet
    case rel=>exact hJ
 case rest=>
 clear hR0 hB1 hS1 hB2 hb0 x2 y2 g0 g1;obtain⟨a2',c2',hB2,hS2,hc2,hd2,⟨hR0,hB1,hS1⟩,hb0⟩:=hcut;have HMM:=zC (show n1-1≠n2-1↔n1-1+1≠n2-1+1 by omega);have hM1:1≤n1-1+1∧n1-1+1≤3:=by omega
 have hM2:1≤n2-1+1∧n2-1+1≤3:=by omega
 generalize n1-1+1=M1 at*;generalize n2-1+1=M2 at*;have h:Lv (fun z=>Sl z a1' M1 (vcl l)∧Sl z a2' M2 (vcl m)∧Bx z (W.heap.size+1+1) none 0 0 none 0 0∧Bx z W.heap.size a1' M1 c1' b1 m1 d1∧Bx z (W.heap.size+1) a2' M2 c2' b2 m2 d2∧Below W.heap.size W z) wc:=⟨⟨hS1,hS2,hR0,hB1,hB2,hb0⟩⟩
 have x1:=hB1.c0;have x2:=hB2.c0;clear hn3 hn4 hS1 hS2 hR0 hB1 hB2 hb0 HL1 HL2;by_cases hMe:M1=M2
 · subst hMe
   have HM:=zC (show¬(n1-1≠n2-1)from fun e=>HMM.out.1 e rfl);obtain⟨A1,hA1⟩:∃A,A=tlA a1' c1':=⟨_,rfl⟩
   obtain⟨A2,hA2⟩:∃A,A=tlA a2' c2':=⟨_,rfl⟩
   obtain⟨K,hK⟩:∃K,K=M1-1:=⟨_,rfl⟩
   obtain⟨C1,hC1⟩:∃C,C=c1'-1:=⟨_,rfl⟩
   obtain⟨C2,hC2⟩:∃C,C=c2'-1:=⟨_,rfl⟩
   have hr1:=zMa Tryz.underlying22 xW3 a1' M1 c1' hM1.1 hc1;have hr2:=zMa Tryz.underlying22 xW3 a2' M1 c2' hM1.1 hc2;rw[←hA1,←hK,←hC1]at hr1;rw[←hA2,←hK,←hC2]at hr2;have hq:Below wc.heap.size wc wc:=zI _ _;have hqz:=hq.size;have HLV:=zC h;have lV:=h.out.2.2.2.1.lt;have lW:=h.out.2.2.2.2.1.lt;have Q1:Hid (∀z,Below wc.heap.size wc z→Calls Tryz.prog 83 #[.slice A1 K C1,.slice A2 K C2] z fun e w'=>e=.returned (.bool (l.tail==m.tail))∧Below wc.heap.size wc w'):=zC fun z hz=>by
    have k1:=(h.out.1.below hz).tl hM1.1 hc1;have k2:=(h.out.2.1.below hz).tl hM1.1 hc2;rw[yWh,←hA1,←hK]at k1;rw[yWh,←hA2,←hK]at k2;exact(yR9 A1 A2 K C1 K C2 l.tail m.tail z k1 k2 yEn yEn _ rfl).mono fun e w' kk=>⟨kk.1,hz.trans (kk.2.below.mono hz.size)⟩
   clear hA1 hA2 hC1 hC2 hK h;obtain⟨B,hBB⟩:∃B,B=(l.tail==m.tail):=⟨_,rfl⟩
   rw[←hBB]at Q1;have HBB:=zC hBB;clear hBB;go_upto_region 9 with fail
   cases B
   · go_region_held3 (fun w'=>w'.cell? ⟨W.heap.size,0,none⟩=some (.slice a1' M1 c1')∧w'.cell? ⟨W.heap.size+1,0,none⟩=some (.slice a2' M1 c2'))
      (first|exact⟨(zA0 (p:=⟨W.heap.size,0,none⟩) xJl lV).trans x1,(zA0 (p:=⟨W.heap.size+1,0,none⟩) xJl lW).trans x2⟩|fail)
      (first
        |(go_at_call 83;(with_reducible refine(Q1.out _ xJl).mono ?_);rintro e wa ⟨rfl,hq⟩;have hqz:=hq.size)
        |fail)
     all_goals
      have h2:=zC (xLg HLV.out hq (zR _));clear Q1 hq HLV x1 x2 hr1 hr2;have y0:=h2.out.out.2.2.1.c0;have y3:=h2.out.out.2.2.1.c1;have f0:=h2.out.out.2.2.1.f 0;have f1:=h2.out.out.2.2.1.f 1;go_wp2_with fail;have hR:=h2.out.out.2.2.1.set none 0 0 none 0 0;have r0:=hR.c0;have r1:=hR.c1;exact zE (v:=.tuple #[.agg #[.slice none 0 0,.slice none 0 0],.int .i64 4]) yQm rfl (by
       rw[show R=(none,4)from HRES.out.trans (by rw[zY HM.out,yA (fun e=>by have:=HBB.out;rw[e,zH2]at this;cases this)])];exact xN3 h2.out.out.2.2.1 h2.out.out.2.2.2.2.2 yEn)
   · go_region_held3 (fun w'=>w'.cell? ⟨W.heap.size,0,none⟩=some (.slice a1' M1 c1')∧w'.cell? ⟨W.heap.size+1,0,none⟩=some (.slice a2' M1 c2'))
      (first|exact⟨(zA0 (p:=⟨W.heap.size,0,none⟩) xJl lV).trans x1,(zA0 (p:=⟨W.heap.size+1,0,none⟩) xJl lW).trans x2⟩|fail)
      (first
        |(go_at_call 83;(with_reducible refine(Q1.out _ xJl).mono ?_);rintro e wa ⟨rfl,hq⟩;have hqz:=hq.size)
        |fail)
     all_goals
      have h:=xLg HLV.out hq (zR _);clear Q1 HLV x1 x2 hr1 hr2 lV lW;have HT:=zC (show l.tail=m.tail from beq_iff_eq.1 HBB.out.symm);obtain⟨p1,o1,ha1,hc'1⟩:=h.out.1.2 hM1.1;obtain⟨p2,o2,ha2,hc'2⟩:=h.out.2.1.2 hM1.1;subst ha1 ha2;have hk1:=hc'1 0 hM1.1;have hk2:=hc'2 0 hM1.1;rw[yXh,xB]at hk1 hk2;have hw:IntKind.i64.wrap (itV l+itV m)=itV l+itV m:=xJ0 _ yEn;have KB:=zC (fun z (hz:Below wa.heap.size wa z)=>(show Calls Tryz.prog 84 #[.agg #[.slice (some ⟨p1,o1,none⟩) M1 c1',.slice b1 m1 d1],.int .i64 (itV l+itV m)] z (zG4 ((itV l+itV m)::l.tail) z)from by
       have k:=zH4 (c:=c1') (b:=b1) (m:=m1) (d:=d1) z (h.out.1.below hz) hM1.1 yEn (itV l+itV m);rwa [yWh]at k))
      have KZ:=zC (fun w a n c (hs:Sl w a n ((itV l+itV m)::l.tail))=>xKe a n c ((itV l+itV m)::l.tail) w hs);unfold yJ9 at KZ;generalize itV l=v1 at*;generalize itV m=v2 at*;obtain⟨vs,hvs⟩:∃vs,vs=v1+v2:=⟨_,rfl⟩
      have hw2:IntKind.i64.wrap (v1+v2)=vs:=hw.trans hvs.symm;clear hw;rw[←hvs]at KB KZ HRES HQ;obtain⟨E,hEE⟩:∃E,E=szE (vs::l.tail):=⟨_,rfl⟩
      rw[←hEE]at KZ;have HEE:=zC hEE;generalize szV (vs::l.tail)=vz at*;have hq2:Below wa.heap.size wa wa:=zI _ _;have x1:=h.out.2.2.2.1.c0;have y1:=h.out.2.2.2.1.c1;have x2:=h.out.2.2.2.2.1.c0;have lV:=h.out.2.2.2.1.lt;have lW:=h.out.2.2.2.2.1.lt;have lp1:p1<wa.heap.size:=yU wa _ hk1;have lp2:p2<wa.heap.size:=yU wa _ hk2;have HLV:=zC h;have Q2:Hid (∀z,Below wa.heap.size wa z→Calls Tryz.prog 84 #[.agg #[.slice (some ⟨p1,o1,none⟩) M1 c1',.slice b1 m1 d1],.int .i64 vs] z fun e w'=>∃a n c,e=.returned (.agg #[.slice a n c,.slice none 0 0])∧Sl w' a n (vs::l.tail)∧n≤c∧c≤maxLen∧Below wa.heap.size wa w'∧Below z.heap.size z w'):=zC fun z hz=>(KB.out z hz).mono fun e w' k=>by
       obtain⟨a,n,c,k1,k2,k3,k4,k5⟩:=k;exact⟨a,n,c,k1,k2,k3,k4,hz.trans (k5.mono hz.size),k5⟩
      clear h hc'1 hc'2 KB hvs hEE hq;have hM0:0<M1:=hM1.1;have hM0i:(0:Int)<(M1:Int):=by omega
      have hq:=hq2;have hqz:=hq.size;clear hq2;have HK5:Hid (∀z,Below wa.heap.size wa z→z.cell? ⟨W.heap.size,0,none⟩=some (.slice (some ⟨p1,o1,none⟩) M1 c1')∧z.cell? ⟨W.heap.size,1,none⟩=some (.slice b1 m1 d1)∧z.cell? ⟨W.heap.size+1,0,none⟩=some (.slice (some ⟨p2,o2,none⟩) M1 c2')∧z.cell? ⟨p1,o1,none⟩=some (.int .i64 v1)∧z.cell? ⟨p2,o2,none⟩=some (.int .i64 v2)):=zC fun z hz=>⟨(hz.cell (p:=⟨W.heap.size,0,none⟩) lV).trans x1,(hz.cell (p:=⟨W.heap.size,1,none⟩) lV).trans y1,(hz.cell (p:=⟨W.heap.size+1,0,none⟩) lW).trans x2,(hz.cell (p:=⟨p1,o1,none⟩) lp1).trans hk1,(hz.cell (p:=⟨p2,o2,none⟩) lp2).trans hk2⟩
      go_wp2_with fail;go_cut [6] (fun p wx=>OCut (vs::l.tail) wa p wx)
      case first=>
       go_region_held3 (fun w'=>w'.cell? ⟨W.heap.size,0,none⟩=some (.slice (some ⟨p1,o1,none⟩) M1 c1')∧w'.cell? ⟨W.heap.size,1,none⟩=some (.slice b1 m1 d1)∧w'.cell? ⟨W.heap.size+1,0,none⟩=some (.slice (some ⟨p2,o2,none⟩) M1 c2')∧w'.cell? ⟨p1,o1,none⟩=some (.int .i64 v1)∧w'.cell? ⟨p2,o2,none⟩=some (.int .i64 v2))
        (first|exact HK5.out _ xJl|fail)
        (first
          |(go_at_call 84;(with_reducible refine(Q2.out _ xJl).mono ?_);rintro e wb ⟨a',n',c',rfl,hv',hn',hc',hq,hr⟩;have hqz:=hq.size;(try(have hZ1:=Bx.on xGl hr;have y0:=hZ1.c0;have y1:=hZ1.c1;have g0:=hZ1.f 0;have g1:=hZ1.f 1)))
          |fail)
       all_goals
        go_wp2_with fail;go_meet
        case rel=>with_reducible first|exact OCut.new hq hv' hn' hc'|(refine OCut.set hq hv' hn' hc' hZ1 ?_<;>first|exact zR _|exact hqz|omega|(simp;done)|(simp;omega))
      case rest=>
      clear hq hqz Q2 HK5 x1 y1 x2 lV lW hk1 hk2 lp1 lp2;obtain⟨g6,a6,n6,c6,rfl,hX,hS6,hc6,hd6,hg6,hbc⟩:=hcut;have h:=xLg HLV.out hbc (zR _);have lV:=h.out.2.2.2.1.lt;have HT2:=zC (show St wc b1 m1 es∧St wc b2 m2 fs from⟨HT0.out.1.below h.out.2.2.2.2.2,HT0.out.2.below h.out.2.2.2.2.2⟩);have hgV:g6≠W.heap.size:=by have:=HLV.out.out.2.2.2.1.lt;omega
      have hgW:g6≠W.heap.size+1:=by have:=HLV.out.out.2.2.2.2.1.lt;omega
      have hgR:g6≠W.heap.size+1+1:=by have:=HLV.out.out.2.2.1.lt;omega
      have hWg:W.heap.size≤g6:=by have:=HLV.out.out.2.2.2.1.lt;omega
      have lg6:=hX.lt;have hsb:Hid (∀p,a6=some p→0<n6→p.block<wc.heap.size):=zC fun p hp h0=>by
       obtain⟨b',o',e',hc'⟩:=hS6.2 h0;rw[hp]at e';injection e' with e'
       rw[e'];exact yU wc _ (hc' 0 h0)
      clear HLV hbc hg6;have x1:=hX.c1;have y1:=h.out.2.2.2.1.c1;have hr2:=zC HT2.out.1.rd;obtain⟨B0,hB0⟩:∃B0,B0=wc.heap.size:=⟨_,rfl⟩
      have HB0:=zC hB0;rw[←hB0]at hsb;clear hB0;go_upto_region 13 with(at_builtin;refine yDf rfl (.tmp 63) (.tmp 65) 23 rfl B0 9 (.string ⟨#[]⟩) 16 Tryz.underlying23 xC4 rfl yCn _ 0 [] rfl (zT _ _ _ _) _ m1 d1 (zTf es) rfl hr2.out (zVf _) yEn (by rw[HB0.out];exact zR _) ?_;intro av cv w3 hown3 hg3;have hb3:Below wc.heap.size wc w3:=xNg (zT wc wc.heap.size 9 1) hg3 (zR _);have hO3:=hX.below hb3 hX.lt;have z1:=hO3.c1;have g2:=hO3.f 1)
      rw[zP0,zS0]at hown3;have h3:=xLg h hb3 (zR _);have hS3:=hS6.below hb3;have hT3:=HT2.out.2.below hb3;have hO4:=zC (hO3.set1 av m1 cv);have hS4:=zC (hO3.sl1 hS3 (.inr rfl) (.slice av m1 cv));have hT4:=zC (hO3.st1 hT3 (.inr rfl) (.slice av m1 cv));have hw4:=zC (xMg hown3 yCn hO3 1 (.slice av m1 cv));have hR4:=zC (h3.out.2.2.1.setOther (p:=⟨g6,1,none⟩) (xL0 hgR) (.slice av m1 cv));have hW4:=zC (h3.out.2.2.2.2.1.setOther (p:=⟨g6,1,none⟩) (xL0 hgW) (.slice av m1 cv));have hb4:=zC (h3.out.2.2.2.2.2.setCell (p:=⟨g6,1,none⟩) hWg (.slice av m1 cv));have hz4:B0≤(w3.setCell ⟨g6,1,none⟩ (.slice av m1 cv)).heap.size:=by rw[HB0.out];simpa using hb3.size
      clear hown3 hg3 hb3 hO3 z1 g2 h3 hS3 hT3 hr2 x1 y1 h hX hS6 HT2;generalize hw5:w3.setCell ⟨g6,1,none⟩ (.slice av m1 cv)=w5 at*;clear hw5;have x1:=hO4.out.c1;have y1:=hW4.out.c1;have hr5:=zC hT4.out.rd;go_upto_region 14 with(at_builtin;refine yDf rfl (.tmp 69) (.tmp 71) 23 rfl B0 9 (.string ⟨#[]⟩) 16 Tryz.underlying23 xC4 rfl yCn _ m1 (zTf es) rfl hw4.out _ m2 d2 (zTf fs) rfl hr5.out (zVf _) yEn hz4 ?_;intro av6 cv6 w6 hown6 hg6;have hO6:=Bx.grownV hw4.out yCn hg6 hO4.out;have z1:=hO6.c1;have g2:=hO6.f 1)
      rw[zSg]at hown6;have hR6:=Bx.grownV hw4.out yCn hg6 hR4.out;have hb6:=hb4.out.trans ((xNg hw4.out hg6 hz4).mono (by rw[HB0.out];omega));have hS6:=hS4.out.grown_far hg6 (fun p hp h0 e=>by have h5:=(hw4.out.lt _ e.symm).1;have h6:=hsb.out p hp h0;omega);have hO7:=zC (hO6.set1 av6 (m1+m2) cv6);have hS7:=zC (hO6.sl1 hS6 (.inr rfl) (.slice av6 (m1+m2) cv6));have hw7:=zC (xMg hown6 yCn hO6 1 (.slice av6 (m1+m2) cv6));have hR7:=zC (hR6.setOther (p:=⟨g6,1,none⟩) (xL0 hgR) (.slice av6 (m1+m2) cv6));have hb7:=zC (hb6.setCell (p:=⟨g6,1,none⟩) hWg (.slice av6 (m1+m2) cv6));clear hown6 hg6 hb6 hO6 z1 g2 hS6 hr5 x1 y1 hO4 hS4 hT4 hw4 hR4 hW4 hb4 hz4 hR6;generalize hw8:w6.setCell ⟨g6,1,none⟩ (.slice av6 (m1+m2) cv6)=w8 at*;clear hw8;have x0:=hO7.out.c0;go_wp2_with fail;refine(KZ.out _ _ _ c6 hS7.out).mono ?_;rintro e w9 ⟨rfl,rfl⟩;have y0:=hR7.out.c0;have y3:=hR7.out.c1;have f0:=hR7.out.f 0;have f1:=hR7.out.f 1;by_cases hE:E=0
      · subst hE
        have x5:=hO7.out.c1;go_wp2_with fail;have hR:=hR7.out.set a6 n6 c6 av6 (m1+m2) cv6;have r0:=hR.c0;have r1:=hR.c1;have hV:Vl w8 a6 n6 av6 (m1+m2) (TS (some (vs::l.tail,q.2++r.2))).1 (TS (some (vs::l.tail,q.2++r.2))).2:=⟨hS7.out,by rw[show(TS (some (vs::l.tail,q.2++r.2))).2=es++fs from HE.out.symm];exact zZf hw7.out,by omega⟩
        exact zE (v:=.tuple #[.agg #[.slice a6 n6 c6,.slice av6 (m1+m2) cv6],.int .i64 0]) yQm rfl (by
         rw[show R=(some (vs::l.tail,q.2++r.2),0)from by rw[HRES.out,zY HM.out,zY (fun e=>e HT.out),zY (by rw[←HEE.out];simp)]];exact xM3 (r:=(some (vs::l.tail,q.2++r.2),0)) hR7.out hb7.out yEn hV ⟨hc6,hd6,(xE8 hw7.out).1,(xE8 hw7.out).2⟩ (HQ.out HT.out HEE.out.symm))
      · have hEb:(E != 0)=true:=by simpa using hE
        go_wp2_with fail;have hR:=hR7.out.set none 0 0 none 0 0;have r0:=hR.c0;have r1:=hR.c1;exact zE (v:=.tuple #[.agg #[.slice none 0 0,.slice none 0 0],.int .i64 E]) yQm rfl (by
         rw[show R=(none,E)from by rw[HRES.out,zY HM.out,zY (fun e=>e HT.out),yA (by rw[←HEE.out];exact hE),←HEE.out]];exact xN3 hR7.out hb7.out yEn)
 · have hne:(M1:Int)≠(M2:Int):=by omega
   have h2:=zC h;clear h;have y0:=h2.out.out.2.2.1.c0;have y3:=h2.out.out.2.2.1.c1;have f0:=h2.out.out.2.2.1.f 0;have f1:=h2.out.out.2.2.1.f 1;go_wp2_with fail;have hR:=h2.out.out.2.2.1.set none 0 0 none 0 0;have r0:=hR.c0;have r1:=hR.c1;exact zE (v:=.tuple #[.agg #[.slice none 0 0,.slice none 0 0],.int .i64 3]) yQm rfl (by
    rw[show R=(none,3)from HRES.out.trans (yA (HMM.out.2 hMe))];exact xN3 h2.out.out.2.2.1 h2.out.out.2.2.2.2.2 yEn)
theorem xBh {a1 b1 a2 b2:Option Addr} {n1 c1 m1 d1 n2 c2 m2 d2:Nat} {l m:List Int} {es fs:List ByteArray} {W:World} {o p:Option Ar} (h1:Av W a1 n1 c1 b1 m1 d1 l es o) (h2:Av W a2 n2 c2 b2 m2 d2 m fs p):Calls Tryz.prog 35 #[.agg #[.slice a1 n1 c1,.slice b1 m1 d1],.agg #[.slice a2 n2 c2,.slice b2 m2 d2]] W (xL3 (jnM o p) W):=by
 cases o with
 |none=>exact yYh (m:=m) (fs:=fs) h1
 |some q=>
 cases p with
 |none=>exact yZh h1 h2
 |some r=>
 have l1:q.1.length=n1:=by rw[h1.fst];exact h1.v.s.1
 have l2:r.1.length=n2:=by rw[h2.fst];exact h2.v.s.1
 have e1:=h1.fst;have e2:=h2.fst;have eq0:jnM (some q) (some r)=if n1-1≠n2-1 then(none,3)else if l.tail≠m.tail then(none,4)else if szE ((itV l+itV m)::l.tail)≠0 then(none,szE ((itV l+itV m)::l.tail))else(some ((itV l+itV m)::l.tail,q.2++r.2),0):=by
  simp only[jnM];rw[yBd,yBd,zAf,zAf,xZe,xZe,l1,l2,e1,e2];by_cases h:n1-1=n2-1
  · rw[zY (show¬(n1-1+1≠n2-1+1)by omega),zY (show¬(n1-1≠n2-1)by omega)];rfl
  · rw[yA (show n1-1+1≠n2-1+1 by omega),yA h]
 rw[eq0];exact xAh h1 h2
end Go.Proofs.YtcfbjdplhgdpfaaGreatDoor

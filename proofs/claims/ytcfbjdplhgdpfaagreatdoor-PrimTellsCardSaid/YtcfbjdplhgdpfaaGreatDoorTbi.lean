import Derived.Test.YtcfbjdplhgdpfaaGreatDoorTbh
set_option maxHeartbeats 3200000
set_option maxRecDepth 100000
namespace Go.Proofs.YtcfbjdplhgdpfaaGreatDoor
set_option linter.unusedVariables false
set_option linter.unusedSimpArgs false
theorem zGn {P:Prop}(h:P:=by rw[hB];exact zR _):P:=h
theorem zBn {P:Prop}(h:P:=by rw[←hml];exact hm4):P:=h
theorem xUm {P:Prop}(h:P:=by rw[HL.out];exact hil):P:=h
theorem xEm {P:Prop}(h:P:=by rw[HU.out,yA hfi,zC0,←HSS.out];rfl):P:=h
theorem yOm {P:Prop}(h:P:=by simp[results,Tryz.results36,go_sem,r0,r1]):P:=h
theorem yNm {P:Prop}(h:P:=by simp[results,Tryz.results30,go_sem,r0,r1]):P:=h
theorem yMm {P:Prop}(h:P:=by simp[results,Tryz.results29,go_sem,r0,r1]):P:=h
theorem xWl {P:Prop}(h:P:=by rw[HG.out];exact xN3 h.out.1 h.out.2.2 yEn):P:=h
abbrev zA2:=@List.sum_append
section
open Go.RowKit
theorem yGg (l:List Int) (k:Nat):(yF4 (l.take k)).sum≤(yF4 l).sum:=by
 have e:yF4 l=yF4 (l.take k)++yF4 (l.drop k):=by unfold yF4;rw[←zN,yN1]
 rw[e,zA2];omega
theorem yHg {l:List Int} {k x:Nat} (hk:k<l.length) (hx:l.getD k 0=(x:Int)):yF4 (l.take (k+1))=yF4 (l.take k)++[x]:=by
 rw[zK3 hk,hx];simp[yF4]
theorem yIg (l:List Int):(yF4 l).length=l.length:=by simp[yF4]
theorem yJg (L:List Nat) (p k:Nat):yS9 (yE4 (L++List.replicate (p+1) k))=yS9 (yE4 (L++List.replicate p k))++yS9 [(k:Int)]:=by
 rw[List.replicate_succ',←xA,zNa]
theorem yKg {q:Ar} (hl:q.1.length=1) (ha:q.2.all zWd=true):whK (some q)=if∃x∈q.2,x<0 then(none,5)else if 4096<(yF4 q.2).sum then(none,8)else(some ([((yF4 q.2).sum:Int)],yE4 (whS 0 (yF4 q.2))),0):=by
 unfold whK;dsimp only
 rw[zY (fun e=>e hl),ha,zY yHn]
theorem yLg {q:Ar} (hl:q.1.length=1) (ha:q.2.all zWd=false):whK (some q)=(none,5):=by
 unfold whK;dsimp only
 rw[zY (fun e=>e hl),yA ha]
theorem yMg {l:List Nat} (h:l.length≤100000) {j:Nat}:I64 ((yE4 (whS 0 l)).getD j 0):=by
 rcases zM1 j (yE4 (whS 0 l)).length with hj|hj
 · rw[yJ,yM hj]
   obtain⟨i,hi,e⟩:=xY0.1 (xH hj);have:=(yVd hi).2;show I64 (yE4 (whS 0 l))[j];rw[←e];unfold I64;omega
 · rw[yJ,yW0 hj]
   show I64 0;unfold I64;omega
theorem yNg {a1 b1:Option Addr} {n1 c1 m1 d1:Nat} {l:List Int} {es:List ByteArray} {W:World} {o:Option Ar} (h1:Av W a1 n1 c1 b1 m1 d1 l es o) (hv:vcE o≠0):
 Calls Tryz.prog 29 #[.agg #[.slice a1 n1 c1,.slice b1 m1 d1]] W (xL3 (none,vcE o) W):=by
 have KC:=zC (fun w (hb:Below W.heap.size W w)=>zKa (h1.below hb));generalize vcE o=k at*;have hk:(k != 0)=true:=by simpa using hv
 clear h1 hv;have h:=xO3 W a1 n1 c1 b1 m1 d1;go_in;have x1:=h.out.2.1.c0;have y1:=h.out.2.1.c1;go_wp2_with fail
 with_reducible refine(yMf h (KC.out _ h.out.2.2)).mono ?_
 clear h x1 y1;rintro e w ⟨rfl,h⟩;have y0:=h.out.1.c0;have y3:=h.out.1.c1;have f0:=h.out.1.f 0;have f1:=h.out.1.f 1;go_wp2_with fail;have hR:=h.out.1.set none 0 0 none 0 0;have r0:=hR.c0;have r1:=hR.c1;exact zE (v:=.tuple #[.agg #[.slice none 0 0,.slice none 0 0],.int .i64 k]) yMm rfl (xN3 h.out.1 h.out.2.2 yEn)
theorem yOg {a1 b1:Option Addr} {n1 c1 m1 d1:Nat} {l:List Int} {es:List ByteArray} {W:World} {q:Ar} (h1:Av W a1 n1 c1 b1 m1 d1 l es (some q)) (hv:vcE (some q)=0) (hal:q.2.all zWd=false):
 Calls Tryz.prog 29 #[.agg #[.slice a1 n1 c1,.slice b1 m1 d1]] W (xL3 (none,5) W):=by
 have KC:=zC (fun w (hb:Below W.heap.size W w)=>zKa (h1.below hb));have KA:=zC (fun w (hb:Below W.heap.size W w)=>yC4 (c:=c1) (d:=d1) (s:=l) w xVl h1.i.2.2.2 xMm);rw[hv]at KC;have hal2:=zC hal;clear h1 hv hal;have h:=xO3 W a1 n1 c1 b1 m1 d1;go_in;have x1:=h.out.2.1.c0;have y1:=h.out.2.1.c1;go_wp2_with fail
 with_reducible refine(yMf h (KC.out _ h.out.2.2)).mono ?_
 clear h x1 y1;rintro e w ⟨rfl,h⟩;have x1:=h.out.2.1.c0;have y1:=h.out.2.1.c1;go_wp2_with fail;refine(xV7 h (KA.out _ h.out.2.2)).mono ?_;clear h x1 y1;rintro e w ⟨aa,na,ca,z,rfl,hz,h⟩;have hz5:z=5:=by
  rcases hz with⟨g,_⟩|⟨_,g⟩
  · rw[hal2.out]at g;cases g
  · exact g
 subst hz5;clear hz;have y0:=h.out.1.c0;have y3:=h.out.1.c1;have f0:=h.out.1.f 0;have f1:=h.out.1.f 1;go_wp2_with fail;have hR:=h.out.1.set none 0 0 none 0 0;have r0:=hR.c0;have r1:=hR.c1;exact zE (v:=.tuple #[.agg #[.slice none 0 0,.slice none 0 0],.int .i64 5]) yMm rfl (xN3 h.out.1 h.out.2.2 yEn)
theorem yPg {a1 b1:Option Addr} {n1 c1 m1 d1:Nat} {l:List Int} {es:List ByteArray} {W:World} {q:Ar} (h1:Av W a1 n1 c1 b1 m1 d1 l es (some q)) (hv:vcE (some q)=0) (hlq:q.1.length=1) (hal:q.2.all zWd=true):
 Calls Tryz.prog 29 #[.agg #[.slice a1 n1 c1,.slice b1 m1 d1]] W (xL3 (whK (some q)) W):=by
 have KC:=zC (fun w (hb:Below W.heap.size W w)=>zKa (h1.below hb));have KA:=zC (fun w (hb:Below W.heap.size W w)=>yC4 (c:=c1) (d:=d1) (s:=l) w xVl h1.i.2.2.2 xMm);rw[hv]at KC;have hm4:=h1.mlen.2.2;have hml:=h1.mlen.1;obtain⟨L,hL⟩:∃L,L=q.2:=⟨_,rfl⟩
 obtain⟨R,hR⟩:∃R,R=whK (some q):=⟨_,rfl⟩
 rw[yKg hlq hal,←hL]at hR;rw[←hL]at KA hal hml;rw[show whK (some q)=R by rw[hR,yKg hlq (by rw[←hL];exact hal),←hL]];have HX:=zC (fun j (hj:j<m1)=>zXd.1 (xO7.1 hal j yEn));have hal2:=zC hal;have HL:=zC hml.symm;have F5:=zC (fun j (hj:j<m1) (h0:L.getD j 0<0)=>(show R=(none,5)from hR.trans (yA ⟨L.getD j 0,by rw[yJ,yM yEn];exact xH _,h0⟩)));have F0:=fun(h0:∀j,j<m1→0≤L.getD j 0)=>(show¬∃x∈L,x<0 from by
  rintro⟨x,hx,h⟩;obtain⟨j,hj,rfl⟩:=yP hx;have:=h0 j yEn;rw[yJ,yM hj,yS]at this;omega)
 have F8:=zC (fun h0 (hs:4096<(yF4 L).sum)=>(show R=(none,8)from hR.trans (by rw[zY (F0 h0),yA hs])));have FY:=zC (fun h0 (hs:(yF4 L).sum≤4096)=>(show R=(some ([((yF4 L).sum:Int)],yE4 (whS 0 (yF4 L))),0)from hR.trans (by rw[zY (F0 h0),zY yEn])));have KI:=zC (fun w a c (hs:Sl w a (yF4 L).sum (yE4 (whS 0 (yF4 L)))) (h4:(yF4 L).sum≤4096)=>zLa a (yF4 L).sum c (yE4 (whS 0 (yF4 L))) w hs (fun j _=>yMg (by rw[yIg];omega)) yEn);clear h1 hv hlq hal hml hR hL F0;have h:=xO3 W a1 n1 c1 b1 m1 d1;go_in;have x1:=h.out.2.1.c0;have y1:=h.out.2.1.c1;go_wp2_with fail
 with_reducible refine(yMf h (KC.out _ h.out.2.2)).mono ?_
 clear h x1 y1;rintro e w ⟨rfl,h⟩;have x1:=h.out.2.1.c0;have y1:=h.out.2.1.c1;go_wp2_with fail;refine(xV7 h (KA.out _ h.out.2.2)).mono ?_;clear h x1 y1;rintro e w ⟨aa,na,ca,z,rfl,hz,h⟩;obtain⟨rfl,hna,hS⟩:z=0∧na=m1∧Sl w aa na L:=by
  rcases hz with⟨_,g1,g2,g3,_⟩|⟨g,_⟩
  · exact⟨g1,g2.trans HL.out,g3⟩
  · rw[hal2.out]at g;cases g
 subst hna;have HS:=zC hS;clear hz hS KC KA;go_wp2_with fail;go_loop [7] (fun iv=>∃k:Nat,iv=.int .i64 (k:Int)∧k≤na∧Hid (∀j,j<k→0≤L.getD j 0)) (fun iv=>na-(intOf iv).toNat)
 case atStart=>exact⟨0,rfl,xJ _,zC fun j hj=>by omega⟩
 case round=>
  obtain⟨k,rfl,hk,HN⟩:=hrel;by_cases hlt:k<na
  · have e2:(k:Int)<(na:Int):=by omega
    obtain⟨bb,off,rfl,hc⟩:=HS.out.2 yEn;have hck:=hc k hlt;have hg:=F5.out k hlt;obtain⟨x,hx⟩:∃x,x=L.getD k 0:=⟨_,rfl⟩
    rw[←hx]at hck hg;have HXX:=zC hx;clear hc hx;by_cases h0:x<0
    · have HG:=zC (hg h0)
      clear hg;have y0:=h.out.1.c0;have y3:=h.out.1.c1;have f0:=h.out.1.f 0;have f1:=h.out.1.f 1;go_wp2_with fail;have hR:=h.out.1.set none 0 0 none 0 0;have r0:=hR.c0;have r1:=hR.c1;exact zE (v:=.tuple #[.agg #[.slice none 0 0,.slice none 0 0],.int .i64 5]) yMm rfl xWl
    · clear hg
      go_wp2_with fail;go_round
      case rel=>exact⟨k+1,by go_num,by omega,zC fun j hj=>by
       by_cases e:j=k
       · rw[e,←HXX.out];omega
       · exact HN.out j yEn⟩
      case measure=>simp[intOf];omega
  · have e2:¬(k:Int)<(na:Int):=by omega
    obtain rfl:k=na:=by omega
    have F8':=zC (F8.out HN.out);have FY':=zC (FY.out HN.out);clear F5 F8 FY hlt hk;obtain⟨B,hB⟩:∃B,B=w.heap.size:=⟨_,rfl⟩
    have HB:=zC hB;go_wp2_with fail;go_loopw [8,9] (fun ov iv wr=>∃(i s:Nat) (av:Option Addr) (cv:Nat),ov=.slice av s cv∧iv=.int .i64 (i:Int)∧i≤k∧s≤4096∧Hid (s=(yF4 (L.take i)).sum)∧wr.ownsRow B 3 1 (.slice av s cv) s (yS9 (yE4 (whS 0 (yF4 (L.take i)))))∧Below B w wr) (fun _ iv _=>k-(intOf iv).toNat)
    case atStart=>exact⟨0,0,none,0,rfl,rfl,xJ _,xJ _,zC rfl,zT _ _ _ _,by rw[hB];exact zI _ _⟩
    case round=>
     obtain⟨i,s,av,cv,rfl,rfl,hi,hs4,HSS,ho,hb⟩:=hrel;by_cases hil:i<k
     · have e3:(i:Int)<(k:Int):=by omega
       obtain⟨bb,off,rfl,hc⟩:=HS.out.2 yEn;have hck:=(hb.cell (p:=⟨bb,off+i,none⟩) (by rw[hB];exact yU w _ (hc i hil))).trans (hc i hil);obtain⟨x,hx⟩:∃x:Nat,L.getD i 0=(x:Int):=⟨(L.getD i 0).toNat,by have:=HN.out i hil;omega⟩
       have hx2:=(HX.out i hil).2;have hsn:=yHg (l:=L) (k:=i) xUm hx;have hsum:(yF4 (L.take (i+1))).sum=s+x:=by rw[hsn,zA2,HSS.out];simp
       have hw0:=zC (show whS 0 (yF4 (L.take (i+1)))=whS 0 (yF4 (L.take i))++List.replicate x i from by rw[hsn,yWd,yIg,xP,HL.out,show 0+min i k=i by omega]);have hle:=yGg L (i+1);rw[hsum]at hle;have HC0:=hc i hil;rw[hx]at hck hx2 HC0;replace HC0:=zC HC0;have hw:IntKind.i64.wrap ((4096:Int)-(s:Int))=4096-(s:Int):=xJ0 _ yEn;have HSU:=zC hsum;clear hc hx hsn hsum;generalize whS 0 (yF4 (L.take i))=LI at*;by_cases hbig:(4096:Int)-(s:Int)<(x:Int)
       · have HG:=zC (F8'.out yEn)
         replace h:=xLg h hb zGn;clear ho hb;have y0:=h.out.1.c0;have y3:=h.out.1.c1;have f0:=h.out.1.f 0;have f1:=h.out.1.f 1;go_wp2_with fail;have hR:=h.out.1.set none 0 0 none 0 0;have r0:=hR.c0;have r1:=hR.c1;exact zE (v:=.tuple #[.agg #[.slice none 0 0,.slice none 0 0],.int .i64 8]) yMm rfl xWl
       · have lck:=yU wr _ hck
         have HH:=zC h;have HBB:=zC hb;clear h hb;go_wp2_with fail;go_loopw [8,10] (fun ov kv wz=>∃(p:Nat) (az:Option Addr) (cz:Nat),ov=.slice az (s+p) cz∧kv=.int .i64 (p:Int)∧p≤x∧wz.ownsRow B 3 1 (.slice az (s+p) cz) (s+p) (yS9 (yE4 (LI++List.replicate p i)))∧Below B w wz) (fun _ kv _=>x-(intOf kv).toNat)
         case atStart=>exact⟨0,av,cv,rfl,rfl,xJ _,by rw[List.replicate_zero,xL];exact ho,HBB.out⟩
         case round=>
          obtain⟨p,az,cz,rfl,rfl,hp,hoz,hbz⟩:=hrel;clear ho HBB hck;have hck:=(hbz.cell (p:=⟨bb,off+i,none⟩) (by rw[hB];exact yU w _ HC0.out)).trans HC0.out;by_cases hpx:p<x
          · have e4:(p:Int)<(x:Int):=by omega
            have ho2:=zC (hoz.alloc (.cells #[.int .i64 (i:Int)] 3));have hr5:=zC (yGf (yKb wr (i:Int)));have hsz5:=hbz.size;have HBZ:=zC hbz;clear hoz hbz;go_upto_region 20 with(at_builtin;refine yDf rfl (.tmp 61) (.tmp 63) 22 rfl B 3 (.int .i64 0) 8 Tryz.underlying22 xB4 rfl yCn _ (s+p) _ rfl ho2.out _ 1 1 (yS9 [(i:Int)]) rfl hr5.out (zUf _) yEn zZn ?_;intro av' cv' w3 hown3 hg3)
            have hb6:Below B w w3:=(HBZ.out.alloc yEn _).trans (yHf hg3 (fun g' hg'=>(ho2.out.lt g' hg').1) zZn);rw[←yJg]at hown3;clear hg3 ho2 hr5;go_wp2_with fail;go_roundw
            case rel=>exact⟨p+1,av',cv',rfl,by go_num,by omega,hown3,hb6⟩
            case measure=>simp[intOf];omega
          · have e4:¬(p:Int)<(x:Int):=by omega
            obtain rfl:p=x:=by omega
            rw[←hw0.out]at hoz;go_wp2_with fail;go_roundw
            case rel=>exact⟨i+1,s+p,az,cz,rfl,by go_num,by omega,by omega,zC HSU.out.symm,hoz,hbz⟩
            case measure=>simp[intOf];omega
     · have e3:¬(i:Int)<(k:Int):=by omega
       obtain rfl:i=k:=by omega
       have e5:L.take i=L:=yW xPm;rw[e5]at HSS ho;have hs:=HSS.out;subst hs;have hsl:=zC (zYf ho);have HRR:=zC (FY'.out hs4);have HRK:=zC (zJ8 hs4 (by rw[yIg,HL.out];exact hm4));replace h:=xLg h hb zGn;have KJ:=zC (fun w a c hs=>KI.out w a c hs hs4);clear ho hb KI;generalize (yF4 L).sum=s at*;generalize yE4 (whS 0 (yF4 L))=LL at*;have y0:=h.out.1.c0;have y3:=h.out.1.c1;have f0:=h.out.1.f 0;have f1:=h.out.1.f 1;go_wp2_with fail
       with_reducible refine(yWc h (KJ.out _ _ cv hsl.out)).mono ?_
       clear h y0 y3 f0 f1;rintro e w ⟨ar,nr,cr,br,mr,dr,rfl,h,hv,hc⟩;have y0:=h.out.1.c0;have y3:=h.out.1.c1;have f0:=h.out.1.f 0;have f1:=h.out.1.f 1;go_wp2_with fail;have hR:=h.out.1.set ar nr cr br mr dr;have r0:=hR.c0;have r1:=hR.c1;exact zE (v:=.tuple #[.agg #[.slice ar nr cr,.slice br mr dr],.int .i64 0]) yMm rfl (by
        rw[HRR.out];exact xM3 (r:=(some ([(s:Int)],LL),0)) h.out.1 h.out.2.2 yEn hv hc HRK.out)
theorem yQg {a1 b1:Option Addr} {n1 c1 m1 d1:Nat} {l:List Int} {es:List ByteArray} {W:World} {o:Option Ar} (h1:Av W a1 n1 c1 b1 m1 d1 l es o):Calls Tryz.prog 29 #[.agg #[.slice a1 n1 c1,.slice b1 m1 d1]] W (xL3 (whK o) W):=by
 by_cases hv:vcE o=0
 · obtain⟨q,rfl,hl⟩:=zUa hv
   rcases xN0 (q.2.all zWd)with ha|ha
   · exact yPg h1 hv hl ha
   · rw[yLg hl ha];exact yOg h1 hv ha
 · rw[zTa hv];exact yNg h1 hv
end
section
open Go.RowKit
theorem yRg {o:Option Ar} (h:vcE o≠0):unK o=(none,vcE o):=by
 cases o with
 |none=>rfl
 |some v=>
  unfold vcE at h ⊢;unfold unK;dsimp only at h ⊢
  by_cases hl:v.1.length≠1
  · rw[yA hl,yA hl]
  · rw[zY hl]at h;exact absurd rfl h
theorem ySg {q:Ar} (hl:q.1.length=1):unK (some q)=(some ([((unS q.2).length:Int)],unS q.2),0):=by
 unfold unK;dsimp only
 rw[zY (fun e=>e hl)]
theorem yTg (xs:List Int) (x:Int):fpS (xs.map S) (S x)=fpS xs x:=by
 induction xs with
 |nil=>rfl
 |cons y r ih=>
  show(if S y=S x then 0 else fpS (r.map S) (S x)+1)=if y=x then 0 else fpS r x+1
  by_cases h:y=x
  · rw[yA (by rw[h]),yA h]
  · rw[zY (fun e=>h (zZ6 e)),zY h,ih]
theorem yUg {xs:List Int} {i:Nat} (hi:i<xs.length):fpS xs (xs.getD i 0)=i↔xs.getD i 0∉xs.take i:=by
 have e:xs.getD i 0=xs[i]:=by rw[yJ,yM hi];rfl
 rw[e];constructor
 · intro h hm
   obtain⟨j,hj,e2⟩:=yP hm;rw[xP]at hj;rw[List.getElem_take]at e2;exact yOd (l:=xs) (x:=xs[i]) (k:=j) yEn (by rw[yM yEn,e2])
 · intro h
   exact yQd hi (yM hi) fun j hj e2=>h (by
    rw[yM yEn]at e2;injection e2 with e2
    rw[←e2];exact List.mem_take_iff_getElem.2 ⟨j,by omega,rfl⟩)
theorem yVg {xs:List Int} {i:Nat} (hi:i<xs.length):unS (xs.take (i+1))=unS (xs.take i)++(if fpS xs (xs.getD i 0)=i then[xs.getD i 0]else[]):=by
 rw[zK3 hi,yTd];congr 1
 by_cases h:fpS xs (xs.getD i 0)=i
 · rw[yA h,zY ((yUg hi).1 h)]
 · rw[zY h,yA (by
    by_cases hm:xs.getD i 0∈xs.take i
    · exact hm
    · exact absurd ((yUg hi).2 hm) h)]
theorem yWg {a1 b1:Option Addr} {n1 c1 m1 d1:Nat} {l:List Int} {es:List ByteArray} {W:World} {o:Option Ar} (h1:Av W a1 n1 c1 b1 m1 d1 l es o) (hv:vcE o≠0):
 Calls Tryz.prog 30 #[.agg #[.slice a1 n1 c1,.slice b1 m1 d1]] W (xL3 (none,vcE o) W):=by
 have KC:=zC (fun w (hb:Below W.heap.size W w)=>zKa (h1.below hb));generalize vcE o=k at*;have hk:(k != 0)=true:=by simpa using hv
 clear h1 hv;have h:=xO3 W a1 n1 c1 b1 m1 d1;go_in;have x1:=h.out.2.1.c0;have y1:=h.out.2.1.c1;go_wp2_with fail
 with_reducible refine(yMf h (KC.out _ h.out.2.2)).mono ?_
 clear h x1 y1;rintro e w ⟨rfl,h⟩;have y0:=h.out.1.c0;have y3:=h.out.1.c1;have f0:=h.out.1.f 0;have f1:=h.out.1.f 1;go_wp2_with fail;have hR:=h.out.1.set none 0 0 none 0 0;have r0:=hR.c0;have r1:=hR.c1;exact zE (v:=.tuple #[.agg #[.slice none 0 0,.slice none 0 0],.int .i64 k]) yNm rfl (xN3 h.out.1 h.out.2.2 yEn)
theorem yXg {a1 b1:Option Addr} {n1 c1 m1 d1:Nat} {l:List Int} {es:List ByteArray} {W:World} {q:Ar} (h1:Av W a1 n1 c1 b1 m1 d1 l es (some q)) (hv:vcE (some q)=0) (hlq:q.1.length=1):
 Calls Tryz.prog 30 #[.agg #[.slice a1 n1 c1,.slice b1 m1 d1]] W (xL3 (some ([((unS q.2).length:Int)],unS q.2),0) W):=by
 have KC:=zC (fun w (hb:Below W.heap.size W w)=>zKa (h1.below hb));rw[hv]at KC;have hm4:=h1.mlen.2.2;have hml:=h1.mlen.1;have HR:=zC (zK8 h1.i.rok zBn);have HS:=zC (show St W b1 m1 (q.2.map S)from by have:=h1.v.t;rwa [h1.i.2.1]at this);obtain⟨L,hL⟩:∃L,L=q.2:=⟨_,rfl⟩
 rw[←hL]at HR HS hml;rw[←hL];have KF:=zC (fun i w (hb:Below W.heap.size W w)=>zGa b1 m1 d1 (L.map S) (S (L.getD i 0)) w (HS.out.below hb) yEn);have HL:=zC hml.symm;clear h1 hv hlq hml hL;have h:=xO3 W a1 n1 c1 b1 m1 d1;go_in;have x1:=h.out.2.1.c0;have y1:=h.out.2.1.c1;go_wp2_with fail
 with_reducible refine(yMf h (KC.out _ h.out.2.2)).mono ?_
 clear h x1 y1;rintro e w ⟨rfl,h⟩;have HLV:=zC h;obtain⟨B,hB⟩:∃B,B=w.heap.size:=⟨_,rfl⟩
 go_wp2_with fail;go_loopw [5,6] (fun ov iv wr=>∃(i s:Nat) (av:Option Addr) (cv:Nat),ov=.slice av s cv∧iv=.int .i64 (i:Int)∧i≤m1∧s≤i∧Hid (s=(unS (L.take i)).length)∧wr.ownsRow B 9 1 (.slice av s cv) s (zTf ((unS (L.take i)).map S))∧Below B w wr) (fun _ iv _=>m1-(intOf iv).toNat)
 case atStart=>exact⟨0,0,none,0,rfl,rfl,xJ _,xJ _,zC rfl,zT _ _ _ _,by rw[hB];exact zI _ _⟩
 case round=>
  obtain⟨i,s,av,cv,rfl,rfl,hi,hsi,HSS,ho,hb⟩:=hrel;clear h;have h:=xLg HLV.out hb zGn;have hBW:W.heap.size≤B:=by rw[hB];exact HLV.out.out.2.2.size
  have hsz:=hb.size;by_cases hil:i<m1
  · have e3:(i:Int)<(m1:Int):=by omega
    obtain⟨bb,off,rfl,hc⟩:=HS.out.2 yEn;have hck:=(h.out.2.2.cell (p:=⟨bb,off+i,none⟩) (yU W _ (hc i hil))).trans (hc i hil);rw[yE8 xUm]at hck;have KQ:=KF.out i wr h.out.2.2;have HU:=zC (yVg (xs:=L) (i:=i) xUm);rw[yTg]at KQ;obtain⟨x,hx⟩:∃x,x=L.getD i 0:=⟨_,rfl⟩
    rw[←hx]at hck KQ HU;obtain⟨f,hf⟩:∃f,f=fpS L x:=⟨_,rfl⟩
    rw[←hf]at KQ HU;have lck:=yU wr _ hck;have y1:=h.out.2.1.c1;have l1:=h.out.2.1.lt;have HQ:Hid (∀z,Below wr.heap.size wr z→Calls Tryz.prog 71 #[.slice (some ⟨bb,off,none⟩) m1 d1,.string (S x)] z fun e w'=>e=.returned (.int .i64 (f:Int))∧Below wr.heap.size wr w'):=zC fun z hz=>by
     have k5:=KF.out i z (h.out.2.2.trans (hz.mono h.out.2.2.size));rw[yTg,←hx,←hf]at k5;exact k5.mono fun e w' k=>⟨k.1,by rw[←k.2];exact hz⟩
    have HO:=zC ho;have HBB:=zC hb;clear hc hx hf KQ ho hb h;obtain⟨tx,htx⟩:∃tx,tx=S x:=⟨_,rfl⟩
    rw[←htx]at hck HQ;have HTX:=zC htx;clear htx;have hq:Below wr.heap.size wr wr:=zI _ _;have hqz:=hq.size;by_cases hfi:f=i
    · have e4:((f:Int)==(i:Int))=true:=by rw[hfi];exact zH2 _
      go_wp2_with fail;go_region_law (go_simp;go_at_call 71;refine(HQ.out _ xLl).mono ?_;rintro e wa ⟨rfl,hq⟩;have hqz:=hq.size)
      all_goals
       have ho2:=zC ((zLe HO.out (hq.mono yEn)).alloc (.cells #[.string tx] 9));have hr5:=zC (yGf (zF3 wa tx));have hb5:=zC (HBB.out.trans (hq.mono yEn));have hsz5:=hb5.out.size;have hck5:=(hq.cell (p:=⟨bb,off+i,none⟩) lck).trans hck;have y5:=(hq.cell (p:=⟨W.heap.size,1,none⟩) l1).trans y1;clear hq hck y1 HO;go_upto_region 7 with(at_builtin;refine yDf rfl (.tmp 30) (.tmp 36) 23 rfl B 9 (.string ⟨#[]⟩) 16 Tryz.underlying23 xC4 rfl yCn _ s _ rfl ho2.out _ 1 1 (zTf [tx]) rfl hr5.out (zVf _) yEn zZn ?_;intro av' cv' w3 hown3 hg3)
       have hb6:Below B w w3:=(hb5.out.alloc yEn _).trans (yHf hg3 (fun g' hg'=>(ho2.out.lt g' hg').1) zZn);rw[zSg]at hown3;clear hg3 ho2 hr5;go_wp2_with fail;go_roundw
       case rel=>exact⟨i+1,s+1,av',cv',rfl,by go_num,by omega,by omega,zC xEm,by rw[HU.out,yA hfi,zN];rw[List.map_singleton,←HTX.out];exact hown3,hb6⟩
       case measure=>simp[intOf];omega
    · have e4:((f:Int)==(i:Int))=false:=zT0.2 yEn
      go_wp2_with fail;go_region_law (go_simp;go_at_call 71;refine(HQ.out _ xLl).mono ?_;rintro e wa ⟨rfl,hq⟩;have hqz:=hq.size)
      all_goals
       have ho5:=zLe HO.out (hq.mono yEn);have hb5:=HBB.out.trans (hq.mono yEn);clear hq HO HBB;go_wp2_with fail;go_roundw
       case rel=>exact⟨i+1,s,av,cv,rfl,by go_num,by omega,by omega,zC (by rw[HU.out,zY hfi,xL];exact HSS.out),by rw[HU.out,zY hfi,xL];exact ho5,hb5⟩
       case measure=>simp[intOf];omega
  · have e3:¬(i:Int)<(m1:Int):=by omega
    obtain rfl:i=m1:=by omega
    have e5:L.take i=L:=yW xPm;rw[e5]at HSS ho;have hs:=HSS.out;subst hs;have hst:=zC (zZf ho);have hcp:=zC (xE8 ho);clear ho hb;have y1:=h.out.2.1.c1;generalize hUL:unS L=UL at*;have y0:=h.out.1.c0;have y3:=h.out.1.c1;have f0:=h.out.1.f 0;have f1:=h.out.1.f 1;have l0:=h.out.1.lt;go_wp2_with fail;have hA:Below wr.heap.size wr (wr.alloc (.cells #[.int .i64 (UL.length:Int)] 3)):=(zI _ _).alloc (zR _) _;have hx:=xY2 wr (UL.length:Int);have hst2:=hst.out.below hA;replace h:=xVf h hA;have hR:=h.out.1.set (some ⟨wr.heap.size,0,none⟩) 1 1 av UL.length cv;have r0:=hR.c0;have r1:=hR.c1;have hE:=xM3 (a:=some ⟨wr.heap.size,0,none⟩) (n:=1) (c:=1) (b:=av) (m:=UL.length) (d:=cv) (r:=(some ([(UL.length:Int)],UL),0)) h.out.1 h.out.2.2 yEn ⟨hx,hst2,by omega⟩ ⟨zR _,by unfold maxLen;omega,hcp.out.1,hcp.out.2⟩ HR.out;rw[yG (hn:=l0),yG (hn:=by simpa using l0)]at hE r0 r1;exact zE (v:=.tuple #[.agg #[.slice (some ⟨wr.heap.size,0,none⟩) 1 1,.slice av UL.length cv],.int .i64 0]) yNm rfl hE
theorem yYg {a1 b1:Option Addr} {n1 c1 m1 d1:Nat} {l:List Int} {es:List ByteArray} {W:World} {o:Option Ar} (h1:Av W a1 n1 c1 b1 m1 d1 l es o):Calls Tryz.prog 30 #[.agg #[.slice a1 n1 c1,.slice b1 m1 d1]] W (xL3 (unK o) W):=by
 by_cases hv:vcE o=0
 · obtain⟨q,rfl,hl⟩:=zUa hv
   rw[ySg hl];exact yXg h1 hv hl
 · rw[yRg hv];exact yWg h1 hv
end
section
open Go.RowKit
theorem yZg (o:Option Ar):fdK o none=(none,1):=by cases o<;>rfl
theorem xAg {o:Option Ar} {r:Ar} (h:vcE o≠0):fdK o (some r)=(none,vcE o):=by
 cases o with
 |none=>rfl
 |some v=>
  unfold vcE at h ⊢;unfold fdK;dsimp only at h ⊢
  by_cases hl:v.1.length≠1
  · rw[yA hl,yA hl]
  · rw[zY hl]at h;exact absurd rfl h
theorem xBg {q r:Ar} (hl:q.1.length=1):fdK (some q) (some r)=(some (r.1,r.2.map fun x=>(fpS q.2 x:Int)),0):=by
 unfold fdK;dsimp only
 rw[zY (fun e=>e hl)]
theorem xCg (a b:Option Addr) (n c m d:Nat):∀w:World,(Instr.field 25 (.agg #[.slice a n c,.slice b m d]) 1).run Tryz.prog w=.ok (.slice b m d) w:=fun _=>by kernel_rfl
theorem xDg {L M:List Int} {i f:Nat} (hi:i<M.length) (hf:f=fpS L (M.getD i 0)):yS9 ((M.take (i+1)).map fun x=>(fpS L x:Int))=yS9 ((M.take i).map fun x=>(fpS L x:Int))++yS9 [(f:Int)]:=by
 rw[zK3 hi,zN,hf];simp[yS9]
theorem xEg {L M:List Int} (h:L.length≤100000) {j:Nat}:I64 ((M.map fun x=>(fpS L x:Int)).getD j 0):=by
 rcases zM1 j (M.map fun x=>(fpS L x:Int)).length with hj|hj
 · rw[yJ,yM hj,yS,List.getElem_map]
   have:=yMd L (M[j]' zPn);unfold I64;omega
 · rw[yJ,yW0 hj]
   show I64 0;unfold I64;omega
theorem xFg {a1 b1 a2 b2:Option Addr} {n1 c1 m1 d1 n2 c2 m2 d2:Nat} {l m:List Int} {es fs:List ByteArray} {W:World} (h2:Av W a2 n2 c2 b2 m2 d2 m fs none):
 Calls Tryz.prog 36 #[.agg #[.slice a1 n1 c1,.slice b1 m1 d1],.agg #[.slice a2 n2 c2,.slice b2 m2 d2]] W (xL3 (none,1) W):=by
 have KU:=zC (fun w (hb:Below W.heap.size W w)=>zM4 (h2.below hb));clear h2;have h:=xP3 W a1 n1 c1 b1 m1 d1 a2 n2 c2 b2 m2 d2;go_in;have x2:=h.out.2.1.c0;have y2:=h.out.2.1.c1;go_wp2_with fail
 with_reducible refine(yMf h (KU.out _ h.out.2.2.2)).mono ?_
 clear h x2 y2;rintro e w ⟨rfl,h⟩;have y0:=h.out.1.c0;have y3:=h.out.1.c1;have f0:=h.out.1.f 0;have f1:=h.out.1.f 1;go_wp2_with fail;have hR:=h.out.1.set none 0 0 none 0 0;have r0:=hR.c0;have r1:=hR.c1;exact zE (v:=.tuple #[.agg #[.slice none 0 0,.slice none 0 0],.int .i64 1]) yOm rfl (xN3 h.out.1 h.out.2.2.2 yEn)
theorem xGg {a1 b1 a2 b2:Option Addr} {n1 c1 m1 d1 n2 c2 m2 d2:Nat} {l m:List Int} {es fs:List ByteArray} {W:World} {o:Option Ar} {r:Ar} (h1:Av W a1 n1 c1 b1 m1 d1 l es o) (h2:Av W a2 n2 c2 b2 m2 d2 m fs (some r)) (hv:vcE o≠0):
 Calls Tryz.prog 36 #[.agg #[.slice a1 n1 c1,.slice b1 m1 d1],.agg #[.slice a2 n2 c2,.slice b2 m2 d2]] W (xL3 (none,vcE o) W):=by
 have KU:=zC (fun w (hb:Below W.heap.size W w)=>zM4 (h2.below hb));have KC:=zC (fun w (hb:Below W.heap.size W w)=>zKa (h1.below hb));generalize vcE o=k at*;have hk:(k != 0)=true:=by simpa using hv
 clear h1 h2 hv;have h:=xP3 W a1 n1 c1 b1 m1 d1 a2 n2 c2 b2 m2 d2;go_in;have x2:=h.out.2.1.c0;have y2:=h.out.2.1.c1;go_wp2_with fail
 with_reducible refine(yMf h (KU.out _ h.out.2.2.2)).mono ?_
 clear h x2 y2;rintro e w ⟨rfl,h⟩;have x1:=h.out.2.2.1.c0;have y1:=h.out.2.2.1.c1;go_wp2_with fail
 with_reducible refine(yMf h (KC.out _ h.out.2.2.2)).mono ?_
 clear h x1 y1;rintro e w ⟨rfl,h⟩;have y0:=h.out.1.c0;have y3:=h.out.1.c1;have f0:=h.out.1.f 0;have f1:=h.out.1.f 1;go_wp2_with fail;have hR:=h.out.1.set none 0 0 none 0 0;have r0:=hR.c0;have r1:=hR.c1;exact zE (v:=.tuple #[.agg #[.slice none 0 0,.slice none 0 0],.int .i64 k]) yOm rfl (xN3 h.out.1 h.out.2.2.2 yEn)
theorem xHg {a1 b1 a2 b2:Option Addr} {n1 c1 m1 d1 n2 c2 m2 d2:Nat} {l m:List Int} {es fs:List ByteArray} {W:World} {q r:Ar} (h1:Av W a1 n1 c1 b1 m1 d1 l es (some q)) (h2:Av W a2 n2 c2 b2 m2 d2 m fs (some r)) (hv:vcE (some q)=0) (hlq:q.1.length=1):
 Calls Tryz.prog 36 #[.agg #[.slice a1 n1 c1,.slice b1 m1 d1],.agg #[.slice a2 n2 c2,.slice b2 m2 d2]] W (xL3 (some (r.1,r.2.map fun x=>(fpS q.2 x:Int)),0) W):=by
 have KU:=zC (fun w (hb:Below W.heap.size W w)=>zM4 (h2.below hb));have KC:=zC (fun w (hb:Below W.heap.size W w)=>zKa (h1.below hb));rw[hv]at KC;have hm4:=h1.mlen.2.2;have hm5:=h2.mlen.2.2;have hml:=h1.mlen.1;have hmm:=h2.mlen.1;have HR:=zC (zL8 (q:=q) h2.i.rok zBn);have HS:=zC (show St W b1 m1 (q.2.map S)from by have:=h1.v.t;rwa [h1.i.2.1]at this);have HT:=zC (show St W b2 m2 (r.2.map S)from by have:=h2.v.t;rwa [h2.i.2.1]at this);have HU:=zC (And.intro h2.v.s (And.intro h2.c.1 (And.intro h2.c.2 (And.intro h2.fst h2.v.mm))));obtain⟨L,hL⟩:∃L,L=q.2:=⟨_,rfl⟩
 obtain⟨M,hM⟩:∃M,M=r.2:=⟨_,rfl⟩
 rw[←hL,←hM]at HR;rw[←hL]at HS hml;rw[←hM]at HT hmm;rw[←hL,←hM];have KF:=zC (fun i w (hb:Below W.heap.size W w)=>zGa b1 m1 d1 (L.map S) (S (M.getD i 0)) w (HS.out.below hb) yEn);have KI:=zC (fun w a c (hs:Sl w a m2 (M.map fun x=>(fpS L x:Int)))=>zLa a m2 c (M.map fun x=>(fpS L x:Int)) w hs (fun j _=>xEg yEn) yEn);have HL:=zC hml.symm;have HM:=zC hmm.symm;have HB:=zC (fun i=>(show fpS L (M.getD i 0)≤4096 from by have:=yMd L (M.getD i 0);omega));clear h1 h2 hv hlq hml hmm hL hM;have h:=xP3 W a1 n1 c1 b1 m1 d1 a2 n2 c2 b2 m2 d2;go_in;have x2:=h.out.2.1.c0;have y2:=h.out.2.1.c1;go_wp2_with fail
 with_reducible refine(yMf h (KU.out _ h.out.2.2.2)).mono ?_
 clear h x2 y2;rintro e w ⟨rfl,h⟩;have x1:=h.out.2.2.1.c0;have y1:=h.out.2.2.1.c1;go_wp2_with fail
 with_reducible refine(yMf h (KC.out _ h.out.2.2.2)).mono ?_
 clear h x1 y1;rintro e w ⟨rfl,h⟩;have HLV:=zC h;obtain⟨B,hB⟩:∃B,B=w.heap.size:=⟨_,rfl⟩
 go_wp2_with fail;go_loopw [7,8] (fun ov iv wr=>∃(i:Nat) (av:Option Addr) (cv:Nat),ov=.slice av i cv∧iv=.int .i64 (i:Int)∧i≤m2∧wr.ownsRow B 3 1 (.slice av i cv) i (yS9 ((M.take i).map fun x=>(fpS L x:Int)))∧Below B w wr) (fun _ iv _=>m2-(intOf iv).toNat)
 case atStart=>exact⟨0,none,0,rfl,rfl,xJ _,zT _ _ _ _,by rw[hB];exact zI _ _⟩
 case round=>
  obtain⟨i,av,cv,rfl,rfl,hi,ho,hb⟩:=hrel;clear h;have h:=xLg HLV.out hb zGn;have hBW:W.heap.size≤B:=by rw[hB];exact HLV.out.out.2.2.2.size
  have hsz:=hb.size;by_cases hil:i<m2
  · have e3:(i:Int)<(m2:Int):=by omega
    obtain⟨bb,off,rfl,hc⟩:=HT.out.2 yEn;have hck:=(h.out.2.2.2.cell (p:=⟨bb,off+i,none⟩) (yU W _ (hc i hil))).trans (hc i hil);rw[yE8 (by rw[HM.out];exact hil)]at hck;have hf4:=HB.out i;obtain⟨f,hf⟩:∃f,f=fpS L (M.getD i 0):=⟨_,rfl⟩
    have HSN:=zC (xDg (L:=L) (M:=M) (i:=i) (f:=f) (by rw[HM.out];exact hil) hf);obtain⟨tx,htx⟩:∃tx,tx=S (M.getD i 0):=⟨_,rfl⟩
    rw[←htx]at hck;rw[←hf]at hf4;have y1:=h.out.2.2.1.c1;have y2:=h.out.2.1.c1;have l1:=h.out.2.2.1.lt;have l2:=h.out.2.1.lt;have HQ:Hid (∀z,Below wr.heap.size wr z→Calls Tryz.prog 71 #[.slice b1 m1 d1,.string tx] z fun e w'=>e=.returned (.int .i64 (f:Int))∧Below wr.heap.size wr w'):=zC fun z hz=>by
     have k5:=KF.out i z (h.out.2.2.2.trans (hz.mono h.out.2.2.2.size));rw[yTg,←htx,←hf]at k5;exact k5.mono fun e w' k=>⟨k.1,by rw[←k.2];exact hz⟩
    have HO:=zC ho;have HBB:=zC hb;clear hc htx hf ho hb h;have hq:Below wr.heap.size wr wr:=zI _ _;have hqz:=hq.size;go_wp2_with fail;go_region_law (first|(go_simp;go_at_call 71;refine(HQ.out _ xLl).mono ?_;rintro e wq ⟨rfl,hq⟩;have hqz:=hq.size)|(refine xOg wq B (.tmp 26) (.tmp 35) av i cv _ (f:Int) rfl rfl rfl rfl rfl rfl rfl rfl (zLe HO.out (hq.mono yEn)) yEn yEn ?_;intro av' cv' w9 hown9 hg9 _))
    all_goals
     have hb9:Below B wq w9:=xNg (zLe HO.out (hq.mono yEn)) hg9 yEn;have hb10:=(HBB.out.trans (hq.mono yEn)).trans hb9;rw[show[(.int .i64 (f:Int):Value)]=yS9 [(f:Int)]from rfl,←HSN.out]at hown9;clear hq hg9 hb9 HO HBB hck y1 y2;go_wp2_with fail;go_roundw
     case rel=>exact⟨i+1,av',cv',rfl,by go_num,by omega,hown9,hb10⟩
     case measure=>simp[intOf];omega
  · have e3:¬(i:Int)<(m2:Int):=by omega
    obtain rfl:i=m2:=by omega
    have e5:M.take i=M:=yW (by rw[HM.out];exact zR _);rw[e5]at ho;have hsl:=zC (zYf ho);clear ho hb;have x2:=h.out.2.1.c0;have y2:=h.out.2.1.c1;have l2:=h.out.2.1.lt;have HQ:Hid (∀z,Below wr.heap.size wr z→Calls Tryz.prog 70 #[.slice av i cv] z fun e w'=>∃a n c b m d,e=.returned (.agg #[.slice a n c,.slice b m d])∧Vl w' a n b m [(i:Int)] ((M.map fun x=>(fpS L x:Int)).map S)∧Cp n c m d∧Below wr.heap.size wr w'):=zC fun z hz=>(KI.out z av cv (hsl.out.below hz)).mono fun e w' k=>by
     obtain⟨a,n,c,b,m,d,k1,k2,k3,k4⟩:=k;exact⟨a,n,c,b,m,d,k1,k2,k3,hz.trans (k4.mono hz.size)⟩
    have HH:=zC h;clear KI h;have hq:Below wr.heap.size wr wr:=zI _ _;have hqz:=hq.size;go_wp2_with fail;go_region_law (go_simp;go_at_call 70;refine(HQ.out _ xLl).mono ?_;rintro e wa ⟨ar,nr,cr,br,mr,dr,rfl,hv,hcp,hq⟩;have hfd:=xCg ar br nr cr mr dr;have hqz:=hq.size;have x5:=(hq.cell (p:=⟨W.heap.size+1,0,none⟩) l2).trans x2;have hh:=xLg HH.out hq (zR _);have y0:=hh.out.1.c0;have y3:=hh.out.1.c1;have f0:=hh.out.1.f 0;have f1:=hh.out.1.f 1)
    all_goals
     have h:=xLg HH.out hq (zR _);have hmr:mr=i:=by have:=hv.t.1;rw[zD0,zD0,HM.out]at this;exact this.symm
     have hV:Vl wa a2 n2 br mr (TS (some (r.1,M.map fun x=>(fpS L x:Int)))).1 (TS (some (r.1,M.map fun x=>(fpS L x:Int)))).2:=⟨by rw[show(TS (some (r.1,M.map fun x=>(fpS L x:Int)))).1=m from HU.out.2.2.2.1];exact HU.out.1.below h.out.2.2.2,hv.t,by omega⟩
     go_wp2_with fail;have hR:=h.out.1.set a2 n2 c2 br mr dr;have r0:=hR.c0;have r1:=hR.c1;exact zE (v:=.tuple #[.agg #[.slice a2 n2 c2,.slice br mr dr],.int .i64 0]) yOm rfl (xM3 (r:=(some (r.1,M.map fun x=>(fpS L x:Int)),0)) h.out.1 h.out.2.2.2 yEn hV ⟨HU.out.2.1,HU.out.2.2.1,hcp.3,hcp.4⟩ HR.out)
theorem xIg {a1 b1 a2 b2:Option Addr} {n1 c1 m1 d1 n2 c2 m2 d2:Nat} {l m:List Int} {es fs:List ByteArray} {W:World} {o p:Option Ar} (h1:Av W a1 n1 c1 b1 m1 d1 l es o) (h2:Av W a2 n2 c2 b2 m2 d2 m fs p):Calls Tryz.prog 36 #[.agg #[.slice a1 n1 c1,.slice b1 m1 d1],.agg #[.slice a2 n2 c2,.slice b2 m2 d2]] W (xL3 (fdK o p) W):=by
 cases p with
 |none=>rw[yZg];exact xFg (l:=l) (es:=es) h2
 |some r=>
  by_cases hv:vcE o=0
  · obtain⟨q,rfl,hl⟩:=zUa hv
    rw[xBg hl];exact xHg h1 h2 hv hl
  · rw[xAg hv];exact xGg h1 h2 hv
end
end Go.Proofs.YtcfbjdplhgdpfaaGreatDoor

import Derived.Test.YtcfbjdplhgdpfaaGreatDoorTay
set_option maxHeartbeats 3200000
set_option maxRecDepth 100000
namespace Go.Proofs.YtcfbjdplhgdpfaaGreatDoor
set_option linter.unusedVariables false
set_option linter.unusedSimpArgs false
theorem zSn {P:Prop}(h:P:=by rw[hal];simp):P:=h
theorem xTm {P:Prop}(h:P:=by rw[HL.out];exact hlt):P:=h
theorem xMm {P:Prop}(h:P:=by have:=h1.mlen.2.2;omega):P:=h
theorem xKm {P:Prop}(h:P:=by rw[HL.out]at hj;exact hj):P:=h
theorem zRm {P:Prop}(h:P:=by simp[results,Tryz.results72,go_sem,r0,r1]):P:=h
theorem zQm {P:Prop}(h:P:=by simp[results,Tryz.results51,go_sem,r0,r1]):P:=h
theorem xVl {P:Prop}(h:P:=by have:=h1.v;rw[h1.i.2.1]at this;exact this.below hb):P:=h
abbrev yZ1:=@List.map_map
section
open Go.RowKit
theorem xG7 (l xs:List Int):flM l (xs.map S)=(flM l xs).map S:=by
 unfold flM;rw[List.map_filterMap,zD0];congr 1
 funext j
 rw[xS0]
theorem xH7 {α:Type} {l:List Int} {es:List α} {x:α} (h:x∈flM l es):x∈es:=by
 unfold flM at h;obtain⟨j,_,hj⟩:=List.mem_filterMap.1 h;exact yL1 hj
theorem xI7 {q:Ar} (h:Rok (some q)) (hf:Fits q.1 q.2):Rok (some (q.1.reverse,flM q.1 q.2)):=
 ⟨yE9.2 hf.turned.1,hf.turned.2,fun x hx=>h.2.2 x (xH7 hx)⟩
theorem xJ7 {l:List Int} {es:List ByteArray} (hf:Fits l es) {k:Nat} (hk:k<es.length):
 plB l.reverse k=true∧plO l.reverse k=plL l.reverse k∧ofB l (plL l.reverse k).reverse=true∧
  ∃o:Nat,ofV l (plL l.reverse k).reverse=(o:Int)∧o<es.length∧(flM l es).getD k ByteArray.empty=es.getD o ByteArray.empty:=by
 have ht:=hf.turned;have hp:0<pr l:=by have:=hf.2;omega
 have ha:=(hf.1.pos hp).turned;obtain⟨h1,h2⟩:=xQh (yE9.2 ht.1) (k:=(k:Int)) yEn (by rw[xT9,←hf.2];omega);obtain⟨t1,t2⟩:=xV9 ha (k:Int);rw[xT9,←hf.2]at t2;have hin:=xU9 ha (k:Int);rw[yX1]at hin;have hb:ofB l (plL l.reverse k).reverse=true:=by
  unfold ofB;rw[yI0 (yE9.2 hf.1),yI0 (by rw[yY1,xB9,yY1]),hin];rfl
 have hv:ofV l (plL l.reverse k).reverse=tno l.reverse k:=by
  unfold ofV;rw[yA hb];unfold tno;rw[yX1,yY1]
 refine⟨h1,h2,hb,(tno l.reverse k).toNat,by rw[hv];omega,by omega,?_⟩;rw[yJ,yJ,(zAd hf).2 k hk]
theorem xK7 {a1 b1:Option Addr} {n1 c1 m1 d1:Nat} {l:List Int} {es:List ByteArray} {W:World} (h1:Av W a1 n1 c1 b1 m1 d1 l es none):
 Calls Tryz.prog 51 #[.agg #[.slice a1 n1 c1,.slice b1 m1 d1]] W (xL3 (none,1) W):=by
 have KV:=zC (fun w (hb:Below W.heap.size W w)=>yTc (h1.below hb));clear h1;have h:=xO3 W a1 n1 c1 b1 m1 d1;go_in;have x1:=h.out.2.1.c0;have y1:=h.out.2.1.c1;go_wp2_with fail
 with_reducible refine(yMf h (KV.out _ h.out.2.2)).mono ?_
 clear h x1 y1;rintro e w ⟨rfl,h⟩;have y0:=h.out.1.c0;have y3:=h.out.1.c1;have f0:=h.out.1.f 0;have f1:=h.out.1.f 1;go_wp2_with fail;have hR:=h.out.1.set none 0 0 none 0 0;have r0:=hR.c0;have r1:=hR.c1;exact zE (v:=.tuple #[.agg #[.slice none 0 0,.slice none 0 0],.int .i64 1]) zQm rfl (xN3 h.out.1 h.out.2.2 yEn)
theorem xL7 {a1 b1:Option Addr} {n1 c1 m1 d1:Nat} {l:List Int} {es:List ByteArray} {W:World} {q:Ar} (h1:Av W a1 n1 c1 b1 m1 d1 l es (some q)):
 Calls Tryz.prog 51 #[.agg #[.slice a1 n1 c1,.slice b1 m1 d1]] W (xL3 (some (q.1.reverse,flM q.1 q.2),0) W):=by
 have KV:=zC (fun w (hb:Below W.heap.size W w)=>yTc (h1.below hb));have hlen:=h1.v.t.1;have hf:Fits l es:=by
  have hf:=h1.fits;exact⟨by rw[←h1.fst];exact hf.1,by rw[hlen];exact h1.mlen.2.1⟩
 have hm4:=h1.mlen.2.2;have hn3:=h1.n3;have hnl:=h1.v.s.1;have hEs:(TS (some (q.1.reverse,flM q.1 q.2))).2=flM l es:=by
  rw[←h1.fst,h1.i.2.1];exact(xG7 _ _).symm
 have hSh:(TS (some (q.1.reverse,flM q.1 q.2))).1=l.reverse:=by rw[←h1.fst];rfl
 have KE:=zC (And.intro hEs (And.intro hSh ((zAd hf).1.trans hlen)));have KF:=zC (fun k (hk:k<m1)=>xJ7 hf (k:=k) (by rw[hlen];exact hk));have KC:=zC (fun w (hb:Below W.heap.size W w)=>xJ3 a1 n1 c1 l w (h1.v.s.below hb) yEn);have KT:=zC (fun w (hb:Below W.heap.size W w)=>h1.v.below hb);have HR:=zC (xI7 h1.i.rok h1.fits);have HN:=zC hnl;have HL:=zC hlen;have hmk:=xD4 m1 yEn;clear h1 hEs hSh hlen hf hnl;have h:=xO3 W a1 n1 c1 b1 m1 d1;go_in;have x1:=h.out.2.1.c0;have y1:=h.out.2.1.c1;go_wp2_with fail
 with_reducible refine(yMf h (KV.out _ h.out.2.2)).mono ?_
 clear h x1 y1;rintro e w ⟨rfl,h⟩;have x1:=h.out.2.1.c0;have y1:=h.out.2.1.c1;go_wp2_with fail;refine(KC.out _ h.out.2.2).mono ?_;clear x1 y1;rintro e w1 ⟨ta,tc,rfl,ho,hb⟩;go_wp2_with fail;refine(yDb ho yEn).mono ?_;rintro e w2 ⟨rfl,ho2,hg⟩;have hb2:Below w.heap.size w w2:=hb.trans (yHf hg (fun g hg'=>(ho.lt g hg').1) hb.size);replace h:=xVf h hb2;have HO:=zC ho2;clear ho hb hg ho2 hb2 KC KV;have x1:=h.out.2.1.c0;have y1:=h.out.2.1.c1;go_wp2_with fail;have hR0:=Sr.made w2 m1;have hbA:Below w2.heap.size w2 (w2.alloc (.cells (madeCells #[.string ⟨#[]⟩] m1) 9)):=(zI _ _).alloc (zR _) _;clear hmk x1 y1;go_loopw [26] (fun i wr=>∃(k:Nat) (F:Nat→ByteArray),i=.int .i64 k∧k≤m1∧Sr wr w2.heap.size m1 F∧Hid (∀j,j<k→F j=(flM l es).getD j ByteArray.empty)∧Below w2.heap.size w2 wr) (fun i _=>m1-(intOf i).toNat)
 case atStart=>exact⟨0,_,rfl,by omega,hR0,zC (fun j hj=>by omega),hbA⟩
 case round=>
  obtain⟨k,F,rfl,hk,hRo,HF,hbq⟩:=hrel;clear hR0 hbA;have hr:=xVf h hbq;by_cases hlt:k<m1
  · have e2:(k:Int)<(m1:Int):=by omega
    have HP:=zC (xT3 ta n1 tc l.reverse (k:Int) wr (zYf (zLe HO.out hbq)) yEn);unfold xS3 xR3 at HP;obtain⟨q1,q2,q3,off,q4,q5,q6⟩:=KF.out k hlt;rw[q1,q2]at HP;rw[HL.out]at q5;have hpl:(plL l.reverse (k:Int)).length=n1:=by rw[xB9,yY1,HN.out]
    obtain⟨p,hp⟩:∃p,p=plL l.reverse (k:Int):=⟨_,rfl⟩
    rw[←hp]at HP q3 q4 hpl;rw[hpl]at HP;have hV:=KT.out wr hr.out.2.2;obtain⟨bb,bo,rfl,hc⟩:=hV.t.2 yEn;obtain⟨s,hs⟩:∃s,s=es.getD off ByteArray.empty:=⟨_,rfl⟩
    have hcs:=hc off q5;rw[←hs]at hcs q6;have HS:=zC (And.intro q6 (And.intro q3 q4));have HV:=zC hV.s;have e3:(off:Int)<(m1:Int):=by omega
    have lc:bb<wr.heap.size:=yU wr _ hcs;clear q1 q2 q3 q4 q5 q6 hp hpl hc hV hs;go_wp2_with fail;refine HP.out.mono ?_;rintro e w4 ⟨pa,pc,rfl,hpo,hb4⟩;have hpo':=hpo;clear hpo;go_wp2_with fail;refine(yDb hpo' yEn).mono ?_;rintro e w5 ⟨rfl,hpo2,hg5⟩;have hb5:Below wr.heap.size wr w5:=hb4.trans (yHf hg5 (fun g hg'=>(hpo'.lt g hg').1) hb4.size);have h5:=xVf hr hb5;have x1:=h5.out.2.1.c0;have y1:=h5.out.2.1.c1;have HQ:=xGh a1 pa n1 c1 n1 pc l p.reverse w5 (HV.out.below hb5) (zYf hpo2) yEn;unfold xFh at HQ;rw[HS.out.2.1,HS.out.2.2]at HQ;replace HQ:=zC HQ;clear hpo' hg5 hb4 hpo2 h5;go_wp2_with fail;refine HQ.out.mono ?_;rintro e w6 ⟨rfl,hd⟩;have hb6:Below wr.heap.size wr w6:=hb5.trans (hd.below.mono hb5.size);clear x1 y1 HQ hd hb5;have h6:=xVf hr hb6;have x1:=h6.out.2.1.c0;have y1:=h6.out.2.1.c1;have hcs6:=(hb6.cell (p:=⟨bb,bo+off,none⟩) lc).trans hcs;have hR6:=hRo.below hb6;have y0:=hR6.cell (i:=k) hlt;have f0:=hR6.frozen k;have hR7:=hR6.set k s;have hb7:Below w2.heap.size w2 w6:=hbq.trans (hb6.mono hbq.size);have hb8:=hb7.setCell (p:=⟨w2.heap.size,k,none⟩) (zR _) (.string s);have HF2:Hid (∀j,j<k+1→(fun j=>if j=k then s else F j) j=(flM l es).getD j ByteArray.empty):=zC fun j hj=>by
     show(if j=k then s else F j)=_;by_cases hjk:j=k
     · rw[yA hjk,hjk,HS.out.1]
     · rw[zY hjk];exact HF.out j yEn
    clear hcs hRo hR6 hb6 hb7 h6 hbq hr;go_wp2_with fail;go_roundw
    case rel=>exact⟨k+1,_,by go_num,by omega,hR7,HF2,hb8⟩
    case measure=>simp[intOf];omega
  · have e2:¬(k:Int)<(m1:Int):=by omega
    obtain rfl:k=m1:=by omega
    replace h:=hr;have HT:=zC (hRo.st KE.out.2.2 (fun j hj=>HF.out j hj));have HO2:=zC (zLe HO.out hbq);clear hr hRo hbq;have y0:=h.out.1.c0;have y3:=h.out.1.c1;have f0:=h.out.1.f 0;have f1:=h.out.1.f 1;go_wp2_with fail;have hV:Vl wr ta n1 (some ⟨w2.heap.size,0,none⟩) k (TS (some (q.1.reverse,flM q.1 q.2))).1 (TS (some (q.1.reverse,flM q.1 q.2))).2:=by
     rw[KE.out.1,KE.out.2.1];exact⟨zYf HO2.out,HT.out,by omega⟩
    have hR:=h.out.1.set ta n1 tc (some ⟨w2.heap.size,0,none⟩) k k;have r0:=hR.c0;have r1:=hR.c1;exact zE (v:=.tuple #[.agg #[.slice ta n1 tc,.slice (some ⟨w2.heap.size,0,none⟩) k k],.int .i64 0]) zQm rfl (xM3 (r:=_) h.out.1 h.out.2.2 yEn hV ⟨(xE8 HO2.out).1,(xE8 HO2.out).2,zR _,by unfold maxLen;omega⟩ HR.out)
theorem xM7 {a1 b1:Option Addr} {n1 c1 m1 d1:Nat} {l:List Int} {es:List ByteArray} {W:World} {o:Option Ar} (h1:Av W a1 n1 c1 b1 m1 d1 l es o):Calls Tryz.prog 50 #[.agg #[.slice a1 n1 c1,.slice b1 m1 d1]] W (xL3 (reM o) W):=by
 cases o with
 |none=>exact yEg h1
 |some q=>exact yFg h1
theorem xN7 {a1 b1:Option Addr} {n1 c1 m1 d1:Nat} {l:List Int} {es:List ByteArray} {W:World} {o:Option Ar} (h1:Av W a1 n1 c1 b1 m1 d1 l es o):Calls Tryz.prog 51 #[.agg #[.slice a1 n1 c1,.slice b1 m1 d1]] W (xL3 (fiM o) W):=by
 cases o with
 |none=>exact xK7 h1
 |some q=>exact xL7 h1
end
section
open Go.RowKit
def AlO (xs:List Int) (W:World) (e:Ending) (W':World):Prop:=
 ∃a n c z,e=.returned (.tuple #[.slice a n c,.int .i64 z])∧((xs.all zWd=true∧z=0∧n=xs.length∧Sl W' a n xs∧n≤c∧c≤maxLen)∨(xs.all zWd=false∧z=5))∧Below W.heap.size W W'
theorem xO7 {l:List Int}:l.all zWd=true↔∀j,j<l.length→zWd (l.getD j 0)=true:=yBb
theorem xP7 {l:List Int} {j:Nat} (hj:j<l.length) (h:zWd (l.getD j 0)=false):l.all zWd=false:=yCb hj h
theorem xQ7 {a b:Option Addr} {k c n d:Nat} {s l:List Int} (W:World) (h:Vl W a k b n s (l.map S)) (hl:∀x∈l,x.natAbs<lim) (hn:n≤1000000) (hW:WT W):
 Calls Tryz.prog 106 #[.agg #[.slice a k c,.slice b n d]] W (AlO l W):=by
 have hll:l.length=n:=by have:=h.t.1;rwa [zD0]at this
 have HL:=zC hll;have HT:=zC h.t;have HI:=zC (fun j (hj:j<n)=>hl (l.getD j 0) (by
  rw[yJ,yM yEn];exact xH _))
 have HW:=zC hW;have hmk:=zXb n hn;clear h hl hll hW;go_in;have hA:=(Bx.new W a k c b n d).alloc (.cells (madeCells #[.int .i64 0] n) 3);have x1:=hA.c1;go_wp2_with fail;have hR:=Ir.made (W.alloc (.cells #[.slice a k c,.slice b n d] 25)) n;rw[show(W.alloc (.cells #[.slice a k c,.slice b n d] 25)).heap.size=W.heap.size+1 by simp]at hR;have hb0:Below W.heap.size W ((W.alloc (.cells #[.slice a k c,.slice b n d] 25)).alloc (.cells (madeCells #[.int .i64 0] n) 3)):=((zI _ _).alloc (zR _) _).alloc yHn _;clear hmk x1;go_loopw [16] (fun i wr=>∃(q:Nat) (F:Nat→Int),i=.int .i64 q∧q≤n∧Ir wr (W.heap.size+1) n F∧Hid (∀j,j<q→F j=l.getD j 0∧zWd (l.getD j 0)=true)∧Below W.heap.size W wr) (fun i _=>n-(intOf i).toNat)
 case atStart=>exact⟨0,_,rfl,by omega,hR,zC (fun j hj=>by omega),hb0⟩
 case round=>
  obtain⟨q,F,rfl,hq,hR1,HF,hb1⟩:=hrel;clear hA hR hb0;by_cases hlt:q<n
  · have e2:(q:Int)<(n:Int):=by omega
    obtain⟨bb,off,rfl,hc⟩:=HT.out.2 yEn;have hck:=(hb1.cell (p:=⟨bb,off+q,none⟩) (yU W _ (hc q hlt))).trans (hc q hlt);rw[zYb l xTm]at hck;obtain⟨x,hx⟩:∃x,x=l.getD q 0:=⟨_,rfl⟩
    rw[←hx]at hck;have KN:=zC (yGb (x:=x) (by rw[hx];exact HI.out q hlt) wr (HW.out.below hb1));have HX:=zC hx;clear hc hx;generalize hs:S x=t at hck KN;clear hs;rcases xN0 (zWd x)with hf|hf
    · have HFX:=zC hf
      rw[hf]at KN;simp only[if_true]at KN;clear hf;go_wp2_with fail;refine KN.out.mono ?_;rintro e w2 ⟨rfl,hb⟩;have hR2:=hR1.below hb;have hb2:=hb1.trans (hb.mono hb1.size);have y0:=hR2.cell (i:=q) hlt;have f0:=hR2.frozen q;clear hR1 hb1 hb hck;have hR3:=hR2.set q x;have hb3:=hb2.setCell (p:=⟨W.heap.size+1,q,none⟩) (show W.heap.size≤W.heap.size+1 by omega) (.int .i64 x);have HF2:Hid (∀j,j<q+1→(fun j=>if j=q then x else F j) j=l.getD j 0∧zWd (l.getD j 0)=true):=zC fun j hj=>by
       show(if j=q then x else F j)=_∧_;by_cases hjk:j=q
       · rw[yA hjk,hjk,←HX.out];exact⟨rfl,HFX.out⟩
       · rw[zY hjk];exact HF.out j yEn
      go_wp2_with fail;go_roundw
      case rel=>exact⟨q+1,_,by go_num,by omega,hR3,HF2,hb3⟩
      case measure=>simp[intOf];omega
    · have HN:=zC (xP7 (l:=l) (j:=q) xTm (by rw[←HX.out];exact hf))
      rw[hf]at KN;simp only[Bool.false_eq_true,if_false]at KN;clear hf;go_wp2_with fail;refine KN.out.mono ?_;rintro e w2 ⟨rfl,hb⟩;have hb2:=hb1.trans (hb.mono hb1.size);go_wp2_with fail;go_ret2;exact⟨none,0,0,5,rfl,.inr ⟨HN.out,rfl⟩,hb2⟩
  · have e2:¬(q:Int)<(n:Int):=by omega
    obtain rfl:q=n:=by omega
    have hS:Sl wr (some ⟨W.heap.size+1,0,none⟩) q l:=hR1.sl HL.out (fun j hj=>(HF.out j hj).1);have HSS:=zC hS;have HAll:=zC (xO7.2 fun j hj=>(HF.out j xKm).2);have hm:q≤maxLen:=by unfold maxLen;omega
    clear hS hR1;go_wp2_with fail;go_ret2;exact⟨_,_,_,0,rfl,.inl ⟨HAll.out,rfl,HL.out.symm,HSS.out,zR _,hm⟩,hb1⟩
def xR7:Value→Nat
 | .slice _ n _=>n
 |_=>0
theorem xS7 (es:List Int) (n:Nat):(cyM es n).length=n:=by simp[cyM]
theorem xT7 {es:List Int} {k t:Nat} (h:es.length∣k) (ht:t≤es.length):cyM es (k+t)=cyM es k++es.take t:=by
 unfold cyM;rw[List.range_add,zN,yZ1];congr 1
 apply xA1
 · simp;omega
 · intro i g1 g2
   have hi:i<t:=by simpa using g1
   obtain⟨r,rfl⟩:=h;simp[Nat.mul_add_mod,xB1 (show i<es.length by omega),yJ,yM (show i<es.length by omega)]
theorem xU7 {q r:Ar} (h:szE q.2=0) (hr:Rok (some r)) (h0:¬(pr q.2≠0∧r.2=[])):Rok (some (q.2,cyM r.2 (pr q.2).toNat)):=by
 have hp:=(xA9 h).1;refine⟨h,by show((cyM r.2 (pr q.2).toNat).length:Int)=pr q.2;rw[xS7];omega,fun x hx=> ?_⟩;obtain⟨j,hj,rfl⟩:=xY0.1 hx;have hj:=zU0.1 hj;have hne:r.2≠[]:=fun e=>h0 ⟨by omega,e⟩;have hl:j%r.2.length<r.2.length:=xD1 _ (zE0.2 hne);rw[yJ,yM hl];exact hr.2.2 _ (xH _)
theorem xV7 {P:World→Prop} {w:World} {f:FuncId} {args:Array Value} {xs:List Int} (h:Lv P w) (hc:Calls Tryz.prog f args w (AlO xs w))
 (hs:Stb P:=by repeat' (first|exact Stb.bel _|exact Stb.bx|exact Stb.vl|refine Stb.and ?_ ?_|exact Stb.triv)):
 Calls Tryz.prog f args w fun e w'=>∃a n c z,e=.returned (.tuple #[.slice a n c,.int .i64 z])∧((xs.all zWd=true∧z=0∧n=xs.length∧Sl w' a n xs∧n≤c∧c≤maxLen)∨(xs.all zWd=false∧z=5))∧Lv P w':=
 hc.mono fun _ _ ⟨a,n,c,z,h1,h2,h3⟩=>⟨a,n,c,z,h1,h2,⟨hs _ _ h.out h3⟩⟩
theorem xW7 {a1 b1 a2 b2:Option Addr} {n1 c1 m1 d1 n2 c2 m2 d2:Nat} {l m:List Int} {es fs:List ByteArray} {W:World} (h1:Av W a1 n1 c1 b1 m1 d1 l es none):
 Calls Tryz.prog 72 #[.agg #[.slice a1 n1 c1,.slice b1 m1 d1],.agg #[.slice a2 n2 c2,.slice b2 m2 d2]] W (xL3 (none,1) W):=by
 have KV:=zC (fun w (hb:Below W.heap.size W w)=>yTc (h1.below hb));clear h1;have h:=xP3 W a1 n1 c1 b1 m1 d1 a2 n2 c2 b2 m2 d2;go_in;have x1:=h.out.2.2.1.c0;have y1:=h.out.2.2.1.c1;go_wp2_with fail
 with_reducible refine(yMf h (KV.out _ h.out.2.2.2)).mono ?_
 clear h x1 y1;rintro e w ⟨rfl,h⟩;have y0:=h.out.1.c0;have y3:=h.out.1.c1;have f0:=h.out.1.f 0;have f1:=h.out.1.f 1;go_wp2_with fail;have hR:=h.out.1.set none 0 0 none 0 0;have r0:=hR.c0;have r1:=hR.c1;exact zE (v:=.tuple #[.agg #[.slice none 0 0,.slice none 0 0],.int .i64 1]) zRm rfl (xN3 h.out.1 h.out.2.2.2 yEn)
theorem xX7 {a1 b1 a2 b2:Option Addr} {n1 c1 m1 d1 n2 c2 m2 d2:Nat} {l m:List Int} {es fs:List ByteArray} {W:World} {q:Ar} (h1:Av W a1 n1 c1 b1 m1 d1 l es (some q)) (h2:Av W a2 n2 c2 b2 m2 d2 m fs none):
 Calls Tryz.prog 72 #[.agg #[.slice a1 n1 c1,.slice b1 m1 d1],.agg #[.slice a2 n2 c2,.slice b2 m2 d2]] W (xL3 (none,1) W):=by
 have KV:=zC (fun w (hb:Below W.heap.size W w)=>yTc (h1.below hb));have KU:=zC (fun w (hb:Below W.heap.size W w)=>yTc (h2.below hb));clear h1 h2;have h:=xP3 W a1 n1 c1 b1 m1 d1 a2 n2 c2 b2 m2 d2;go_in;have x1:=h.out.2.2.1.c0;have y1:=h.out.2.2.1.c1;go_wp2_with fail
 with_reducible refine(yMf h (KV.out _ h.out.2.2.2)).mono ?_
 clear h x1 y1;rintro e w ⟨rfl,h⟩;have x2:=h.out.2.1.c0;have y2:=h.out.2.1.c1;go_wp2_with fail
 with_reducible refine(yMf h (KU.out _ h.out.2.2.2)).mono ?_
 clear h x2 y2;rintro e w ⟨rfl,h⟩;have y0:=h.out.1.c0;have y3:=h.out.1.c1;have f0:=h.out.1.f 0;have f1:=h.out.1.f 1;go_wp2_with fail;have hR:=h.out.1.set none 0 0 none 0 0;have r0:=hR.c0;have r1:=hR.c1;exact zE (v:=.tuple #[.agg #[.slice none 0 0,.slice none 0 0],.int .i64 1]) zRm rfl (xN3 h.out.1 h.out.2.2.2 yEn)
theorem xY7 {a1 b1 a2 b2:Option Addr} {n1 c1 m1 d1 n2 c2 m2 d2:Nat} {l m:List Int} {es fs:List ByteArray} {W:World} {q r:Ar} (h1:Av W a1 n1 c1 b1 m1 d1 l es (some q)) (h2:Av W a2 n2 c2 b2 m2 d2 m fs (some r)) (hn:1<n1):
 Calls Tryz.prog 72 #[.agg #[.slice a1 n1 c1,.slice b1 m1 d1],.agg #[.slice a2 n2 c2,.slice b2 m2 d2]] W (xL3 (none,3) W):=by
 have KV:=zC (fun w (hb:Below W.heap.size W w)=>yTc (h1.below hb));have KU:=zC (fun w (hb:Below W.heap.size W w)=>yTc (h2.below hb));have hn1:(1:Int)<(n1:Int):=by omega
 clear h1 h2 hn;have h:=xP3 W a1 n1 c1 b1 m1 d1 a2 n2 c2 b2 m2 d2;go_in;have x1:=h.out.2.2.1.c0;have y1:=h.out.2.2.1.c1;go_wp2_with fail
 with_reducible refine(yMf h (KV.out _ h.out.2.2.2)).mono ?_
 clear h x1 y1;rintro e w ⟨rfl,h⟩;have x2:=h.out.2.1.c0;have y2:=h.out.2.1.c1;go_wp2_with fail
 with_reducible refine(yMf h (KU.out _ h.out.2.2.2)).mono ?_
 clear h x2 y2;rintro e w ⟨rfl,h⟩;have x1:=h.out.2.2.1.c0;have y1:=h.out.2.2.1.c1;have y0:=h.out.1.c0;have y3:=h.out.1.c1;have f0:=h.out.1.f 0;have f1:=h.out.1.f 1;go_wp2_with fail;have hR:=h.out.1.set none 0 0 none 0 0;have r0:=hR.c0;have r1:=hR.c1;exact zE (v:=.tuple #[.agg #[.slice none 0 0,.slice none 0 0],.int .i64 3]) zRm rfl (xN3 h.out.1 h.out.2.2.2 yEn)
theorem xZ7 {a1 b1 a2 b2:Option Addr} {n1 c1 m1 d1 n2 c2 m2 d2:Nat} {l m:List Int} {es fs:List ByteArray} {W:World} {q r:Ar} (h1:Av W a1 n1 c1 b1 m1 d1 l es (some q)) (h2:Av W a2 n2 c2 b2 m2 d2 m fs (some r)) (hW:WT W) (hn:n1≤1) (hal:q.2.all zWd=false):
 Calls Tryz.prog 72 #[.agg #[.slice a1 n1 c1,.slice b1 m1 d1],.agg #[.slice a2 n2 c2,.slice b2 m2 d2]] W (xL3 (none,5) W):=by
 have KV:=zC (fun w (hb:Below W.heap.size W w)=>yTc (h1.below hb));have KU:=zC (fun w (hb:Below W.heap.size W w)=>yTc (h2.below hb));have hn1:¬((1:Int)<(n1:Int)):=by omega
 have KA:=zC (fun w (hb:Below W.heap.size W w)=>xQ7 (c:=c1) (d:=d1) (s:=l) w xVl h1.i.2.2.2 xMm (hW.below hb));have hal2:=zC hal;clear h1 h2 hW hn hal;have h:=xP3 W a1 n1 c1 b1 m1 d1 a2 n2 c2 b2 m2 d2;go_in;have x1:=h.out.2.2.1.c0;have y1:=h.out.2.2.1.c1;go_wp2_with fail
 with_reducible refine(yMf h (KV.out _ h.out.2.2.2)).mono ?_
 clear h x1 y1;rintro e w ⟨rfl,h⟩;have x2:=h.out.2.1.c0;have y2:=h.out.2.1.c1;go_wp2_with fail
 with_reducible refine(yMf h (KU.out _ h.out.2.2.2)).mono ?_
 clear h x2 y2;rintro e w ⟨rfl,h⟩;have x1:=h.out.2.2.1.c0;have y1:=h.out.2.2.1.c1;go_wp2_with fail;refine(xV7 h (KA.out _ h.out.2.2.2)).mono ?_;clear h x1 y1;rintro e w ⟨aa,na,ca,z,rfl,hz,h⟩;have hz5:z=5:=by
  rcases hz with⟨g,_⟩|⟨_,g⟩
  · rw[hal2.out]at g;cases g
  · exact g
 subst hz5;clear hz;have y0:=h.out.1.c0;have y3:=h.out.1.c1;have f0:=h.out.1.f 0;have f1:=h.out.1.f 1;go_wp2_with fail;have hR:=h.out.1.set none 0 0 none 0 0;have r0:=hR.c0;have r1:=hR.c1;exact zE (v:=.tuple #[.agg #[.slice none 0 0,.slice none 0 0],.int .i64 5]) zRm rfl (xN3 h.out.1 h.out.2.2.2 yEn)
theorem zA8 {a1 b1 a2 b2:Option Addr} {n1 c1 m1 d1 n2 c2 m2 d2:Nat} {l m:List Int} {es fs:List ByteArray} {W:World} {q r:Ar} (h1:Av W a1 n1 c1 b1 m1 d1 l es (some q)) (h2:Av W a2 n2 c2 b2 m2 d2 m fs (some r)) (hW:WT W) (hn:n1≤1) (hal:q.2.all zWd=true) (hz:szE q.2≠0):
 Calls Tryz.prog 72 #[.agg #[.slice a1 n1 c1,.slice b1 m1 d1],.agg #[.slice a2 n2 c2,.slice b2 m2 d2]] W (xL3 (none,szE q.2) W):=by
 have KV:=zC (fun w (hb:Below W.heap.size W w)=>yTc (h1.below hb));have KU:=zC (fun w (hb:Below W.heap.size W w)=>yTc (h2.below hb));have hn1:¬((1:Int)<(n1:Int)):=by omega
 have KA:=zC (fun w (hb:Below W.heap.size W w)=>xQ7 (c:=c1) (d:=d1) (s:=l) w xVl h1.i.2.2.2 xMm (hW.below hb));have hal2:=zC hal;have KZ:=zC (fun w a n c (hs:Sl w a n q.2)=>yM9 a n c q.2 w hs);unfold yJ9 at KZ;rw[yC9 hz]at KZ;generalize szE q.2=E at*;have hE:(E != 0)=true:=by simpa using hz
 clear h1 h2 hW hn hal hz;have h:=xP3 W a1 n1 c1 b1 m1 d1 a2 n2 c2 b2 m2 d2;go_in;have x1:=h.out.2.2.1.c0;have y1:=h.out.2.2.1.c1;go_wp2_with fail
 with_reducible refine(yMf h (KV.out _ h.out.2.2.2)).mono ?_
 clear h x1 y1;rintro e w ⟨rfl,h⟩;have x2:=h.out.2.1.c0;have y2:=h.out.2.1.c1;go_wp2_with fail
 with_reducible refine(yMf h (KU.out _ h.out.2.2.2)).mono ?_
 clear h x2 y2;rintro e w ⟨rfl,h⟩;have x1:=h.out.2.2.1.c0;have y1:=h.out.2.2.1.c1;go_wp2_with fail;refine(xV7 h (KA.out _ h.out.2.2.2)).mono ?_;clear h x1 y1;rintro e w ⟨aa,na,ca,z,rfl,hz,h⟩;obtain⟨hz5,hna,hsa,hca,hcm⟩:z=0∧na=q.2.length∧Sl w aa na q.2∧na≤ca∧ca≤maxLen:=by
  rcases hz with⟨_,g1,g2,g3,g4,g5⟩|⟨g,_⟩
  · exact⟨g1,g2,g3,g4,g5⟩
  · rw[hal2.out]at g;cases g
 subst hz5;have HS:=zC (And.intro hna (And.intro hsa (And.intro hca hcm)));clear hz hna hsa hca hcm;go_wp2_with fail;refine(KZ.out _ _ _ _ HS.out.2.1).mono ?_;rintro e w9 ⟨rfl,rfl⟩;have y0:=h.out.1.c0;have y3:=h.out.1.c1;have f0:=h.out.1.f 0;have f1:=h.out.1.f 1;go_wp2_with fail;have hR:=h.out.1.set none 0 0 none 0 0;have r0:=hR.c0;have r1:=hR.c1;exact zE (v:=.tuple #[.agg #[.slice none 0 0,.slice none 0 0],.int .i64 E]) zRm rfl (xN3 h.out.1 h.out.2.2.2 yEn)
theorem zB8 {a1 b1 a2 b2:Option Addr} {n1 c1 m1 d1 n2 c2 m2 d2:Nat} {l m:List Int} {es fs:List ByteArray} {W:World} {q r:Ar} (h1:Av W a1 n1 c1 b1 m1 d1 l es (some q)) (h2:Av W a2 n2 c2 b2 m2 d2 m fs (some r)) (hW:WT W) (hn:n1≤1) (hal:q.2.all zWd=true) (hz:szE q.2=0) (hpn:pr q.2≠0) (he:r.2=[]):
 Calls Tryz.prog 72 #[.agg #[.slice a1 n1 c1,.slice b1 m1 d1],.agg #[.slice a2 n2 c2,.slice b2 m2 d2]] W (xL3 (none,5) W):=by
 have KV:=zC (fun w (hb:Below W.heap.size W w)=>yTc (h1.below hb));have KU:=zC (fun w (hb:Below W.heap.size W w)=>yTc (h2.below hb));have hn1:¬((1:Int)<(n1:Int)):=by omega
 have KA:=zC (fun w (hb:Below W.heap.size W w)=>xQ7 (c:=c1) (d:=d1) (s:=l) w xVl h1.i.2.2.2 xMm (hW.below hb));have hal2:=zC hal;have KZ:=zC (fun w a n c (hs:Sl w a n q.2)=>yM9 a n c q.2 w hs);unfold yJ9 at KZ;rw[yD9 hz,hz]at KZ;have hp0:=(xA9 hz).1;generalize pr q.2=p at*;have hp:(0:Int)<p:=by omega
 have hm:(m2:Int)=0:=by have:=h2.mlen.1;rw[he]at this;simp at this;omega
 clear h1 h2 hW hn hal hz hp0 hpn he;have h:=xP3 W a1 n1 c1 b1 m1 d1 a2 n2 c2 b2 m2 d2;go_in;have x1:=h.out.2.2.1.c0;have y1:=h.out.2.2.1.c1;go_wp2_with fail
 with_reducible refine(yMf h (KV.out _ h.out.2.2.2)).mono ?_
 clear h x1 y1;rintro e w ⟨rfl,h⟩;have x2:=h.out.2.1.c0;have y2:=h.out.2.1.c1;go_wp2_with fail
 with_reducible refine(yMf h (KU.out _ h.out.2.2.2)).mono ?_
 clear h x2 y2;rintro e w ⟨rfl,h⟩;have x1:=h.out.2.2.1.c0;have y1:=h.out.2.2.1.c1;go_wp2_with fail;refine(xV7 h (KA.out _ h.out.2.2.2)).mono ?_;clear h x1 y1;rintro e w ⟨aa,na,ca,z,rfl,hz,h⟩;obtain⟨hz5,hna,hsa,hca,hcm⟩:z=0∧na=q.2.length∧Sl w aa na q.2∧na≤ca∧ca≤maxLen:=by
  rcases hz with⟨_,g1,g2,g3,g4,g5⟩|⟨g,_⟩
  · exact⟨g1,g2,g3,g4,g5⟩
  · rw[hal2.out]at g;cases g
 subst hz5;have HS:=zC (And.intro hna (And.intro hsa (And.intro hca hcm)));clear hz hna hsa hca hcm;have x2:=h.out.2.1.c0;have y2:=h.out.2.1.c1;go_wp2_with fail;refine(KZ.out _ _ _ _ HS.out.2.1).mono ?_;rintro e w9 ⟨rfl,rfl⟩;have y0:=h.out.1.c0;have y3:=h.out.1.c1;have f0:=h.out.1.f 0;have f1:=h.out.1.f 1;go_wp2_with fail;have hR:=h.out.1.set none 0 0 none 0 0;have r0:=hR.c0;have r1:=hR.c1;exact zE (v:=.tuple #[.agg #[.slice none 0 0,.slice none 0 0],.int .i64 5]) zRm rfl (xN3 h.out.1 h.out.2.2.2 yEn)
theorem zC8 {a1 b1 a2 b2:Option Addr} {n1 c1 m1 d1 n2 c2 m2 d2:Nat} {l m:List Int} {es fs:List ByteArray} {W:World} {q r:Ar} (h1:Av W a1 n1 c1 b1 m1 d1 l es (some q)) (h2:Av W a2 n2 c2 b2 m2 d2 m fs (some r)) (hW:WT W) (hn:n1≤1) (hal:q.2.all zWd=true) (hz:szE q.2=0) (h0:¬(pr q.2≠0∧r.2=[])):
 Calls Tryz.prog 72 #[.agg #[.slice a1 n1 c1,.slice b1 m1 d1],.agg #[.slice a2 n2 c2,.slice b2 m2 d2]] W (xL3 (some (q.2,cyM r.2 (pr q.2).toNat),0) W):=by
 have KV:=zC (fun w (hb:Below W.heap.size W w)=>yTc (h1.below hb));have KU:=zC (fun w (hb:Below W.heap.size W w)=>yTc (h2.below hb));have hn1:¬((1:Int)<(n1:Int)):=by omega
 have KA:=zC (fun w (hb:Below W.heap.size W w)=>xQ7 (c:=c1) (d:=d1) (s:=l) w xVl h1.i.2.2.2 xMm (hW.below hb));have hal2:=zC hal;have KZ:=zC (fun w a n c (hs:Sl w a n q.2)=>yM9 a n c q.2 w hs);unfold yJ9 at KZ;rw[yD9 hz,hz]at KZ;have hp0:=xA9 hz;have HR:=zC (xU7 hz h2.i.rok h0);obtain⟨z,hzz⟩:∃z:Nat,z=(pr q.2).toNat:=⟨_,rfl⟩
 have hpz:pr q.2=(z:Int):=by omega
 have hz4:z≤4096:=by omega
 rw[hpz]at KZ;rw[←hzz]at HR ⊢;obtain⟨hm1,hmp,hm4⟩:=h2.mlen;clear hmp;have hmd:=h2.c.md;have hzm:z=0∨0<m2:=by
  rcases yL0 z with g|g
  · exact .inl g
  · refine .inr ?_
    rcases yL0 m2 with g2|g2
    · exact absurd ⟨by omega,yO0.1 (hm1.symm.trans g2)⟩ h0
    · exact g2
 have KT:=zC (fun w (hb:Below W.heap.size W w)=>(h2.v.t.below hb:St w b2 m2 fs));have HE:=zC (And.intro h2.i.2.1 hm1);clear h1 h2 hW hn hal hz h0 hp0 hpz hzz hm1;have h:=xP3 W a1 n1 c1 b1 m1 d1 a2 n2 c2 b2 m2 d2;go_in;have x1:=h.out.2.2.1.c0;have y1:=h.out.2.2.1.c1;go_wp2_with fail
 with_reducible refine(yMf h (KV.out _ h.out.2.2.2)).mono ?_
 clear h x1 y1;rintro e w ⟨rfl,h⟩;have x2:=h.out.2.1.c0;have y2:=h.out.2.1.c1;go_wp2_with fail
 with_reducible refine(yMf h (KU.out _ h.out.2.2.2)).mono ?_
 clear h x2 y2;rintro e w ⟨rfl,h⟩;have x1:=h.out.2.2.1.c0;have y1:=h.out.2.2.1.c1;go_wp2_with fail;refine(xV7 h (KA.out _ h.out.2.2.2)).mono ?_;clear h x1 y1;rintro e w ⟨aa,na,ca,zz,rfl,hz,h⟩;obtain⟨hz5,hna,hsa,hca,hcm⟩:zz=0∧na=q.2.length∧Sl w aa na q.2∧na≤ca∧ca≤maxLen:=by
  rcases hz with⟨_,g1,g2,g3,g4,g5⟩|⟨g,_⟩
  · exact⟨g1,g2,g3,g4,g5⟩
  · rw[hal2.out]at g;cases g
 subst hz5;have HS:=zC (And.intro hna (And.intro hsa (And.intro hca hcm)));clear hz hna hsa hca hcm;have x2:=h.out.2.1.c0;have y2:=h.out.2.1.c1;go_wp2_with fail;refine(KZ.out _ _ _ _ HS.out.2.1).mono ?_;rintro e w9 ⟨rfl,rfl⟩;have hzc:((0:Int)<(z:Int)∧((m2:Int)==0)=false)∨¬((0:Int)<(z:Int)):=by
  by_cases g:0<z
  · exact .inl ⟨by omega,zT0.2 yEn⟩
  · exact .inr yEn
 rcases hzc with⟨hz1,hz2⟩|hz1
 ·
  go_wp2_with fail;go_loopw [9] (fun ev wr=>∃k:Nat,k≤z∧(k=z∨m2∣k)∧wr.ownsRow w.heap.size 9 1 ev k (zTf ((cyM r.2 k).map S))∧Below w.heap.size w wr) (fun ev _=>z-xR7 ev)
  case atStart=>exact⟨0,xJ _,.inr (Nat.dvd_zero _),zT _ _ _ _,zI _ _⟩
  case round=>
   obtain⟨k,hk,hdv,hown,hbq⟩:=hrel;obtain⟨ae,ce,rfl⟩:=zWf hown;clear x2 y2;have hr:=xVf h hbq;by_cases hlt:k<z
   · have e2:(k:Int)<(z:Int):=by omega
     have x2:=hr.out.2.1.c0;have y2:=hr.out.2.1.c1;have hd2:m2∣k:=by rcases hdv with g|g;exact absurd g yEn;exact g
     obtain⟨u,hu⟩:∃u,u=z-k:=⟨_,rfl⟩
     obtain⟨t,ht⟩:∃t,t=min u m2:=⟨_,rfl⟩
     have hw:IntKind.i64.wrap ((z:Int)-(k:Int))=(u:Int):=by rw[show(z:Int)-(k:Int)=(u:Int)by omega];exact xJ0 _ yEn
     have hmin:min (u:Int) (m2:Int)=(t:Int):=by omega
     have hstep:=xT7 (es:=r.2) (k:=k) (t:=t) (by rw[←HE.out.2];exact hd2) (by rw[←HE.out.2];omega);have KQ:Hid (∀w,Calls Tryz.prog 99 #[.slice b2 m2 d2,.int .i64 0,.int .i64 t] w fun e w'=>e=.returned (.slice (xU3 b2 0 t) t t)∧w=w'):=zC fun w=>xZ3 b2 m2 d2 0 t w (xJ _) yEn;have hst:St wr (xU3 b2 0 t) t ((r.2.take t).map S):=by
      have:=(KT.out wr hr.out.2.2.2).cut (f:=0) (t:=t) (xJ _) yEn;rw[HE.out.1,xE1,yS1,←List.map_take]at this;exact this
     have hr2:=zC hst.rd;have ho2:=zC hown;have hkt:k+t≤z:=by omega
     have hdv2:k+t=z∨m2∣k+t:=by
      rcases Nat.le_total u m2 with g|g
      · exact .inl yEn
      · refine .inr ?_
        rw[show t=m2 by omega];exact Nat.dvd_add hd2 (Nat.dvd_refl _)
     have ht0:0<t:=by omega
     have HD:=zC (And.intro hdv2 hstep);have hbs:=hbq.size;clear hst hown hdv hdv2 hd2 hstep hu ht;go_wp2_with fail
     with_reducible refine(KQ.out _).mono ?_
     rintro e w2 ⟨rfl,rfl⟩;go_wp2_with (at_builtin;refine yDf rfl (.tmp 55) (.tmp 66) 23 rfl w.heap.size 9 (.string ⟨#[]⟩) 16 Tryz.underlying23 xC4 rfl yCn _ k (zTf ((cyM r.2 k).map S)) rfl ho2.out _ t t (zTf ((r.2.take t).map S)) rfl hr2.out (zVf _) yEn hbs ?_;intro av' cv' w3 hown3 hg3)
     have hb4:Below w.heap.size w w3:=hbq.trans (yHf hg3 (fun g' hg'=>(ho2.out.lt g' hg').1) hbs);have hown4:w3.ownsRow w.heap.size 9 1 (.slice av' (k+t) cv') (k+t) (zTf ((cyM r.2 (k+t)).map S)):=by
      rw[HD.out.2,zN,←zSg];exact hown3
     clear hown3 ho2 hr2 hg3 x2 y2 hr;go_wp2_with fail;go_roundw
     case rel=>
      exact⟨k+t,hkt,HD.out.1,hown4,hb4⟩
     case measure=>simp[xR7];omega
   · have e2:¬(k:Int)<(z:Int):=by omega
     obtain rfl:k=z:=by omega
     replace h:=hr;have hsa:=HS.out.2.1.below hbq;have HO:=zC (And.intro hown hsa);clear hr hown hdv hbq hsa;have y0:=h.out.1.c0;have y3:=h.out.1.c1;have f0:=h.out.1.f 0;have f1:=h.out.1.f 1;go_wp2_with fail;have hV:Vl wr aa na ae k (TS (some (q.2,cyM r.2 k))).1 (TS (some (q.2,cyM r.2 k))).2:=⟨HO.out.2,zZf HO.out.1,by omega⟩
     have hR:=h.out.1.set aa na ca ae k ce;have r0:=hR.c0;have r1:=hR.c1;exact zE (v:=.tuple #[.agg #[.slice aa na ca,.slice ae k ce],.int .i64 0]) zRm rfl (xM3 (r:=_) h.out.1 h.out.2.2.2 yEn hV ⟨HS.out.2.2.1,HS.out.2.2.2,(xE8 HO.out.1).1,(xE8 HO.out.1).2⟩ HR.out)
 ·
  go_wp2_with fail;go_loopw [9] (fun ev wr=>∃k:Nat,k≤z∧(k=z∨m2∣k)∧wr.ownsRow w.heap.size 9 1 ev k (zTf ((cyM r.2 k).map S))∧Below w.heap.size w wr) (fun ev _=>z-xR7 ev)
  case atStart=>exact⟨0,xJ _,.inr (Nat.dvd_zero _),zT _ _ _ _,zI _ _⟩
  case round=>
   obtain⟨k,hk,hdv,hown,hbq⟩:=hrel;obtain⟨ae,ce,rfl⟩:=zWf hown;clear x2 y2;have hr:=xVf h hbq;by_cases hlt:k<z
   · exact absurd hlt yEn
   · have e2:¬(k:Int)<(z:Int):=by omega
     obtain rfl:k=z:=by omega
     replace h:=hr;have hsa:=HS.out.2.1.below hbq;have HO:=zC (And.intro hown hsa);clear hr hown hdv hbq hsa;have y0:=h.out.1.c0;have y3:=h.out.1.c1;have f0:=h.out.1.f 0;have f1:=h.out.1.f 1;go_wp2_with fail;have hV:Vl wr aa na ae k (TS (some (q.2,cyM r.2 k))).1 (TS (some (q.2,cyM r.2 k))).2:=⟨HO.out.2,zZf HO.out.1,by omega⟩
     have hR:=h.out.1.set aa na ca ae k ce;have r0:=hR.c0;have r1:=hR.c1;exact zE (v:=.tuple #[.agg #[.slice aa na ca,.slice ae k ce],.int .i64 0]) zRm rfl (xM3 (r:=_) h.out.1 h.out.2.2.2 yEn hV ⟨HS.out.2.2.1,HS.out.2.2.2,(xE8 HO.out.1).1,(xE8 HO.out.1).2⟩ HR.out)
theorem zD8 {a1 b1 a2 b2:Option Addr} {n1 c1 m1 d1 n2 c2 m2 d2:Nat} {l m:List Int} {es fs:List ByteArray} {W:World} {o p:Option Ar} (h1:Av W a1 n1 c1 b1 m1 d1 l es o) (h2:Av W a2 n2 c2 b2 m2 d2 m fs p) (hW:WT W):Calls Tryz.prog 72 #[.agg #[.slice a1 n1 c1,.slice b1 m1 d1],.agg #[.slice a2 n2 c2,.slice b2 m2 d2]] W (xL3 (rsM o p) W):=by
 cases o with
 |none=>exact xW7 (m:=m) (fs:=fs) h1
 |some q=>
 cases p with
 |none=>exact xX7 h1 h2
 |some r=>
 have hl:q.1.length=n1:=by rw[h1.fst];exact h1.v.s.1
 by_cases hn:1<n1
 · have e:rsM (some q) (some r)=(none,3):=by unfold rsM;dsimp only;rw[yA yEn]
   rw[e];exact xY7 h1 h2 hn
 · have hn':¬(1<q.1.length):=by omega
   cases hal:q.2.all zWd
   · have e:rsM (some q) (some r)=(none,5):=by unfold rsM;dsimp only;rw[zY hn',yA hal]
     rw[e];exact xZ7 h1 h2 hW yEn hal
   · by_cases hz:szE q.2=0
     · by_cases h0:pr q.2≠0∧r.2=[]
       · have e:rsM (some q) (some r)=(none,5):=by unfold rsM;dsimp only;rw[zY hn',zY zSn,zY (fun h=>h hz),yA h0]
         rw[e];exact zB8 h1 h2 hW yEn hal hz h0.1 h0.2
       · have e:rsM (some q) (some r)=(some (q.2,cyM r.2 (pr q.2).toNat),0):=by unfold rsM;dsimp only;rw[zY hn',zY zSn,zY (fun h=>h hz),zY h0]
         rw[e];exact zC8 h1 h2 hW yEn hal hz h0
     · have e:rsM (some q) (some r)=(none,szE q.2):=by unfold rsM;dsimp only;rw[zY hn',zY zSn,yA hz]
       rw[e];exact zA8 h1 h2 hW yEn hal hz
end
section
open Go.RowKit
theorem zE8 (f:Nat→Int):∀(k p q:Nat),q-p≤k→∃l,Orr f p q l
 | 0,_,_,h=>⟨[],Orr.none yEn⟩
 |k+1,p,q,h=>by
  by_cases hq:q≤p
  · exact⟨[],Orr.none hq⟩
  · obtain⟨l,hl⟩:=zE8 f k (p+1) q yEn
    exact⟨_,Orr.merged yEn yEn (Orr.one (p:=p)) hl⟩
theorem zF8 (f:Nat→Int) (n:Nat):Ord f n (orL f n):=by
 obtain⟨l,hl⟩:=zE8 f n 0 n yEn;rw[yD4 hl.ord];exact hl.ord
theorem zG8 (l:List Nat):(yE4 l).length=l.length:=by simp[yE4]
theorem zH8 {t:Nat} {L:List Nat} (hl:L.length=t) (ht:t≤4096) (hb:∀i∈L,i≤1099511627776):Rok (some ([(t:Int)],yE4 L)):=
 zDg ht (by rw[zG8,hl]) fun x hx=>by
  obtain⟨i,hi,rfl⟩:=xY0.1 hx;have:=hb i hi;exact zEg yEn
theorem zI8 (f:Nat→Int) {n:Nat} (hn:n≤4096):Rok (some ([(n:Int)],yE4 (orL f n))):=
 zH8 (zF8 f n).len hn fun i hi=>by have:=((zF8 f n).all i).1 hi;omega
theorem zJ8 {l:List Nat} (h:l.sum≤4096) (hl:l.length≤4096):Rok (some ([(l.sum:Int)],yE4 (whS 0 l))):=
 zH8 (yUd 0 l) h fun i hi=>by have:=(yVd hi).2;omega
theorem zK8 {q:Ar} (h:Rok (some q)) (hl:q.2.length≤4096):Rok (some ([((unS q.2).length:Int)],unS q.2)):=
 zDg (xN (ySd q.2) hl) rfl fun x hx=>h.2.2 x (yRd.1 hx)
theorem zL8 {q r:Ar} (h:Rok (some r)) (hl:q.2.length≤4096):Rok (some (r.1,r.2.map fun x=>(fpS q.2 x:Int))):=
 ⟨h.1,by show((r.2.map fun x=>(fpS q.2 x:Int)).length:Int)=_;rw[zD0];exact h.2.1,fun x hx=>by
   obtain⟨y,_,rfl⟩:=xY0.1 hx;have:=yMd q.2 y;exact zEg yEn⟩
theorem zM8 {α:Type} {es:List α} {k:Nat}:∀{l:List Nat} {x:α},x∈its es k l→x∈es
 |[],_,h=>by cases h
 |i::r,x,h=>by
  rcases xF1.1 h with h|h
  · exact xG1 (xD h)
  · exact zM8 h
theorem zN8 {q r:Ar} (h:Rok (some q)) (hf:Fits q.1 q.2) (hl:q.1≠[]) (hr:Rok (some r)) (hz:szE (r.1++q.1.tail)=0) (hn:∀i∈yF4 r.2,i<nI q.1) (hk:0≤pr q.1.tail):Rok (some (r.1++q.1.tail,its q.2 (kI q.1) (yF4 r.2))):=by
 refine⟨hz,?_,fun x hx=>h.2.2 x (zM8 hx)⟩;show((its q.2 (kI q.1) (yF4 r.2)).length:Int)=pr (r.1++q.1.tail);rw[zAa (hf.cut hl) hn,zF9,←hr.2.1,xH0];congr 1
 · simp[yF4]
 · exact xC hk
end
section
open Go.RowKit
theorem zO8 (sg:Int) {q:Ar} (h:q.1.length=1):upK sg (some q)=(some ([(q.2.length:Int)],yE4 (orL (fun i=>sg*q.2.getD i 0) q.2.length)),0):=by
 unfold upK;dsimp only
 rw[zY (fun e=>e h)]
theorem zP8 {f:Nat→Int} {n:Nat}:∀i∈orL f n,i<n:=fun i hi=>((zF8 f n).all i).1 hi
theorem zQ8 (f:Nat→Int) (n:Nat):(orL f n).length=n:=(zF8 f n).len
end
end Go.Proofs.YtcfbjdplhgdpfaaGreatDoor

import Derived.Test.YtcfbjdplhgdpfaaGreatDoorTbu
set_option maxHeartbeats 6400000
set_option maxRecDepth 100000
namespace Go.Proofs.YtcfbjdplhgdpfaaGreatDoor
set_option linter.unusedVariables false
set_option linter.unusedSimpArgs false
theorem yPm {P:Prop}(h:P:=by simp[results,Tryz.results20,go_sem,b0,b1]):P:=h
open Go.RowKit
theorem yGh (k:Nat) (op:ByteArray) (ho:kmL op.data.toList=k) (hk:k<3) {x:Int} (hx:x.natAbs<lim):yD5 op (S x) (S (mnZ k x)) 0:=by
 have h:=xH5 (op:=op) (show Is (S x) (some x)from⟨rfl,hx⟩);rw[ho]at h;simp only[mnO,zJd hk]at h;exact h
section
variable {op:ByteArray} {a b:Option Addr} {n c m d:Nat} {l:List Int} {es:List ByteArray}
theorem yHh (W:World) (hV:Vl W a n b m l es) (hz:∀j,j<m→(es.getD j ByteArray.empty).size≤maxLen) (hm:yL4 l es=false):
 Calls Tryz.prog 20 #[.string op,.agg #[.slice a n c,.slice b m d]] W (zLk [] [] 1 W):=by
 have KV:=fun w (hb:Below W.heap.size W w)=>zKk (c:=c) (d:=d) w (hV.below hb) hz;rw[hm]at KV;replace KV:=zC KV;have hb0:Below W.heap.size W ((W.alloc (.cells #[.slice a n c,.slice b m d] 25)).alloc (.cells #[.slice none 0 0,.slice none 0 0] 25)):=((zI _ _).alloc (zR _) _).alloc yHn _;have hA:=(Bx.new W a n c b m d).alloc (.cells #[.slice none 0 0,.slice none 0 0] 25);have hR:=Bx.newS (W.alloc (.cells #[.slice a n c,.slice b m d] 25)) (W.heap.size+1) yHn none 0 0 none 0 0;clear hV hz hm;go_in;go_wp2_with fail;refine(KV.out _ hb0).mono ?_;rintro e w1 ⟨rfl,hq⟩;have hA1:=hA.below hq hA.lt;have hR1:=hR.below hq hR.lt;have hb1:=hb0.trans (hq.mono hb0.size);clear hA hR hb0 hq;have r0:=hR1.c0;have r1:=hR1.c1;have f0:=hR1.f 0;have f1:=hR1.f 1;have HR:=zC hR1;have HB:=zC hb1;clear hR1 hb1 hA1;go_wp2_with fail;obtain⟨h1,h3⟩:=zMk HR.out HB.out yEn 1;have b0:=h1.c0;have b1:=h1.c1;exact zE (v:=.tuple #[.agg #[.slice none 0 0,.slice none 0 0],.int .i64 1]) yPm rfl h3
theorem yIh (W:World) (hV:Vl W a n b m l es) (hz:∀j,j<m→(es.getD j ByteArray.empty).size≤maxLen) (hm:yL4 l es=true) (hk:¬kmL op.data.toList<3):
 Calls Tryz.prog 20 #[.string op,.agg #[.slice a n c,.slice b m d]] W (zLk [] [] 1 W):=by
 have KV:=fun w (hb:Below W.heap.size W w)=>zKk (c:=c) (d:=d) w (hV.below hb) hz;rw[hm]at KV;replace KV:=zC KV;have hb0:Below W.heap.size W ((W.alloc (.cells #[.slice a n c,.slice b m d] 25)).alloc (.cells #[.slice none 0 0,.slice none 0 0] 25)):=((zI _ _).alloc (zR _) _).alloc yHn _;have hA:=(Bx.new W a n c b m d).alloc (.cells #[.slice none 0 0,.slice none 0 0] 25);have hR:=Bx.newS (W.alloc (.cells #[.slice a n c,.slice b m d] 25)) (W.heap.size+1) yHn none 0 0 none 0 0;have h3:op.data.toList≠[45]∧op.data.toList≠[126]∧op.data.toList≠[42]:=by
  rcases xPk (l:=op.data.toList) rfl with⟨h,e⟩|⟨h,e⟩|⟨h,e⟩|⟨h,e⟩
  · omega
  · omega
  · omega
  · exact e
 rw[←xAe]at h3;have n1:(op.toList==[45])=false:=zT0.2 h3.1;have n2:(op.toList==[126])=false:=zT0.2 h3.2.1;have n3:(op.toList==[42])=false:=zT0.2 h3.2.2;clear hV hz hm h3 hk;go_in;go_wp2_with fail;refine(KV.out _ hb0).mono ?_;rintro e w1 ⟨rfl,hq⟩;have hA1:=hA.below hq hA.lt;have hR1:=hR.below hq hR.lt;have hb1:=hb0.trans (hq.mono hb0.size);clear hA hR hb0 hq;have r0:=hR1.c0;have r1:=hR1.c1;have f0:=hR1.f 0;have f1:=hR1.f 1;have HR:=zC hR1;have HB:=zC hb1;clear hR1 hb1 hA1;go_wp2_with fail;obtain⟨h1,h3⟩:=zMk HR.out HB.out yEn 1;have b0:=h1.c0;have b1:=h1.c1;exact zE (v:=.tuple #[.agg #[.slice none 0 0,.slice none 0 0],.int .i64 1]) yPm rfl h3
theorem yJh {xs:List Int} (W:World) (hV:Vl W a n b m l es) (hz:∀j,j<m→(es.getD j ByteArray.empty).size≤maxLen) (A1:AIs l es (some (l,xs))):
 Calls Tryz.prog 20 #[.string ⟨#[45]⟩,.agg #[.slice a n c,.slice b m d]] W (zLk l ((xs.map (mnZ 0)).map S) 0 W):=by
 obtain⟨_,e1,s1,p1,q1⟩:=A1.len;simp only at e1 p1 q1;have hn:n≤20:=by have:=(yE9.1 s1).len;rw[hV.s.1]at this;omega
 have hm4:m≤4096:=by have:=(yE9.1 s1).pr;have:=hV.t.1;omega
 have hmx:m=xs.length:=by have:=hV.t.1;omega
 have hmay:=A1.may;have KO:=zC (fun x (hx:x∈xs)=>yGh (0) ⟨#[45]⟩ rfl yCn (q1 x hx));have HX:=zC A1.2.1;have HM:=zC hmx;have HV:=zC hV;have KV:=fun w (hb:Below W.heap.size W w)=>zKk (c:=c) (d:=d) w (hV.below hb) hz;rw[hmay]at KV;replace KV:=zC KV;have hb0:Below W.heap.size W ((W.alloc (.cells #[.slice a n c,.slice b m d] 25)).alloc (.cells #[.slice none 0 0,.slice none 0 0] 25)):=((zI _ _).alloc (zR _) _).alloc yHn _;have hA:=(Bx.new W a n c b m d).alloc (.cells #[.slice none 0 0,.slice none 0 0] 25);have hR:=Bx.newS (W.alloc (.cells #[.slice a n c,.slice b m d] 25)) (W.heap.size+1) yHn none 0 0 none 0 0;clear hV hz A1 e1 p1 q1 hmx s1 hmay;go_in;go_wp2_with fail;refine(KV.out _ hb0).mono ?_;rintro e w1 ⟨rfl,hq⟩;have hA1:=hA.below hq hA.lt;have hR1:=hR.below hq hR.lt;have hb1:=hb0.trans (hq.mono hb0.size);clear hA hR hb0 hq;have x0:=hA1.c0;have x1:=hA1.c1;go_wp2_with fail;have hbl:=(zI w1.heap.size w1).alloc (zR _) (.cells #[.slice a n c,.slice none 0 0] 25);have hO:=Bx.new w1 a n c none 0 0;have hA2:=hA1.below hbl hA1.lt;have hR2:=hR1.below hbl hR1.lt;have hb2:=hb1.trans (hbl.mono hb1.size);have lR:W.heap.size+1<w1.heap.size:=hR1.lt;clear hA1 hR1 x0 x1 KV;go_loopw [7] (fun iv wr=>∃(i:Nat) (av:Option Addr) (cv:Nat),iv=.int .i64 i∧i≤m∧Bx wr W.heap.size a n c b m d∧Bx wr (W.heap.size+1) none 0 0 none 0 0∧Bx wr w1.heap.size a n c av i cv∧wr.ownsRow (w1.heap.size+1) 9 1 (.slice av i cv) i (mnS 0 xs i)∧Below W.heap.size W wr) (fun iv _=>m-(intOf iv).toNat)
 case atStart=>exact⟨0,none,0,rfl,by omega,hA2,hR2,hO,zT _ _ _ _,hb2⟩
 case round=>
  obtain⟨i,av,cv,rfl,hi,hA3,hR3,hO3,ho,hb⟩:=hrel;clear hO hA2 hR2 hb2 hb1 hbl;have x0:=hA3.c0;have x1:=hA3.c1;by_cases hlt:i<m
  · have e2:(i:Int)<(m:Int):=by omega
    have hVr:=HV.out.below hb;obtain⟨gb,off,rfl,hc⟩:=hVr.t.2 yEn;have hck:=hc i hlt;have hxi:i<xs.length:=by have:=HM.out;omega
    rw[HX.out,yE8 hxi]at hck;have KX:=zC (KO.out (xs.getD i 0) xIm wr);have HTK:=zC (yY3 (k:=0) hxi);have HA:=zC hA3;have HR:=zC hR3;have HO3:=zC hO3;have HO:=zC ho;have HB:=zC hb;generalize S (mnZ 0 (xs.getD i 0))=tk at*;generalize S (xs.getD i 0)=sx at*;clear ho hb hc hVr hA3 hR3 hO3;go_wp2_with fail;refine KX.out.mono ?_;rintro e w5 ⟨rfl,hb5⟩;have HA5:=zC (HA.out.below hb5 HA.out.lt);have HR5:=zC (HR.out.below hb5 HR.out.lt);have HB5:=zC (HB.out.trans (hb5.mono HB.out.size));have HO5:=zC (zLe HO.out hb5);have hO5:=HO3.out.below hb5 HO3.out.lt;have y1:=hO5.c1;have f1:=hO5.f 1;have hlO:w1.heap.size<w5.heap.size:=hO5.lt;have HOO:=zC hO5;clear hb5 KX HA HR HO3 HO HB hck x0 x1 hO5;obtain⟨i0,hi0,hz0,hz1,hz2⟩:=zF xC4;go_wp2_with (at_builtin;refine yJ0 _ rfl _ _ 23 rfl (w1.heap.size+1) 9 i0 (.string ⟨#[]⟩) 1 16 Tryz.underlying23 hi0 hz0 hz1 hz2 rfl yCn _ _ _ rfl (HO5.out.alloc _) ⟨w5.heap.size,0,none⟩ 1 1 [.string tk] rfl rfl (yK0 _ _ _) xSm xXm yEn zZn ?_;intro v9 w9 hown9 hg9 _;obtain⟨av',cv',rfl⟩:=zWf hown9;have hb9:Below (w1.heap.size+1) w5 w9:=((zI _ w5).alloc yEn _).grown hg9 zZn (fun q hq=>(HO5.out.lt q hq).1);have hO9:=HOO.out.below hb9 yEn;have z1:=hO9.c1;have g2:=hO9.f 1)
    rw[HTK.out]at hown9;have hA11:=(HA5.out.below hb9 yEn).setOther (p:=⟨w1.heap.size,1,none⟩) (show W.heap.size≠w1.heap.size by omega) (.slice av' (i+1) cv');have hR11:=(HR5.out.below hb9 yEn).setOther (p:=⟨w1.heap.size,1,none⟩) (show W.heap.size+1≠w1.heap.size by omega) (.slice av' (i+1) cv');have hO11:=hO9.set1 av' (i+1) cv';have hr11:=yRf hown9 (p:=⟨w1.heap.size,1,none⟩) (zW _) (.slice av' (i+1) cv');have hb11:=(HB5.out.trans (hb9.mono yEn)).setCell (p:=⟨w1.heap.size,1,none⟩) (show W.heap.size≤w1.heap.size by omega) (.slice av' (i+1) cv');clear hg9 hown9 hb9 hO9 z1 g2;go_roundw
    case rel=>exact⟨i+1,av',cv',by go_num,by omega,hA11,hR11,hO11,hr11,hb11⟩
    case measure=>simp[intOf];omega
  have e2:¬(i:Int)<(m:Int):=by omega
  obtain rfl:i=m:=by omega
  rw[yZ3 HM.out]at ho;have y0:=hO3.c0;have y1:=hO3.c1;have r0:=hR3.c0;have r1:=hR3.c1;have f0:=hR3.f 0;have f1:=hR3.f 1;clear KO;go_wp2_with fail;have hB6:=hR3.set a n c av i cv;have b0:=hB6.c0;have b1:=hB6.c1;exact zE (v:=.tuple #[.agg #[.slice a n c,.slice av i cv],.int .i64 0]) yPm rfl
   ⟨a,n,c,av,i,cv,rfl,⟨hR3.sl (HV.out.s.below hb) _ _,by have h:=hR3.st (zZf ho) (.slice a n c) (.slice av i cv);rw[yZ1]at h;exact h,by omega⟩,hn,yJ4 hb yEn _ _⟩
theorem yKh {xs:List Int} (W:World) (hV:Vl W a n b m l es) (hz:∀j,j<m→(es.getD j ByteArray.empty).size≤maxLen) (A1:AIs l es (some (l,xs))):
 Calls Tryz.prog 20 #[.string ⟨#[126]⟩,.agg #[.slice a n c,.slice b m d]] W (zLk l ((xs.map (mnZ 1)).map S) 0 W):=by
 obtain⟨_,e1,s1,p1,q1⟩:=A1.len;simp only at e1 p1 q1;have hn:n≤20:=by have:=(yE9.1 s1).len;rw[hV.s.1]at this;omega
 have hm4:m≤4096:=by have:=(yE9.1 s1).pr;have:=hV.t.1;omega
 have hmx:m=xs.length:=by have:=hV.t.1;omega
 have hmay:=A1.may;have KO:=zC (fun x (hx:x∈xs)=>yGh (1) ⟨#[126]⟩ rfl yCn (q1 x hx));have HX:=zC A1.2.1;have HM:=zC hmx;have HV:=zC hV;have KV:=fun w (hb:Below W.heap.size W w)=>zKk (c:=c) (d:=d) w (hV.below hb) hz;rw[hmay]at KV;replace KV:=zC KV;have hb0:Below W.heap.size W ((W.alloc (.cells #[.slice a n c,.slice b m d] 25)).alloc (.cells #[.slice none 0 0,.slice none 0 0] 25)):=((zI _ _).alloc (zR _) _).alloc yHn _;have hA:=(Bx.new W a n c b m d).alloc (.cells #[.slice none 0 0,.slice none 0 0] 25);have hR:=Bx.newS (W.alloc (.cells #[.slice a n c,.slice b m d] 25)) (W.heap.size+1) yHn none 0 0 none 0 0;clear hV hz A1 e1 p1 q1 hmx s1 hmay;go_in;go_wp2_with fail;refine(KV.out _ hb0).mono ?_;rintro e w1 ⟨rfl,hq⟩;have hA1:=hA.below hq hA.lt;have hR1:=hR.below hq hR.lt;have hb1:=hb0.trans (hq.mono hb0.size);clear hA hR hb0 hq;have x0:=hA1.c0;have x1:=hA1.c1;go_wp2_with fail;have hbl:=(zI w1.heap.size w1).alloc (zR _) (.cells #[.slice a n c,.slice none 0 0] 25);have hO:=Bx.new w1 a n c none 0 0;have hA2:=hA1.below hbl hA1.lt;have hR2:=hR1.below hbl hR1.lt;have hb2:=hb1.trans (hbl.mono hb1.size);have lR:W.heap.size+1<w1.heap.size:=hR1.lt;clear hA1 hR1 x0 x1 KV;go_loopw [7] (fun iv wr=>∃(i:Nat) (av:Option Addr) (cv:Nat),iv=.int .i64 i∧i≤m∧Bx wr W.heap.size a n c b m d∧Bx wr (W.heap.size+1) none 0 0 none 0 0∧Bx wr w1.heap.size a n c av i cv∧wr.ownsRow (w1.heap.size+1) 9 1 (.slice av i cv) i (mnS 1 xs i)∧Below W.heap.size W wr) (fun iv _=>m-(intOf iv).toNat)
 case atStart=>exact⟨0,none,0,rfl,by omega,hA2,hR2,hO,zT _ _ _ _,hb2⟩
 case round=>
  obtain⟨i,av,cv,rfl,hi,hA3,hR3,hO3,ho,hb⟩:=hrel;clear hO hA2 hR2 hb2 hb1 hbl;have x0:=hA3.c0;have x1:=hA3.c1;by_cases hlt:i<m
  · have e2:(i:Int)<(m:Int):=by omega
    have hVr:=HV.out.below hb;obtain⟨gb,off,rfl,hc⟩:=hVr.t.2 yEn;have hck:=hc i hlt;have hxi:i<xs.length:=by have:=HM.out;omega
    rw[HX.out,yE8 hxi]at hck;have KX:=zC (KO.out (xs.getD i 0) xIm wr);have HTK:=zC (yY3 (k:=1) hxi);have HA:=zC hA3;have HR:=zC hR3;have HO3:=zC hO3;have HO:=zC ho;have HB:=zC hb;generalize S (mnZ 1 (xs.getD i 0))=tk at*;generalize S (xs.getD i 0)=sx at*;clear ho hb hc hVr hA3 hR3 hO3;go_wp2_with fail;refine KX.out.mono ?_;rintro e w5 ⟨rfl,hb5⟩;have HA5:=zC (HA.out.below hb5 HA.out.lt);have HR5:=zC (HR.out.below hb5 HR.out.lt);have HB5:=zC (HB.out.trans (hb5.mono HB.out.size));have HO5:=zC (zLe HO.out hb5);have hO5:=HO3.out.below hb5 HO3.out.lt;have y1:=hO5.c1;have f1:=hO5.f 1;have hlO:w1.heap.size<w5.heap.size:=hO5.lt;have HOO:=zC hO5;clear hb5 KX HA HR HO3 HO HB hck x0 x1 hO5;obtain⟨i0,hi0,hz0,hz1,hz2⟩:=zF xC4;go_wp2_with (at_builtin;refine yJ0 _ rfl _ _ 23 rfl (w1.heap.size+1) 9 i0 (.string ⟨#[]⟩) 1 16 Tryz.underlying23 hi0 hz0 hz1 hz2 rfl yCn _ _ _ rfl (HO5.out.alloc _) ⟨w5.heap.size,0,none⟩ 1 1 [.string tk] rfl rfl (yK0 _ _ _) xSm xXm yEn zZn ?_;intro v9 w9 hown9 hg9 _;obtain⟨av',cv',rfl⟩:=zWf hown9;have hb9:Below (w1.heap.size+1) w5 w9:=((zI _ w5).alloc yEn _).grown hg9 zZn (fun q hq=>(HO5.out.lt q hq).1);have hO9:=HOO.out.below hb9 yEn;have z1:=hO9.c1;have g2:=hO9.f 1)
    rw[HTK.out]at hown9;have hA11:=(HA5.out.below hb9 yEn).setOther (p:=⟨w1.heap.size,1,none⟩) (show W.heap.size≠w1.heap.size by omega) (.slice av' (i+1) cv');have hR11:=(HR5.out.below hb9 yEn).setOther (p:=⟨w1.heap.size,1,none⟩) (show W.heap.size+1≠w1.heap.size by omega) (.slice av' (i+1) cv');have hO11:=hO9.set1 av' (i+1) cv';have hr11:=yRf hown9 (p:=⟨w1.heap.size,1,none⟩) (zW _) (.slice av' (i+1) cv');have hb11:=(HB5.out.trans (hb9.mono yEn)).setCell (p:=⟨w1.heap.size,1,none⟩) (show W.heap.size≤w1.heap.size by omega) (.slice av' (i+1) cv');clear hg9 hown9 hb9 hO9 z1 g2;go_roundw
    case rel=>exact⟨i+1,av',cv',by go_num,by omega,hA11,hR11,hO11,hr11,hb11⟩
    case measure=>simp[intOf];omega
  have e2:¬(i:Int)<(m:Int):=by omega
  obtain rfl:i=m:=by omega
  rw[yZ3 HM.out]at ho;have y0:=hO3.c0;have y1:=hO3.c1;have r0:=hR3.c0;have r1:=hR3.c1;have f0:=hR3.f 0;have f1:=hR3.f 1;clear KO;go_wp2_with fail;have hB6:=hR3.set a n c av i cv;have b0:=hB6.c0;have b1:=hB6.c1;exact zE (v:=.tuple #[.agg #[.slice a n c,.slice av i cv],.int .i64 0]) yPm rfl
   ⟨a,n,c,av,i,cv,rfl,⟨hR3.sl (HV.out.s.below hb) _ _,by have h:=hR3.st (zZf ho) (.slice a n c) (.slice av i cv);rw[yZ1]at h;exact h,by omega⟩,hn,yJ4 hb yEn _ _⟩
theorem yLh {xs:List Int} (W:World) (hV:Vl W a n b m l es) (hz:∀j,j<m→(es.getD j ByteArray.empty).size≤maxLen) (A1:AIs l es (some (l,xs))):
 Calls Tryz.prog 20 #[.string ⟨#[42]⟩,.agg #[.slice a n c,.slice b m d]] W (zLk l ((xs.map (mnZ 2)).map S) 0 W):=by
 obtain⟨_,e1,s1,p1,q1⟩:=A1.len;simp only at e1 p1 q1;have hn:n≤20:=by have:=(yE9.1 s1).len;rw[hV.s.1]at this;omega
 have hm4:m≤4096:=by have:=(yE9.1 s1).pr;have:=hV.t.1;omega
 have hmx:m=xs.length:=by have:=hV.t.1;omega
 have hmay:=A1.may;have KO:=zC (fun x (hx:x∈xs)=>yGh (2) ⟨#[42]⟩ rfl yCn (q1 x hx));have HX:=zC A1.2.1;have HM:=zC hmx;have HV:=zC hV;have KV:=fun w (hb:Below W.heap.size W w)=>zKk (c:=c) (d:=d) w (hV.below hb) hz;rw[hmay]at KV;replace KV:=zC KV;have hb0:Below W.heap.size W ((W.alloc (.cells #[.slice a n c,.slice b m d] 25)).alloc (.cells #[.slice none 0 0,.slice none 0 0] 25)):=((zI _ _).alloc (zR _) _).alloc yHn _;have hA:=(Bx.new W a n c b m d).alloc (.cells #[.slice none 0 0,.slice none 0 0] 25);have hR:=Bx.newS (W.alloc (.cells #[.slice a n c,.slice b m d] 25)) (W.heap.size+1) yHn none 0 0 none 0 0;clear hV hz A1 e1 p1 q1 hmx s1 hmay;go_in;go_wp2_with fail;refine(KV.out _ hb0).mono ?_;rintro e w1 ⟨rfl,hq⟩;have hA1:=hA.below hq hA.lt;have hR1:=hR.below hq hR.lt;have hb1:=hb0.trans (hq.mono hb0.size);clear hA hR hb0 hq;have x0:=hA1.c0;have x1:=hA1.c1;go_wp2_with fail;have hbl:=(zI w1.heap.size w1).alloc (zR _) (.cells #[.slice a n c,.slice none 0 0] 25);have hO:=Bx.new w1 a n c none 0 0;have hA2:=hA1.below hbl hA1.lt;have hR2:=hR1.below hbl hR1.lt;have hb2:=hb1.trans (hbl.mono hb1.size);have lR:W.heap.size+1<w1.heap.size:=hR1.lt;clear hA1 hR1 x0 x1 KV;go_loopw [7] (fun iv wr=>∃(i:Nat) (av:Option Addr) (cv:Nat),iv=.int .i64 i∧i≤m∧Bx wr W.heap.size a n c b m d∧Bx wr (W.heap.size+1) none 0 0 none 0 0∧Bx wr w1.heap.size a n c av i cv∧wr.ownsRow (w1.heap.size+1) 9 1 (.slice av i cv) i (mnS 2 xs i)∧Below W.heap.size W wr) (fun iv _=>m-(intOf iv).toNat)
 case atStart=>exact⟨0,none,0,rfl,by omega,hA2,hR2,hO,zT _ _ _ _,hb2⟩
 case round=>
  obtain⟨i,av,cv,rfl,hi,hA3,hR3,hO3,ho,hb⟩:=hrel;clear hO hA2 hR2 hb2 hb1 hbl;have x0:=hA3.c0;have x1:=hA3.c1;by_cases hlt:i<m
  · have e2:(i:Int)<(m:Int):=by omega
    have hVr:=HV.out.below hb;obtain⟨gb,off,rfl,hc⟩:=hVr.t.2 yEn;have hck:=hc i hlt;have hxi:i<xs.length:=by have:=HM.out;omega
    rw[HX.out,yE8 hxi]at hck;have KX:=zC (KO.out (xs.getD i 0) xIm wr);have HTK:=zC (yY3 (k:=2) hxi);have HA:=zC hA3;have HR:=zC hR3;have HO3:=zC hO3;have HO:=zC ho;have HB:=zC hb;generalize S (mnZ 2 (xs.getD i 0))=tk at*;generalize S (xs.getD i 0)=sx at*;clear ho hb hc hVr hA3 hR3 hO3;go_wp2_with fail;refine KX.out.mono ?_;rintro e w5 ⟨rfl,hb5⟩;have HA5:=zC (HA.out.below hb5 HA.out.lt);have HR5:=zC (HR.out.below hb5 HR.out.lt);have HB5:=zC (HB.out.trans (hb5.mono HB.out.size));have HO5:=zC (zLe HO.out hb5);have hO5:=HO3.out.below hb5 HO3.out.lt;have y1:=hO5.c1;have f1:=hO5.f 1;have hlO:w1.heap.size<w5.heap.size:=hO5.lt;have HOO:=zC hO5;clear hb5 KX HA HR HO3 HO HB hck x0 x1 hO5;obtain⟨i0,hi0,hz0,hz1,hz2⟩:=zF xC4;go_wp2_with (at_builtin;refine yJ0 _ rfl _ _ 23 rfl (w1.heap.size+1) 9 i0 (.string ⟨#[]⟩) 1 16 Tryz.underlying23 hi0 hz0 hz1 hz2 rfl yCn _ _ _ rfl (HO5.out.alloc _) ⟨w5.heap.size,0,none⟩ 1 1 [.string tk] rfl rfl (yK0 _ _ _) xSm xXm yEn zZn ?_;intro v9 w9 hown9 hg9 _;obtain⟨av',cv',rfl⟩:=zWf hown9;have hb9:Below (w1.heap.size+1) w5 w9:=((zI _ w5).alloc yEn _).grown hg9 zZn (fun q hq=>(HO5.out.lt q hq).1);have hO9:=HOO.out.below hb9 yEn;have z1:=hO9.c1;have g2:=hO9.f 1)
    rw[HTK.out]at hown9;have hA11:=(HA5.out.below hb9 yEn).setOther (p:=⟨w1.heap.size,1,none⟩) (show W.heap.size≠w1.heap.size by omega) (.slice av' (i+1) cv');have hR11:=(HR5.out.below hb9 yEn).setOther (p:=⟨w1.heap.size,1,none⟩) (show W.heap.size+1≠w1.heap.size by omega) (.slice av' (i+1) cv');have hO11:=hO9.set1 av' (i+1) cv';have hr11:=yRf hown9 (p:=⟨w1.heap.size,1,none⟩) (zW _) (.slice av' (i+1) cv');have hb11:=(HB5.out.trans (hb9.mono yEn)).setCell (p:=⟨w1.heap.size,1,none⟩) (show W.heap.size≤w1.heap.size by omega) (.slice av' (i+1) cv');clear hg9 hown9 hb9 hO9 z1 g2;go_roundw
    case rel=>exact⟨i+1,av',cv',by go_num,by omega,hA11,hR11,hO11,hr11,hb11⟩
    case measure=>simp[intOf];omega
  have e2:¬(i:Int)<(m:Int):=by omega
  obtain rfl:i=m:=by omega
  rw[yZ3 HM.out]at ho;have y0:=hO3.c0;have y1:=hO3.c1;have r0:=hR3.c0;have r1:=hR3.c1;have f0:=hR3.f 0;have f1:=hR3.f 1;clear KO;go_wp2_with fail;have hB6:=hR3.set a n c av i cv;have b0:=hB6.c0;have b1:=hB6.c1;exact zE (v:=.tuple #[.agg #[.slice a n c,.slice av i cv],.int .i64 0]) yPm rfl
   ⟨a,n,c,av,i,cv,rfl,⟨hR3.sl (HV.out.s.below hb) _ _,by have h:=hR3.st (zZf ho) (.slice a n c) (.slice av i cv);rw[yZ1]at h;exact h,by omega⟩,hn,yJ4 hb yEn _ _⟩
end
theorem yMh {op:ByteArray} {c:UInt8} (h:op.data.toList=[c]):op=⟨#[c]⟩:=by
 obtain⟨⟨d⟩⟩:=op;have h:d=[c]:=h;rw[h]
theorem yNh {op:ByteArray} {a b:Option Addr} {n c m d:Nat} {l:List Int} {es:List ByteArray} {o:Option Ar} (W:World) (hV:Vl W a n b m l es) (hz:∀j,j<m→(es.getD j ByteArray.empty).size≤maxLen) (A1:AIs l es o):
 Calls Tryz.prog 20 #[.string op,.agg #[.slice a n c,.slice b m d]] W (zLk (TS (mnA (kmL op.data.toList) o).1).1 (TS (mnA (kmL op.data.toList) o).1).2 (mnA (kmL op.data.toList) o).2 W):=by
 cases o with
 |none=>exact yHh W hV hz A1
 |some q=>
 by_cases hk:kmL op.data.toList<3
 · obtain⟨l',xs⟩:=q
   obtain⟨g1,_⟩:=A1.len;simp only at g1;subst g1;have e:mnA (kmL op.data.toList) (some (l',xs))=(some (l',xs.map (mnZ (kmL op.data.toList))),0):=by simp only[mnA];rw[zY yEn]
   rw[e];rcases xPk (l:=op.data.toList) rfl with⟨h,e⟩|⟨h,e⟩|⟨h,e⟩|⟨h,e⟩
   · rw[h];obtain rfl:=yMh e;exact yJh W hV hz A1
   · rw[h];obtain rfl:=yMh e;exact yKh W hV hz A1
   · rw[h];obtain rfl:=yMh e;exact yLh W hV hz A1
   · omega
 · have e:mnA (kmL op.data.toList) (some q)=(none,1):=by
    obtain⟨l',xs⟩:=q;simp only[mnA];rw[yA hk]
   rw[e];exact yIh W hV hz A1.may hk
end Go.Proofs.YtcfbjdplhgdpfaaGreatDoor

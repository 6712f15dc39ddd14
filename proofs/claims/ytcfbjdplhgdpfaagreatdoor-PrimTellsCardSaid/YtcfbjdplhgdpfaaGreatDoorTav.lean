import Derived.Test.YtcfbjdplhgdpfaaGreatDoorTau
set_option maxHeartbeats 6400000
set_option maxRecDepth 100000
namespace Go.Proofs.YtcfbjdplhgdpfaaGreatDoor
set_option linter.unusedVariables false
set_option linter.unusedSimpArgs false
theorem xIm {P:Prop}(h:P:=by rw[yJ,yM hxi];exact xH hxi):P:=h
theorem zDm {P:Prop}(h:P:=by simp[results,Tryz.results109,go_sem,b0,b1]):P:=h
abbrev zA0:=@Go.RowKit.Below.cell
section
open Go.RowKit
def mnS (k:Nat) (xs:List Int) (i:Nat):List Value:=zTf (((xs.take i).map (mnZ k)).map S)
theorem yY3 {k i:Nat} {xs:List Int} (hi:i<xs.length):mnS k xs i++[.string (S (mnZ k (xs.getD i 0)))]=mnS k xs (i+1):=by
 unfold mnS;rw[yE0 hi,zN,zN,yJ,yM hi];exact(yQf _ _).symm
theorem yZ3 {k:Nat} {xs:List Int} {n:Nat} (h:n=xs.length):mnS k xs n=zTf ((xs.map (mnZ k)).map S):=by
 unfold mnS;rw[h,yW (zR _)]
theorem xA3 {op:ByteArray} (ho:op.size≤maxLen) (hk:kmL op.data.toList<3) {x:Int} (hx:x.natAbs<lim):xTk op (S x) (S (mnZ (kmL op.data.toList) x)) 0:=by
 have h:=zD7 ho (show Is (S x) (some x)from⟨rfl,hx⟩);simp only[mnO,zJd hk]at h;exact h
theorem xB3 {w5 w0:World} {g:Nat} (h:Bx w5 g none 0 0 none 0 0) (hb:Below w0.heap.size w0 w5) (hg:w0.heap.size≤g) (ec:Int):
 Bx ((w5.setCell ⟨g,0,none⟩ (.slice none 0 0)).setCell ⟨g,1,none⟩ (.slice none 0 0)) g none 0 0 none 0 0
 ∧yPf [] [] ec w0 (.returned (.tuple #[.agg #[.slice none 0 0,.slice none 0 0],.int .i64 ec])) ((w5.setCell ⟨g,0,none⟩ (.slice none 0 0)).setCell ⟨g,1,none⟩ (.slice none 0 0)):=
 ⟨h.set none 0 0 none 0 0,none,0,0,none,0,0,rfl,Vl.none_ _,⟨by omega,by unfold maxLen;omega,by omega,by unfold maxLen;omega⟩,yJ4 hb hg _ _⟩
theorem Bx.newS (W:World) (g:Nat) (hg:W.heap.size=g) (a:Option Addr) (n c:Nat) (b:Option Addr) (m d:Nat):Bx (W.alloc (.cells #[.slice a n c,.slice b m d] 25)) g a n c b m d:=by rw[←hg];exact Bx.new W a n c b m d
theorem xC3 (op:ByteArray) (ho:op.size≤maxLen) (w:World):Calls Tryz.prog 144 #[.string op,.string ⟨#[45,126,42]⟩] w (yX4 (decide (kmL op.data.toList<3)) w):=by
 have K2:=yM8 op ⟨#[45,126,42]⟩ ho w;rw[show(⟨#[45,126,42]⟩:ByteArray).data.toList=[45,126,42]from rfl,yK8]at K2;exact K2
section
variable {op:ByteArray} {a b:Option Addr} {n c m d:Nat} {l:List Int} {es:List ByteArray}
theorem xD3 (W:World) (hW:SM W) (ho:op.size≤maxLen) (hk:¬kmL op.data.toList<3):
 Calls Tryz.prog 109 #[.string op,.agg #[.slice a n c,.slice b m d]] W (yPf [] [] 1 W):=by
 have KS:=fun w=>xC3 op ho w;rw[yG0 hk]at KS;replace KS:=zC KS;have hb0:Below W.heap.size W ((W.alloc (.cells #[.slice a n c,.slice b m d] 25)).alloc (.cells #[.slice none 0 0,.slice none 0 0] 25)):=((zI _ _).alloc (zR _) _).alloc yHn _;have hR:=Bx.newS (W.alloc (.cells #[.slice a n c,.slice b m d] 25)) (W.heap.size+1) yHn none 0 0 none 0 0;have KM:=zC (zKl _ (hW.below hb0));clear hW ho hk;go_in;go_wp2_with fail;refine KM.out.mono ?_;rintro e w1 ⟨rfl,hq⟩;have hR1:=hR.below hq hR.lt;have hb1:=hb0.trans (hq.mono hb0.size);clear hR hb0 hq KM;go_wp2_with fail;refine(KS.out _).mono ?_;rintro e w2 ⟨rfl,hq⟩;have hR2:=hR1.below hq hR1.lt;have hb2:=hb1.trans (hq.mono hb1.size);clear hR1 hb1 hq;have r0:=hR2.c0;have r1:=hR2.c1;have f0:=hR2.f 0;have f1:=hR2.f 1;have HR:=zC hR2;have HB:=zC hb2;clear hR2 hb2;go_wp2_with fail;obtain⟨h1,h3⟩:=xB3 HR.out HB.out yEn 1;have b0:=h1.c0;have b1:=h1.c1;exact zE (v:=.tuple #[.agg #[.slice none 0 0,.slice none 0 0],.int .i64 1]) zDm rfl h3
theorem xE3 (W:World) (hW:SM W) (ho:op.size≤maxLen) (hk:kmL op.data.toList<3) (hV:Vl W a n b m l es) (hz:∀j,j<m→(es.getD j ByteArray.empty).size≤maxLen) (hm:yL4 l es=false):
 Calls Tryz.prog 109 #[.string op,.agg #[.slice a n c,.slice b m d]] W (yPf [] [] 1 W):=by
 have KS:=fun w=>xC3 op ho w;rw[yI0 hk]at KS;replace KS:=zC KS;have KV:=fun w (hb:Below W.heap.size W w)=>yZ4 (c:=c) (d:=d) w (hV.below hb) hz;rw[hm]at KV;replace KV:=zC KV;have hb0:Below W.heap.size W ((W.alloc (.cells #[.slice a n c,.slice b m d] 25)).alloc (.cells #[.slice none 0 0,.slice none 0 0] 25)):=((zI _ _).alloc (zR _) _).alloc yHn _;have hA:=(Bx.new W a n c b m d).alloc (.cells #[.slice none 0 0,.slice none 0 0] 25);have hR:=Bx.newS (W.alloc (.cells #[.slice a n c,.slice b m d] 25)) (W.heap.size+1) yHn none 0 0 none 0 0;have KM:=zC (zKl _ (hW.below hb0));clear hW ho hk hV hz hm;go_in;go_wp2_with fail;refine KM.out.mono ?_;rintro e w1 ⟨rfl,hq⟩;have hA1:=hA.below hq hA.lt;have hR1:=hR.below hq hR.lt;have hb1:=hb0.trans (hq.mono hb0.size);clear hA hR hb0 hq KM;go_wp2_with fail;refine(KS.out _).mono ?_;rintro e w2 ⟨rfl,hq⟩;have hA2:=hA1.below hq hA1.lt;have hR2:=hR1.below hq hR1.lt;have hb2:=hb1.trans (hq.mono hb1.size);clear hA1 hR1 hb1 hq;have x0:=hA2.c0;have x1:=hA2.c1;go_wp2_with fail;refine(KV.out _ hb2).mono ?_;rintro e w3 ⟨rfl,hq⟩;have hR3:=hR2.below hq hR2.lt;have hb3:=hb2.trans (hq.mono hb2.size);clear hA2 hR2 hb2 hq x0 x1;have r0:=hR3.c0;have r1:=hR3.c1;have f0:=hR3.f 0;have f1:=hR3.f 1;have HR:=zC hR3;have HB:=zC hb3;clear hR3 hb3;go_wp2_with fail;obtain⟨h1,h3⟩:=xB3 HR.out HB.out yEn 1;have b0:=h1.c0;have b1:=h1.c1;exact zE (v:=.tuple #[.agg #[.slice none 0 0,.slice none 0 0],.int .i64 1]) zDm rfl h3
theorem xF3 {xs:List Int} (W:World) (hW:SM W) (ho:op.size≤maxLen) (hk:kmL op.data.toList<3) (hV:Vl W a n b m l es) (hz:∀j,j<m→(es.getD j ByteArray.empty).size≤maxLen) (A1:AIs l es (some (l,xs))):
 Calls Tryz.prog 109 #[.string op,.agg #[.slice a n c,.slice b m d]] W (yPf l ((xs.map (mnZ (kmL op.data.toList))).map S) 0 W):=by
 obtain⟨_,e1,s1,p1,q1⟩:=A1.len;simp only at e1 p1 q1;have hn:n≤20:=by have:=(yE9.1 s1).len;rw[hV.s.1]at this;omega
 have hm4:m≤4096:=by have:=(yE9.1 s1).pr;have:=hV.t.1;omega
 have hmx:m=xs.length:=by have:=hV.t.1;omega
 have KS:=fun w=>xC3 op ho w;rw[yI0 hk]at KS;replace KS:=zC KS;have KV:=fun w (hb:Below W.heap.size W w)=>yZ4 (c:=c) (d:=d) w (hV.below hb) hz;rw[A1.may]at KV;replace KV:=zC KV;have KO:=zC (fun x (hx:x∈xs)=>xA3 ho hk (q1 x hx));have KC:=zC (fun w (hb:Below W.heap.size W w)=>xG8 a n c l w (hV.s.below hb) hn);have HX:=zC A1.2.1;have HM:=zC hmx;have HV:=zC hV;have HW:=zC hW;have hb0:Below W.heap.size W ((W.alloc (.cells #[.slice a n c,.slice b m d] 25)).alloc (.cells #[.slice none 0 0,.slice none 0 0] 25)):=((zI _ _).alloc (zR _) _).alloc yHn _;have hA:=(Bx.new W a n c b m d).alloc (.cells #[.slice none 0 0,.slice none 0 0] 25);have hR:=Bx.newS (W.alloc (.cells #[.slice a n c,.slice b m d] 25)) (W.heap.size+1) yHn none 0 0 none 0 0;have KM:=zC (zKl _ (hW.below hb0));generalize kmL op.data.toList=k at*;clear hW ho hk hV hz A1 e1 p1 q1 hmx s1;go_in;go_wp2_with fail;refine KM.out.mono ?_;rintro e w1 ⟨rfl,hq⟩;have hA1:=hA.below hq hA.lt;have hR1:=hR.below hq hR.lt;have hb1:=hb0.trans (hq.mono hb0.size);clear hA hR hb0 hq KM;go_wp2_with fail;refine(KS.out _).mono ?_;rintro e w2 ⟨rfl,hq⟩;have hA2:=hA1.below hq hA1.lt;have hR2:=hR1.below hq hR1.lt;have hb2:=hb1.trans (hq.mono hb1.size);clear hA1 hR1 hb1 hq;have x0:=hA2.c0;have x1:=hA2.c1;go_wp2_with fail;refine(KV.out _ hb2).mono ?_;rintro e w3 ⟨rfl,hq⟩;have hA3:=hA2.below hq hA2.lt;have hR3:=hR2.below hq hR2.lt;have hb3:=hb2.trans (hq.mono hb2.size);clear hA2 hR2 hb2 hq x0 x1;have x0:=hA3.c0;have x1:=hA3.c1;have lR:W.heap.size+1<w3.heap.size:=hR3.lt;go_wp2_with fail;go_loopw [6,24] (fun ev iv wr=>∃i:Nat,iv=.int .i64 i∧i≤m∧wr.ownsRow w3.heap.size 9 1 ev i (mnS k xs i)∧Below w3.heap.size w3 wr) (fun _ iv _=>m-(intOf iv).toNat)
 case atStart=>exact⟨0,rfl,by omega,zT _ _ _ _,zI _ _⟩
 case round=>
  obtain⟨i,rfl,hi,ho,hb⟩:=hrel;by_cases hlt:i<m
  · have e2:(i:Int)<(m:Int):=by omega
    have hbW:=hb3.trans (hb.mono hb3.size);have hVr:=HV.out.below hbW;obtain⟨gb,off,rfl,hc⟩:=hVr.t.2 yEn;have hck:=hc i hlt;have hxi:i<xs.length:=by have:=HM.out;omega
    rw[HX.out,yE8 hxi]at hck;have KX:=zC (KO.out (xs.getD i 0) xIm wr (HW.out.below hbW).sc);have HTK:=zC (yY3 (k:=k) hxi);have HO:=zC ho;have HB:=zC hb;generalize S (mnZ k (xs.getD i 0))=tk at*;generalize S (xs.getD i 0)=sx at*;clear ho hb hc hVr hbW x0 x1 hA3 hR3 hb3;go_wp2_with fail;refine KX.out.mono ?_;rintro e w5 ⟨rfl,hb5⟩;have HO5:=zC (zLe HO.out hb5);have HB5:=zC (HB.out.trans (hb5.mono HB.out.size));have hsz:=HB5.out.size;clear hb5 KX HO HB hck;obtain⟨av,cv,rfl⟩:=zWf HO5.out;obtain⟨i0,hi0,hz0,hz1,hz2⟩:=zF xC4;go_wp2_with (at_builtin;refine yJ0 _ rfl _ _ 23 rfl (w3.heap.size) 9 i0 (.string ⟨#[]⟩) 1 16 Tryz.underlying23 hi0 hz0 hz1 hz2 rfl yCn _ _ _ rfl (HO5.out.alloc _) ⟨w5.heap.size,0,none⟩ 1 1 [.string tk] rfl rfl (yK0 _ _ _) xSm xXm yEn zZn ?_;intro v1 w6 hown1 hg1 _)
    have hb6:Below w3.heap.size w3 w6:=(HB5.out.alloc HB5.out.size _).grown hg1 zZn (fun q hq=>by have:=(HO5.out.lt q hq).1;omega);rw[HTK.out]at hown1;have HO6:=zC hown1;have HB6:=zC hb6;clear hown1 hb6 hg1 HO5 HB5;go_wp2_with fail;go_roundw
    case rel=>exact⟨i+1,by go_num,by omega,HO6.out,HB6.out⟩
    case measure=>simp[intOf];omega
  have e2:¬(i:Int)<(m:Int):=by omega
  obtain rfl:i=m:=by omega
  obtain⟨av,cv,rfl⟩:=zWf ho;have hAr:=hA3.below hb hA3.lt;have hRr:=hR3.below hb hR3.lt;have hbr:=hb3.trans (hb.mono hb3.size);have KC1:=zC (KC.out wr hbr);rw[yZ3 HM.out]at ho;clear x0 x1 hA3 hR3 hb3 KO KC KS KV hb;have x0:=hAr.c0;have x1:=hAr.c1;go_wp2_with fail;refine KC1.out.mono ?_;rintro e w5 ⟨a',n',c',rfl,hs,hn',q1,q2,hq⟩;have hR5:=hRr.below hq hRr.lt;have ho5:=zLe ho hq;have hb5:=hbr.trans (hq.mono hbr.size);clear hAr hRr ho hbr x0 x1 KC1 hq;have r0:=hR5.c0;have r1:=hR5.c1;have f0:=hR5.f 0;have f1:=hR5.f 1;go_wp2_with fail;have hB6:=hR5.set a' n' c' av i cv;have b0:=hB6.c0;have b1:=hB6.c1;have hc:=xE8 ho5;exact zE (v:=.tuple #[.agg #[.slice a' n' c',.slice av i cv],.int .i64 0]) zDm rfl
   ⟨a',n',c',av,i,cv,rfl,⟨hR5.sl hs _ _,hR5.st (zZf ho5) _ _,by omega⟩,⟨q1,q2,hc.1,hc.2⟩,yJ4 hb5 yEn _ _⟩
end
theorem xG3 {op:ByteArray} {a b:Option Addr} {n c m d:Nat} {l:List Int} {es:List ByteArray} {o:Option Ar} (W:World) (hW:SM W) (ho:op.size≤maxLen) (hV:Vl W a n b m l es) (hz:∀j,j<m→(es.getD j ByteArray.empty).size≤maxLen) (A1:AIs l es o):
 Calls Tryz.prog 109 #[.string op,.agg #[.slice a n c,.slice b m d]] W (yPf (TS (mnA (kmL op.data.toList) o).1).1 (TS (mnA (kmL op.data.toList) o).1).2 (mnA (kmL op.data.toList) o).2 W):=by
 by_cases hk:kmL op.data.toList<3
 · cases o with
   |none=>exact xE3 W hW ho hk hV hz A1
   |some q=>
    obtain⟨l',xs⟩:=q;obtain⟨g1,_⟩:=A1.len;simp only at g1;subst g1;have e:mnA (kmL op.data.toList) (some (l',xs))=(some (l',xs.map (mnZ (kmL op.data.toList))),0):=by simp only[mnA];rw[zY yEn]
    rw[e];exact xF3 W hW ho hk hV hz A1
 · have e:mnA (kmL op.data.toList) o=(none,1):=by
    cases o with
    |none=>rfl
    |some q=>obtain⟨l',xs⟩:=q;simp only[mnA];rw[yA hk]
   rw[e];exact xD3 W hW ho hk
end
section
open Go.RowKit
theorem xH3 {l:List Int} {es:List ByteArray} {q:Ar} (h:AIs l es (some q)) {m:Nat} (hm:m=es.length):∀j,j<m→(es.getD j ByteArray.empty).size≤maxLen:=by
 intro j hj;obtain⟨_,h2,_,h4⟩:=h;have hl:j<q.2.length:=by rw[hm,h2,zD0]at hj;exact hj
 rw[h2,yE8 hl];exact(show Is (S (q.2.getD j 0)) (some (q.2.getD j 0))from⟨rfl,yF8 h4 j⟩).size
theorem xI3 {o:Option Ar} (h:AIs (TS o).1 (TS o).2 o) {m:Nat} (hm:m=(TS o).2.length):∀j,j<m→((TS o).2.getD j ByteArray.empty).size≤maxLen:=by
 cases o with
 |none=>
  intro j hj;rw[hm]at hj;exact absurd hj (by simp[TS])
 |some q=>exact xH3 h hm
end
section
open Go.RowKit
def OwI (W W':World) (a:Option Addr) (n c:Nat) (l:List Int):Prop:=W'.ownsRow W.heap.size 3 1 (.slice a n c) n (yS9 l)
def OwS (W W':World) (a:Option Addr) (n c:Nat) (l:List ByteArray):Prop:=W'.ownsRow W.heap.size 9 1 (.slice a n c) n (zTf l)
def ClI (n:Nat) (l:List Int) (W:World) (x:Ending) (W':World):Prop:=∃a c,x=.returned (.slice a n c)∧OwI W W' a n c l∧Below W.heap.size W W'
def ClS (n:Nat) (l:List ByteArray) (W:World) (x:Ending) (W':World):Prop:=∃a c,x=.returned (.slice a n c)∧OwS W W' a n c l∧Below W.heap.size W W'
theorem xJ3 (a:Option Addr) (n c:Nat) (l:List Int) (W:World) (h:Sl W a n l) (hn:n≤1000000):Calls Tryz.prog 100 #[.slice a n c] W (ClI n l W):=by
 have hl:=h.1;subst hl;rcases a with _|a
 · have h0:l.length=0:=by
    rcases yL0 l.length with h0|h0
    · exact h0
    · obtain⟨b,off,e,_⟩:=h.2 h0;cases e
   obtain rfl:=yO0.1 h0;refine(Tryz.slices_Clone_int_nil 0 c W).mono ?_;rintro x w ⟨rfl,rfl⟩;exact⟨none,0,rfl,zT _ _ _ _,zI _ _⟩
 · by_cases h0:l.length=0
   · obtain rfl:=yO0.1 h0
     refine(Tryz.slices_Clone_int_zero a c W).mono ?_;rintro x w ⟨v',rfl,hown,_,hb⟩;obtain⟨a',c',rfl⟩:=zWf hown;exact⟨a',c',rfl,hown,hb⟩
   · obtain⟨b,off,e,hc⟩:=h.2 yEn
     injection e with e
     subst e;refine(Tryz.slices_Clone_int b off l.length c l W (zR _) yEn (fun j hj=>hc j hj)).mono ?_;rintro x w ⟨v',rfl,hown,_,hb⟩;rw[yW (zR _)]at hown;obtain⟨a',c',rfl⟩:=zWf hown;exact⟨a',c',rfl,hown,hb⟩
theorem xK3 (a:Option Addr) (n c:Nat) (es:List ByteArray) (W:World) (h:St W a n es) (hn:n≤1000000):Calls Tryz.prog 138 #[.slice a n c] W (ClS n es W):=by
 have hl:=h.1;subst hl;rcases a with _|a
 · have h0:es.length=0:=by
    rcases yL0 es.length with h0|h0
    · exact h0
    · obtain⟨b,off,e,_⟩:=h.2 h0;cases e
   obtain rfl:=yO0.1 h0;refine(Tryz.slices_Clone_string_nil 0 c W).mono ?_;rintro x w ⟨rfl,rfl⟩;exact⟨none,0,rfl,zT _ _ _ _,zI _ _⟩
 · by_cases h0:es.length=0
   · obtain rfl:=yO0.1 h0
     refine(Tryz.slices_Clone_string_zero a c W).mono ?_;rintro x w ⟨v',rfl,hown,_,hb⟩;obtain⟨a',c',rfl⟩:=zWf hown;exact⟨a',c',rfl,hown,hb⟩
   · obtain⟨b,off,e,hc⟩:=h.2 yEn
     injection e with e
     subst e;refine(Tryz.slices_Clone_string b off es.length c es W (zR _) yEn (fun j hj=>hc j hj)).mono ?_;rintro x w ⟨v',rfl,hown,_,hb⟩;rw[yW (zR _)]at hown;obtain⟨a',c',rfl⟩:=zWf hown;exact⟨a',c',rfl,hown,hb⟩
theorem OwI.sl {W w:World} {a:Option Addr} {n c:Nat} {l:List Int} (h:OwI W w a n c l):Sl w a n l:=zYf h
theorem OwS.st {W w:World} {a:Option Addr} {n c:Nat} {l:List ByteArray} (h:OwS W w a n c l):St w a n l:=zZf h
theorem OwI.caps {W w:World} {a:Option Addr} {n c:Nat} {l:List Int} (h:OwI W w a n c l):n≤c∧c≤maxLen:=xE8 h
theorem OwS.caps {W w:World} {a:Option Addr} {n c:Nat} {l:List ByteArray} (h:OwS W w a n c l):n≤c∧c≤maxLen:=xE8 h
structure Av (W:World) (a:Option Addr) (n c:Nat) (b:Option Addr) (m d:Nat) (l:List Int) (es:List ByteArray) (o:Option Ar):Prop where
 v:Vl W a n b m l es
 c:Cp n c m d
 z:∀j,j<m→(es.getD j ByteArray.empty).size≤maxLen
 i:AIs l es o
def Rok:Option Ar→Prop
 |none=>True
 |some q=>szE q.1=0∧(q.2.length:Int)=pr q.1∧∀x∈q.2,x.natAbs<lim
theorem Rok.ais:∀{o:Option Ar},Rok o→AIs (TS o).1 (TS o).2 o
 |none,_=>zDi
 |some _,h=>zFi h.1 h.2.1 h.2.2
theorem AIs.rok {l:List Int} {es:List ByteArray}:∀{o:Option Ar},AIs l es o→Rok o
 |none,_=>trivial
 |some _,h=>by
  obtain⟨h1,_,h3,h4,h5⟩:=h.len;exact⟨by rw[h1];exact h3,by rw[h1];exact h4,h5⟩
theorem Rok.sz {o:Option Ar} (h:Rok o) {m:Nat} (hm:m=(TS o).2.length):∀j,j<m→((TS o).2.getD j ByteArray.empty).size≤maxLen:=by
 cases o with
 |none=>intro j hj;rw[hm]at hj;cases hj
 |some q=>exact xH3 h.ais hm
section
variable {W w:World} {a b:Option Addr} {n c m d:Nat} {l:List Int} {es:List ByteArray} {o:Option Ar} {q:Ar}
theorem Av.below (h:Av W a n c b m d l es o) (hb:Below W.heap.size W w):Av w a n c b m d l es o:=⟨h.v.below hb,h.c,h.z,h.i⟩
theorem Av.sz (h:Av W a n c b m d l es (some q)):szE l=0:=h.i.len.2.2.1
theorem Av.fst (h:Av W a n c b m d l es (some q)):q.1=l:=h.i.1
theorem Av.n3 (h:Av W a n c b m d l es (some q)):n≤3:=yZ9 h.sz h.v.s.1
theorem Av.mlen (h:Av W a n c b m d l es (some q)):m=q.2.length∧(m:Int)=pr l∧m≤4096:=by
 obtain⟨h1,h2,h3,h4,_⟩:=h.i.len;have e:=h.v.t.1;have h5:=(xA9 h3).2;exact⟨by omega,by omega,by omega⟩
theorem Av.fits (h:Av W a n c b m d l es (some q)):Fits q.1 q.2:=by
 obtain⟨h1,_,h3,h4,_⟩:=h.i.len;exact⟨by rw[h1];exact yE9.1 h3,by rw[h1];exact h4⟩
def xL3 (r:Option Ar×Int) (W:World) (e:Ending) (W':World):Prop:=
 ∃a n c b m d,e=.returned (.tuple #[.agg #[.slice a n c,.slice b m d],.int .i64 r.2])∧Av W' a n c b m d (TS r.1).1 (TS r.1).2 r.1∧Below W.heap.size W W'
theorem xM3 {g n0 c0 m0 d0:Nat} {a0 b0:Option Addr} {r:Option Ar×Int} (h:Bx w g a0 n0 c0 b0 m0 d0) (hb:Below W.heap.size W w) (hg:W.heap.size≤g) (hv:Vl w a n b m (TS r.1).1 (TS r.1).2) (hc:Cp n c m d) (hr:Rok r.1):
 xL3 r W (.returned (.tuple #[.agg #[.slice a n c,.slice b m d],.int .i64 r.2])) ((w.setCell ⟨g,0,none⟩ (.slice a n c)).setCell ⟨g,1,none⟩ (.slice b m d)):=
 ⟨a,n,c,b,m,d,rfl,⟨⟨h.sl hv.s _ _,h.st hv.t _ _,hv.mm⟩,hc,hr.sz hv.t.1.symm,hr.ais⟩,yJ4 hb hg _ _⟩
theorem cp0:Cp 0 0 0 0:=⟨by omega,by unfold maxLen;omega,by omega,by unfold maxLen;omega⟩
theorem xN3 {g n0 c0 m0 d0:Nat} {a0 b0:Option Addr} {k:Int} (h:Bx w g a0 n0 c0 b0 m0 d0) (hb:Below W.heap.size W w) (hg:W.heap.size≤g):
 xL3 (none,k) W (.returned (.tuple #[.agg #[.slice none 0 0,.slice none 0 0],.int .i64 k])) ((w.setCell ⟨g,0,none⟩ (.slice none 0 0)).setCell ⟨g,1,none⟩ (.slice none 0 0)):=
 xM3 (r:=(none,k)) h hb hg (Vl.none_ w) cp0 trivial
theorem xO3 (W:World) (a:Option Addr) (n c:Nat) (b:Option Addr) (m d:Nat):
 Lv (fun w=>Bx w (W.heap.size+1) none 0 0 none 0 0∧Bx w W.heap.size a n c b m d∧Below W.heap.size W w) ((W.alloc (.cells #[.slice a n c,.slice b m d] 25)).alloc (.cells #[.slice none 0 0,.slice none 0 0] 25)):=
 ⟨⟨Bx.two W _ _ _ _ _ _ _,(Bx.new W a n c b m d).alloc _,((zI _ _).alloc (zR _) _).alloc yHn _⟩⟩
theorem xP3 (W:World) (a:Option Addr) (n c:Nat) (b:Option Addr) (m d:Nat) (a2:Option Addr) (n2 c2:Nat) (b2:Option Addr) (m2 d2:Nat):
 Lv (fun w=>Bx w (W.heap.size+1+1) none 0 0 none 0 0∧Bx w (W.heap.size+1) a2 n2 c2 b2 m2 d2∧Bx w W.heap.size a n c b m d∧Below W.heap.size W w)
  (((W.alloc (.cells #[.slice a n c,.slice b m d] 25)).alloc (.cells #[.slice a2 n2 c2,.slice b2 m2 d2] 25)).alloc (.cells #[.slice none 0 0,.slice none 0 0] 25)):=by
 have h2:=Bx.two (W.alloc (.cells #[.slice a n c,.slice b m d] 25)) (.cells #[.slice a2 n2 c2,.slice b2 m2 d2] 25) none 0 0 none 0 0;rw[yP0]at h2;exact⟨⟨h2,(Bx.two W _ _ _ _ _ _ _).alloc _,((Bx.new W a n c b m d).alloc _).alloc _,(((zI _ _).alloc (zR _) _).alloc yHn _).alloc zZn _⟩⟩
end
end
section
section
open Go.RowKit
theorem xQ3 (n:Nat) (hn:n≤20) (w:World):
 (Instr.makeSlice 22 (.int .i64 (n:Int)) (.int .i64 (n:Int))).run Tryz.prog w=.ok (.slice (some ⟨w.heap.size,0,none⟩) n n) (w.alloc (.cells (madeCells #[.int .i64 0] n) 3)):=
 run_make_row' 22 3 _ 8 Tryz.underlying22 xLh rfl _ _ n yEn yEn w
def xR3 (b:Bool) (p:List Int) (W:World) (x:Ending) (W':World):Prop:=∃a' c',x=.returned (.tuple #[.slice a' p.length c',.bool b])∧W'.ownsRow W.heap.size 3 1 (.slice a' p.length c') p.length (yS9 p)∧Below W.heap.size W W'
def xS3 (f:Nat) (a:Option Addr) (n c:Nat) (k:Int) (b:Bool) (p:List Int) (W:World):Prop:=Calls Tryz.prog f #[.slice a n c,.int .i64 k] W (xR3 b p W)
theorem SRw.own {w:World} {B g n:Nat} {F:Nat→Int} (h:SRw w g n F) {l:List Int} (hl:l.length=n) (e:∀j,j<n→F j=l.getD j 0) (hg:B≤g) (hn:n≤maxLen):w.ownsRow B 3 1 (.slice (some ⟨g,0,none⟩) n n) n (yS9 l):=by
 obtain⟨c,hc,hs,hv⟩:=h;refine⟨by simp[yS9,hl],.inr ⟨g,n,c,rfl,hg,hc,zR _,hn,by rw[hs,yS0],?_⟩⟩;apply zV0;intro j;by_cases hj:j<n
 · rw[yU0 yEn,yV0,hv j hj]
   show some (Value.int .i64 (F j))=_;rw[e j hj];simp[yS9,yJ,yM (show j<l.length by omega)]
 · rw[yW0 (by rw[xP];omega),yW0 (by simp[yS9];omega)]
theorem xT3 (a:Option Addr) (n c:Nat) (l:List Int) (k:Int) (W:World) (h:Sl W a n l) (hk63:k≤9223372036854775807):xS3 102 a n c k (plB l k) (plO l k) W:=by
 have hsz:=yM9 a n c l W h;unfold yJ9 at hsz;obtain⟨b,hb⟩:∃b,b=plB l k:=⟨_,rfl⟩
 obtain⟨p,hp⟩:∃p,p=plO l k:=⟨_,rfl⟩
 rw[←hb,←hp];have HB:=zC hb;have HP:=zC hp;have HS:=zC h;clear hb hp h;unfold xS3 xR3;by_cases he:szE l=0
 · rw[yD9 he,he]at hsz
   have HM:=zC (yE9.1 he);have hn3:n≤3:=by have:=HM.out.len;rw[HS.out.1]at this;exact this
   obtain⟨S,hS⟩:∃S,S=pr l:=⟨_,rfl⟩
   rw[←hS]at hsz;have K:=zC hsz;have HZ:=zC hS;clear hsz hS;by_cases c1:k<0
   · obtain⟨f1,f2⟩:=xPh (l:=l) (k:=k) (.inr (.inl c1))
     obtain rfl:b=false:=HB.out.trans f1;obtain rfl:p=[]:=HP.out.trans f2;clear f1 f2 he;go_in;go_wp2_with fail;refine K.out.mono ?_;rintro x w1 ⟨rfl,rfl⟩;go_wp2_with fail;go_ret2;exact⟨none,0,rfl,zT _ _ _ _,zI _ _⟩
   by_cases c2:S≤k
   · obtain⟨f1,f2⟩:=xPh (l:=l) (k:=k) (.inr (.inr (by rw[←HZ.out];exact c2)))
     obtain rfl:b=false:=HB.out.trans f1;obtain rfl:p=[]:=HP.out.trans f2;clear f1 f2 he;go_in;go_wp2_with fail;refine K.out.mono ?_;rintro x w1 ⟨rfl,rfl⟩;go_wp2_with fail;go_ret2;exact⟨none,0,rfl,zT _ _ _ _,zI _ _⟩
   · have hA:=HM.out.pos (by rw[←HZ.out];omega)
     obtain⟨f1,f2⟩:=xQh he (k:=k) yEn (by rw[←HZ.out];omega);obtain rfl:b=true:=HB.out.trans f1;have HP2:=zC (HP.out.trans f2);have HA:=zC hA;have hmk:=xQ3 n yEn;clear f1 f2 he HP hA;go_in;go_wp2_with fail;refine K.out.mono ?_;rintro x w1 ⟨rfl,rfl⟩;go_wp2_with fail;have hRw:=SRw.made W n;have hbel:Below W.heap.size W (W.alloc (.cells (madeCells #[.int .i64 0] n) 3)):=(zI _ _).alloc (zR _) _;obtain⟨g,hg⟩:∃g,g=W.heap.size:=⟨_,rfl⟩
     rw[←hg]at hRw hbel ⊢;have HG:=zC hg;clear hg;generalize W.alloc (.cells (madeCells #[.int .i64 0] n) 3)=w1 at hRw hbel ⊢;have hw:wrap64 ((n:Int)-1)=(n:Int)-1:=w64 yEn yEn;clear hmk;go_loopw [1,9] (fun o i wr=>∃(q:Nat) (z:Int) (F:Nat→Int),i=.int .i64 ((q:Int)-1)∧o=.int .i64 z∧q≤n∧Hid (z=quo l k q)∧Hid (∀j,q≤j→j<n→F j=plc l k j)∧SRw wr g n F∧Below g W wr) (fun _ i _=>(intOf i+1).toNat)
     case atStart=>exact⟨n,k,_,by simp,rfl,zR _,zC (by rw[←HS.out.1,xD9]),zC (fun j h1 h2=>by omega),hRw,hbel⟩
     case round=>
      obtain⟨q,z,F,rfl,rfl,hq,HQ,HF,hR,hbel2⟩:=hrel;rcases q with _|q
      · have hpl:p.length=n:=by rw[HP2.out,xB9,HS.out.1]
        have hsl:wr.ownsRow W.heap.size 3 1 (.slice (some ⟨g,0,none⟩) p.length n) p.length (yS9 p):=by
         rw[←HG.out,hpl];exact hR.own hpl (fun j hj=>by rw[HF.out j (xJ _) hj,HP2.out,xC9 xOm]) (zR _) xXm
        have HSL:=zC hsl;have HBL:Hid (Below W.heap.size W wr):=by rw[←HG.out];exact hbel2
        clear hpl hsl hbel2 hR hRw hbel;go_wp2_with fail;go_ret2;have hpl:p.length=n:=by rw[HP2.out,xB9,HS.out.1]
        refine⟨some ⟨g,0,none⟩,n,?_,HSL.out,HBL.out⟩;rw[hpl];rfl
      · rw[show(((q+1:Nat):Int)-1)=(q:Int)by omega]
        obtain⟨b,off,rfl,hc⟩:=HS.out.2 yEn;have hck:=(hbel2.cell (p:=⟨b,off+q,none⟩) (by rw[HG.out];exact yU W _ (hc q yEn))).trans (hc q yEn);obtain⟨x,hx⟩:∃x,x=l.getD q 0:=⟨_,rfl⟩
        rw[←hx]at hck;have hxp:0<x:=by rw[hx];exact HA.out.pos q (by rw[HS.out.1];omega)
        have hbg:b≠g:=by have:=yU W _ (hc q yEn);intro e;rw[←HG.out,←e]at this;exact absurd this (Nat.lt_irrefl _)
        have hcell:=hR.cell (i:=q) yEn;have hfr:=hR.frozen q;have hck2:∀u,(wr.setCell ⟨g,q,none⟩ u).cell? ⟨b,off+q,none⟩=some (.int .i64 x):=fun u=>by rw[yY0 _ _ _ _ (by intro e;injection e with e;exact hbg e.symm),hck]
        have hx0:(x==0)=false:=zT0.2 yEn;have HX:=zC hx;clear hc hx;have hz0:0≤z:=by rw[HQ.out];exact xI9 HA.out yEn _
        have hzk:z≤k:=by rw[HQ.out];exact xJ9 HA.out yEn _
        have em:z%x=plc l k q:=by rw[HQ.out,HX.out];rfl
        have ed:z/x=quo l k q:=by rw[HQ.out,HX.out];exact xE9 (by rw[HS.out.1];omega) (Int.le_of_lt (HA.out.drop _))
        have HE:=zC (And.intro em ed);clear em ed;go_wp2_with fail;go_roundw
        case rel=>
         refine⟨q,_,_,rfl,rfl,by omega,HE.out.2,zC fun j h1 h2=> ?_,hR.set q _,hbel2.setCell (by show g≤g;exact zR _) _⟩;unfold xMh;by_cases hjq:j=q
         · rw[yA hjq,hjq,HE.out.1]
         · rw[zY hjq];exact HF.out j yEn h2
        case measure=>simp[intOf]
 · obtain⟨f1,f2⟩:=xPh (l:=l) (k:=k) (.inl he)
   obtain rfl:b=false:=HB.out.trans f1;obtain rfl:p=[]:=HP.out.trans f2;rw[yC9 he]at hsz;generalize szE l=E at hsz he;have K:=zC hsz;clear f1 f2 hsz;go_in;go_wp2_with fail;refine K.out.mono ?_;rintro x w1 ⟨rfl,rfl⟩;go_wp2_with fail;go_ret2;exact⟨none,0,rfl,zT _ _ _ _,zI _ _⟩
end
end
section
open Go.RowKit
def xU3 (b:Option Addr) (f t:Nat):Option Addr:=if t=f then b else b.map (·.add f)
theorem xV3 {T e:TypeId} (ht:Tryz.prog.underlying T=some (.slice e)) (hs:∀w,(Go.sizeOf e).run Tryz.prog w=.ok 1 w) (a:Option Addr) (n c f t:Nat) (h1:f≤t) (h2:t≤c) (w:World):
 (Instr.slice T (.slice a n c) (some (.int .i64 (f:Int))) (some (.int .i64 (t:Int))) (some (.int .i64 (t:Int)))).run Tryz.prog w=.ok (.slice (xU3 a f t) (t-f) (t-f)) w:=by
 simp[Instr.slice,Instr.sliceBounds,Instr.sliceBound,yZ0 ht,hs,asIntOf,h1,h2,xU3]
theorem xW3 (w:World):(Go.sizeOf 3).run Tryz.prog w=.ok 1 w:=by
 obtain⟨i0,hi,_,hz1,_⟩:=zF xB4;simp[Go.sizeOf,typeInfo,hi,hz1]
theorem xX3 (w:World):(Go.sizeOf 9).run Tryz.prog w=.ok 1 w:=by
 obtain⟨i0,hi,_,hz1,_⟩:=zF xC4;simp[Go.sizeOf,typeInfo,hi,hz1]
def xY3 (b:Option Addr) (f t:Nat) (W:World) (x:Ending) (W':World):Prop:=x=.returned (.slice (xU3 b f t) (t-f) (t-f))∧W=W'
theorem xZ3 (b:Option Addr) (m d f t:Nat) (W:World) (h1:f≤t) (h2:t≤d):Calls Tryz.prog 99 #[.slice b m d,.int .i64 f,.int .i64 t] W (xY3 b f t W):=by
 have hr:=xV3 Tryz.underlying23 xX3 b m d f t h1 h2;go_in;go_wp2_with fail;go_ret;exact⟨rfl,rfl⟩
theorem zA4 (b:Option Addr) (m d f t:Nat) (W:World) (h1:f≤t) (h2:t≤d):Calls Tryz.prog 150 #[.slice b m d,.int .i64 f,.int .i64 t] W (xY3 b f t W):=by
 have hr:=xV3 Tryz.underlying22 xW3 b m d f t h1 h2;go_in;go_wp2_with fail;go_ret;exact⟨rfl,rfl⟩
theorem St.cut {W:World} {b:Option Addr} {m f t:Nat} {es:List ByteArray} (h:St W b m es) (h1:f≤t) (h2:t≤m):St W (xU3 b f t) (t-f) ((es.drop f).take (t-f)):=by
 refine⟨by rw[xP,xB0,h.1];omega,fun hp=> ?_⟩;obtain⟨bb,off,rfl,hc⟩:=h.2 yEn;refine⟨bb,off+f,?_,fun j hj=> ?_⟩
 · unfold xU3
   rw[zY yEn];show some ((⟨bb,off,none⟩:Addr).add f)=_;rw[zM0]
 · rw[xC0,hc (f+j) yEn]
   simp only[yJ,yU0 hj,xE0]
theorem Sl.cut {W:World} {b:Option Addr} {m f t:Nat} {l:List Int} (h:Sl W b m l) (h1:f≤t) (h2:t≤m):Sl W (xU3 b f t) (t-f) ((l.drop f).take (t-f)):=by
 refine⟨by rw[xP,xB0,h.1];omega,fun hp=> ?_⟩;obtain⟨bb,off,rfl,hc⟩:=h.2 yEn;refine⟨bb,off+f,?_,fun j hj=> ?_⟩
 · unfold xU3
   rw[zY yEn];show some ((⟨bb,off,none⟩:Addr).add f)=_;rw[zM0]
 · rw[xC0,hc (f+j) yEn]
   simp only[yJ,yU0 hj,xE0]
theorem Sl.cut1 {W:World} {b:Option Addr} {m:Nat} {l:List Int} (h:Sl W b m l) (h1:1≤m):Sl W (xU3 b 1 m) (m-1) l.tail:=by
 have:=h.cut h1 (zR m);rwa [List.drop_one,yW (by rw[yY,h.1];exact zR _)]at this
def mN (l:List Int):Nat:=(itV l).toNat
def iS (l:List Int) (m:Nat):Nat:=if m=0 then 0 else kI l
theorem Fits.all {α:Type} {l:List Int} {es:List α} (h:Fits l es):es.length=mN l*kI l∧((mN l:Nat):Int)=itV l:=by
 by_cases hl:l=[]
 · subst hl
   have:=h.2;refine⟨?_,rfl⟩;show _=1*1;simp[pr]at this
   omega
 · have e:itV l=l.getD 0 0:=zY fun h=>hl (yO0.1 h)
   have e2:mN l=nI l:=by unfold mN nI;rw[e]
   rw[e2];exact⟨h.cut hl,by rw[e];exact zYd hl h.1⟩
section
variable {W:World} {a b:Option Addr} {n c m d:Nat} {l:List Int} {es:List ByteArray} {o:Option Ar} {q:Ar}
theorem Av.items (h:Av W a n c b m d l es (some q)):m=mN l*kI l∧((mN l:Nat):Int)=itV l∧mN l≤1099511627776∧m=mN l*iS l m:=by
 have hf:=h.fits;rw[h.fst]at hf;obtain⟨h1,h2⟩:=hf.all;have h3:=h.mlen.1;have e:itV l≤1099511627776:=by
  unfold itV;split
  · omega
  · exact hf.1.le 0 yEn
 refine⟨by omega,h2,by omega,?_⟩;unfold iS;split
 · omega
 · omega
theorem zB4 (h:Av W a n c b m d l es (some q)):Calls Tryz.prog 96 #[.agg #[.slice a n c,.slice b m d]] W (zE7 (mN l:Nat) W):=by
 rw[h.items.2.1];exact xA4 W h.v (by have:=h.n3;omega) h.c.nc h.c.cm
theorem zC4 (h:Av W a n c b m d l es (some q)):Calls Tryz.prog 98 #[.agg #[.slice a n c,.slice b m d]] W (zE7 (iS l m:Nat) W):=by
 have hb0:Below W.heap.size W (W.alloc (.cells #[.slice a n c,.slice b m d] 25)):=(zI _ _).alloc (zR _) _;have hA:=Bx.new W a n c b m d;by_cases h0:m=0
 · have e:iS l m=0:=yA h0
   rw[e];subst h0;clear h e;go_in;go_wp2_with fail;go_ret;exact⟨rfl,hb0⟩
 · have K:=zC (fun w (hb:Below W.heap.size W w)=>zB4 (h.below hb))
   obtain⟨h1,u1,h3,u2⟩:=h.items;clear u1 u2;have e:iS l m=kI l:=zY h0;rw[e];have hm:=h.mlen.2.2;have x0:=hA.c0;have x1:=hA.c1;have lA:=hA.lt;generalize mN l=N at*;generalize kI l=k at*;have hN:0<N:=xF0 fun e=>h0 (by rw[h1,e,Nat.zero_mul]);have hk:k≤m:=by rw[h1];exact Nat.le_mul_of_pos_left k hN
   have hd:(m:Int).tdiv (N:Int)=(k:Int):=by
    rw[h1,xH0,Int.mul_comm,Int.mul_tdiv_cancel _ yEn]
   have hd2:(m:Int)/(N:Int)=(k:Int):=xE4 hN h1;have hw:IntKind.i64.wrap ((m:Int).tdiv (N:Int))=(k:Int):=by rw[hd];exact xJ0 _ yEn
   have hw2:IntKind.i64.wrap ((m:Int)/(N:Int))=(k:Int):=by rw[hd2];exact xJ0 _ yEn
   have hN0:((N:Int)==0)=false:=zT0.2 yEn;have hNn:(N:Int)≠0:=by omega
   have hm0:(m:Int)≠0:=by omega
   have hwN:IntKind.i64.wrap (N:Int)=(N:Int):=xJ0 _ yEn;have hwm:IntKind.i64.wrap (m:Int)=(m:Int):=xJ0 _ yEn;have hwk:IntKind.i64.wrap (k:Int)=(k:Int):=xJ0 _ yEn;have hge:(0:Int)≤(m:Int):=by omega
   have HF:=zC (And.intro hw (And.intro hw2 (And.intro hN0 (And.intro hNn (And.intro hwN (And.intro hwm hwk))))));clear hwN hwm hwk;clear h h1 e hd hd2 hA hw hw2 hN0 hNn hk hN h3 h0;go_in;go_wp2_with fail;generalize hw4:W.alloc (.cells #[.slice a n c,.slice b m d] 25)=w4 at*;have hq:Below w4.heap.size w4 w4:=zI _ _;obtain⟨hw,hw2,hN0,hNn,hwN,hwm,hwk⟩:=HF.out;have K4:=zC (fun z (hz:Below w4.heap.size w4 z)=>(K.out z (hb0.trans (hz.mono hb0.size))).mono fun e w' (h:_∧_)=>(⟨h.1,hz.trans (h.2.mono hz.size)⟩:e=.returned (.int .i64 (N:Int))∧Below w4.heap.size w4 w'));go_region_with (go_at_call 96;refine(K4.out _ (by first|exact hq|exact zU hq)).mono ?_;rintro e wq ⟨rfl,hq2⟩;have y1:=(zA0 (p:=⟨W.heap.size,1,none⟩) hq2 lA).trans x1)
   all_goals
    go_wp2_with fail;go_ret;exact⟨rfl,hb0.trans (hq2.mono hb0.size)⟩
end
def ItO (v:Int) (n:Nat) (l:List Int) (W:World) (x:Ending) (W':World):Prop:=∃a c,x=.returned (.tuple #[.int .i64 v,.slice a n c])∧OwI W W' a n c l∧Below W.heap.size W W'
theorem zD4 (a:Option Addr) (n c:Nat) (l:List Int) (W:World) (h:Sl W a n l) (hn:n≤20) (hc:n≤c) (hc2:c≤maxLen):
 Calls Tryz.prog 121 #[.slice a n c] W (ItO (itV l) (n-1) l.tail W):=by
 unfold maxLen at hc2;by_cases h0:n=0
 · subst h0
   obtain rfl:=yO0.1 h.1;clear h;rw[show itV []=1 from rfl,List.tail_nil];go_in;go_wp2_with fail;go_ret2;exact⟨none,0,rfl,zT _ _ _ _,zI _ _⟩
 · obtain⟨b,off,rfl,hcell⟩:=h.2 yEn
   have HT:=zC (h.tail yEn);have hv:itV l=l.getD 0 0:=zY (by rw[h.1];exact h0);rw[hv];have hc0:=hcell 0 yEn;rw[xB]at hc0;have hlt:b<W.heap.size:=yU W _ hc0;generalize l.getD 0 0=v at hc0 ⊢;clear hv hcell h;have e1:(n:Int)≠0:=by omega
   have e2:(0:Int)<n:=by omega
   by_cases h1:c=1
   · subst h1
     obtain rfl:n=1:=by omega
     have KC:=zC (fun w a c=>xJ3 a (1-1) c l.tail w ⟨HT.out.1,fun h=>by omega⟩ yEn);go_in;go_wp2_with fail;go_region_with (go_at_call 100;refine(KC.out _ _ _).mono ?_;rintro e w2 ⟨a',c',rfl,hs,hb2⟩;have hc2:w2.cell? ⟨b,off,none⟩=some (.int .i64 v):=(hb2.cell (p:=⟨b,off,none⟩) (by exact hlt)).trans hc0)
     all_goals
      go_wp2_with fail;go_ret2;exact⟨_,_,rfl,hs,⟨hb2.os,hb2.tape,hb2.output,hb2.size,hb2.block⟩⟩
   · have KC:=zC (fun w c (hw:Below W.heap.size W w)=>xJ3 _ (n-1) c l.tail w (HT.out.below hw) yEn)
     go_in;go_wp2_with fail;go_region_with (go_at_call 100;refine(KC.out _ _ (by exact(zI _ _).drew)).mono ?_;rintro e w2 ⟨a',c',rfl,hs,hb2⟩;have hc2:w2.cell? ⟨b,off,none⟩=some (.int .i64 v):=(hb2.cell (p:=⟨b,off,none⟩) (by exact hlt)).trans hc0)
     all_goals
      go_wp2_with fail;go_ret2;exact⟨_,_,rfl,hs,⟨hb2.os,hb2.tape,hb2.output,hb2.size,hb2.block⟩⟩
end
end Go.Proofs.YtcfbjdplhgdpfaaGreatDoor

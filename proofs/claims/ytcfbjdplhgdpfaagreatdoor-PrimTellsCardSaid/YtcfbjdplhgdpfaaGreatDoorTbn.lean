import Derived.Test.YtcfbjdplhgdpfaaGreatDoorTbj
import Derived.Test.YtcfbjdplhgdpfaaGreatDoorTbm
set_option maxHeartbeats 3200000
set_option maxRecDepth 100000
namespace Go.Proofs.YtcfbjdplhgdpfaaGreatDoor
set_option linter.unusedVariables false
set_option linter.unusedSimpArgs false
theorem zFn {P:Prop}(h:P:=by rw[yY]at hj;omega):P:=h
theorem zNm {P:Prop}(h:P:=by simp[results,Tryz.results37,go_sem,r0,r1]):P:=h
open Go.RowKit
theorem zQ3 (p:Option Ar):ixK none p=(none,1):=by cases p<;>rfl
theorem zR3 (q:Ar):ixK (some q) none=(none,1):=rfl
theorem zS3 {q:Ar} (r:Ar) (h:q.1=[]):ixK (some q) (some r)=(none,3):=by
 unfold ixK;dsimp only;rw[yA h]
theorem zT3 {q r:Ar} (h:q.1≠[]) (hp:plE r (q.1.getD 0 0)≠0):ixK (some q) (some r)=(none,plE r (q.1.getD 0 0)):=by
 unfold ixK;dsimp only;rw[zY h,yA hp]
theorem zU3 {q r:Ar} (h:q.1≠[]) (hp:plE r (q.1.getD 0 0)=0) (hz:szE (r.1++q.1.tail)≠0):ixK (some q) (some r)=(none,szE (r.1++q.1.tail)):=by
 unfold ixK;dsimp only;rw[zY h,zY (fun e=>e hp),yA hz]
theorem zV3 {q r:Ar} (h:q.1≠[]) (hp:plE r (q.1.getD 0 0)=0) (hz:szE (r.1++q.1.tail)=0):ixK (some q) (some r)=(some (r.1++q.1.tail,its q.2 (kI q.1) (yF4 r.2)),0):=by
 unfold ixK;dsimp only;rw[zY h,zY (fun e=>e hp),zY (fun e=>e hz)]
theorem zW3 {l A:List Int} {k:Nat} (h0:1≤k) (hk:k<l.length):yS9 (A++l.tail.take (k+1-1))=yS9 (A++l.tail.take (k-1))++[.int .i64 (l.getD k 0)]:=by
 obtain⟨j,rfl⟩:∃j,k=j+1:=⟨k-1,by omega⟩
 have e:l.tail.take (j+1)=l.tail.take j++[l.getD (j+1) 0]:=by
  rw[zK3 (by rw[yY];omega)];congr 2
  simp[yJ,yZ]
 show yS9 (A++l.tail.take (j+1))=yS9 (A++l.tail.take j)++_;rw[e,←xA];simp[yS9]
theorem zX3 {l:List Int} {k:Nat} (hk:k<l.length):yS9 (l.take (k+1))=yS9 (l.take k)++[.int .i64 (l.getD k 0)]:=yB4 hk
def zY3 (L:List Int) (N:Nat) (wz:World) (p q:Value) (wx:World):Prop:=
 ∃a c,p=.slice a N c∧q=.int .i64 0∧Sl wx a N L∧Below wz.heap.size wz wx
theorem zZ3 {a1 b1 a2 b2:Option Addr} {n1 c1 m1 d1 n2 c2 m2 d2:Nat} {l m:List Int} {es fs:List ByteArray} {W:World} (h1:Av W a1 n1 c1 b1 m1 d1 l es none):
 Calls Tryz.prog 37 #[.agg #[.slice a1 n1 c1,.slice b1 m1 d1],.agg #[.slice a2 n2 c2,.slice b2 m2 d2]] W (xL3 (none,1) W):=by
 have KV:=zC (fun w (hb:Below W.heap.size W w)=>zM4 (h1.below hb));clear h1;have h:=xP3 W a1 n1 c1 b1 m1 d1 a2 n2 c2 b2 m2 d2;go_in;have x1:=h.out.2.2.1.c0;have y1:=h.out.2.2.1.c1;go_wp2_with fail
 with_reducible refine(yMf h (KV.out _ h.out.2.2.2)).mono ?_
 clear h x1 y1;rintro e w ⟨rfl,h⟩;have y0:=h.out.1.c0;have y3:=h.out.1.c1;have f0:=h.out.1.f 0;have f1:=h.out.1.f 1;go_wp2_with fail;have hR:=h.out.1.set none 0 0 none 0 0;have r0:=hR.c0;have r1:=hR.c1;exact zE (v:=.tuple #[.agg #[.slice none 0 0,.slice none 0 0],.int .i64 1]) zNm rfl (xN3 h.out.1 h.out.2.2.2 yEn)
theorem yA3 {a1 b1 a2 b2:Option Addr} {n1 c1 m1 d1 n2 c2 m2 d2:Nat} {l m:List Int} {es fs:List ByteArray} {W:World} {q:Ar} (h1:Av W a1 n1 c1 b1 m1 d1 l es (some q)) (h2:Av W a2 n2 c2 b2 m2 d2 m fs none):
 Calls Tryz.prog 37 #[.agg #[.slice a1 n1 c1,.slice b1 m1 d1],.agg #[.slice a2 n2 c2,.slice b2 m2 d2]] W (xL3 (none,1) W):=by
 have KV:=zC (fun w (hb:Below W.heap.size W w)=>zM4 (h1.below hb));have KU:=zC (fun w (hb:Below W.heap.size W w)=>zM4 (h2.below hb));clear h1 h2;have h:=xP3 W a1 n1 c1 b1 m1 d1 a2 n2 c2 b2 m2 d2;go_in;have x1:=h.out.2.2.1.c0;have y1:=h.out.2.2.1.c1;go_wp2_with fail
 with_reducible refine(yMf h (KV.out _ h.out.2.2.2)).mono ?_
 clear h x1 y1;rintro e w ⟨rfl,h⟩;have x2:=h.out.2.1.c0;have y2:=h.out.2.1.c1;go_wp2_with fail
 with_reducible refine(yMf h (KU.out _ h.out.2.2.2)).mono ?_
 clear h x2 y2;rintro e w ⟨rfl,h⟩;have y0:=h.out.1.c0;have y3:=h.out.1.c1;have f0:=h.out.1.f 0;have f1:=h.out.1.f 1;go_wp2_with fail;have hR:=h.out.1.set none 0 0 none 0 0;have r0:=hR.c0;have r1:=hR.c1;exact zE (v:=.tuple #[.agg #[.slice none 0 0,.slice none 0 0],.int .i64 1]) zNm rfl (xN3 h.out.1 h.out.2.2.2 yEn)
theorem yB3 {a1 b1 a2 b2:Option Addr} {n1 c1 m1 d1 n2 c2 m2 d2:Nat} {l m:List Int} {es fs:List ByteArray} {W:World} {q r:Ar} (h1:Av W a1 n1 c1 b1 m1 d1 l es (some q)) (h2:Av W a2 n2 c2 b2 m2 d2 m fs (some r)) (h0:n1=0):
 Calls Tryz.prog 37 #[.agg #[.slice a1 n1 c1,.slice b1 m1 d1],.agg #[.slice a2 n2 c2,.slice b2 m2 d2]] W (xL3 (none,3) W):=by
 have KV:=zC (fun w (hb:Below W.heap.size W w)=>zM4 (h1.below hb));have KU:=zC (fun w (hb:Below W.heap.size W w)=>zM4 (h2.below hb));have hn0:(n1:Int)=0:=by omega
 clear h1 h2 h0;have h:=xP3 W a1 n1 c1 b1 m1 d1 a2 n2 c2 b2 m2 d2;go_in;have x1:=h.out.2.2.1.c0;have y1:=h.out.2.2.1.c1;go_wp2_with fail
 with_reducible refine(yMf h (KV.out _ h.out.2.2.2)).mono ?_
 clear h x1 y1;rintro e w ⟨rfl,h⟩;have x2:=h.out.2.1.c0;have y2:=h.out.2.1.c1;go_wp2_with fail
 with_reducible refine(yMf h (KU.out _ h.out.2.2.2)).mono ?_
 clear h x2 y2;rintro e w ⟨rfl,h⟩;have x1:=h.out.2.2.1.c0;have y1:=h.out.2.2.1.c1;have y0:=h.out.1.c0;have y3:=h.out.1.c1;have f0:=h.out.1.f 0;have f1:=h.out.1.f 1;go_wp2_with fail;have hR:=h.out.1.set none 0 0 none 0 0;have r0:=hR.c0;have r1:=hR.c1;exact zE (v:=.tuple #[.agg #[.slice none 0 0,.slice none 0 0],.int .i64 3]) zNm rfl (xN3 h.out.1 h.out.2.2.2 yEn)
theorem yC3 {a1 b1 a2 b2:Option Addr} {n1 c1 m1 d1 n2 c2 m2 d2:Nat} {l m:List Int} {es fs:List ByteArray} {W:World} {q r:Ar} (h1:Av W a1 n1 c1 b1 m1 d1 l es (some q)) (h2:Av W a2 n2 c2 b2 m2 d2 m fs (some r)) (hn:0<n1) (h0:q.1≠[]) (hpl:plE r (q.1.getD 0 0)≠0):
 Calls Tryz.prog 37 #[.agg #[.slice a1 n1 c1,.slice b1 m1 d1],.agg #[.slice a2 n2 c2,.slice b2 m2 d2]] W (xL3 (ixK (some q) (some r)) W):=by
 have KV:=zC (fun w (hb:Below W.heap.size W w)=>zM4 (h1.below hb));have KU:=zC (fun w (hb:Below W.heap.size W w)=>zM4 (h2.below hb));have hn0:(n1:Int)≠0:=by omega
 have hi0:(0:Int)<(n1:Int):=by omega
 have e1:=h1.fst;have e2:=h2.fst;subst e1 e2;obtain⟨M,hM⟩:∃M,M=q.1.getD 0 0:=⟨_,rfl⟩
 have KP:=zC (fun w (hb:Below W.heap.size W w)=>zPh (c1:=c2) (d1:=d2) M (h2.below hb));obtain⟨bb,off,rfl,hc⟩:=h1.v.s.2 hn;have hc0:=hc 0 hn;rw[←hM,xB]at hc0;have HCK:=zC hc0;clear hc hc0;rw[zT3 (r:=r) h0 hpl,←hM];rw[←hM]at hpl;clear h1 h2 h0 hM;have h:=xP3 W (some ⟨bb,off,none⟩) n1 c1 b1 m1 d1 a2 n2 c2 b2 m2 d2;go_in;have x1:=h.out.2.2.1.c0;have y1:=h.out.2.2.1.c1;go_wp2_with fail
 with_reducible refine(yMf h (KV.out _ h.out.2.2.2)).mono ?_
 clear h x1 y1;rintro e w ⟨rfl,h⟩;have x2:=h.out.2.1.c0;have y2:=h.out.2.1.c1;go_wp2_with fail
 with_reducible refine(yMf h (KU.out _ h.out.2.2.2)).mono ?_
 clear h x2 y2;rintro e w ⟨rfl,h⟩;have x1:=h.out.2.2.1.c0;have x2:=h.out.2.1.c0;have y2:=h.out.2.1.c1;have hck:=(h.out.2.2.2.cell (p:=⟨bb,off,none⟩) (yU W _ HCK.out)).trans HCK.out;have HQ:Hid (∀z,Below w.heap.size w z→Calls Tryz.prog 85 #[.agg #[.slice a2 n2 c2,.slice b2 m2 d2],.int .i64 M] z fun e w'=>∃a n c,e=.returned (.tuple #[.slice a n c,.int .i64 (plE r M)])∧(plE r M=0→n=r.2.length∧Sl w' a n r.2∧n≤c∧c≤maxLen)∧Below w.heap.size w w'):=zC fun z hz=>(KP.out z (h.out.2.2.2.trans (hz.mono h.out.2.2.2.size))).mono fun e w' k=>by
  obtain⟨a,n,c,k1,k2,k3⟩:=k;exact⟨a,n,c,k1,k2,hz.trans (k3.mono hz.size)⟩
 have HH:=zC h;have hq:Below w.heap.size w w:=zI _ _;have hqz:=hq.size;clear h KP;have HPL:=zC hpl;clear hpl;go_upto_region 5 with fail
 generalize plE r M=k at*;have hk:(k != 0)=true:=by simpa using HPL.out
 go_region_law (go_simp;go_at_call 85;refine(HQ.out _ xLl).mono ?_;rintro e wa ⟨pa,pn,pc,rfl,hp,hq⟩;replace hp:=zC hp;have hqz:=hq.size)
 all_goals
  have h:=xLg HH.out hq (zR _);clear hp hq x1 x2 y2 hck HQ;have y0:=h.out.1.c0;have y3:=h.out.1.c1;have f0:=h.out.1.f 0;have f1:=h.out.1.f 1;go_wp2_with fail;have hR:=h.out.1.set none 0 0 none 0 0;have r0:=hR.c0;have r1:=hR.c1;exact zE (v:=.tuple #[.agg #[.slice none 0 0,.slice none 0 0],.int .i64 k]) zNm rfl (xN3 h.out.1 h.out.2.2.2 yEn)
theorem yD3 {a1 b1 a2 b2:Option Addr} {n1 c1 m1 d1 n2 c2 m2 d2:Nat} {l m:List Int} {es fs:List ByteArray} {W:World} {q r:Ar} (h1:Av W a1 n1 c1 b1 m1 d1 l es (some q)) (h2:Av W a2 n2 c2 b2 m2 d2 m fs (some r)) (hn:0<n1) (h0:q.1≠[]) (hpl:plE r (q.1.getD 0 0)=0):
 Calls Tryz.prog 37 #[.agg #[.slice a1 n1 c1,.slice b1 m1 d1],.agg #[.slice a2 n2 c2,.slice b2 m2 d2]] W (xL3 (ixK (some q) (some r)) W):=by
 have KV:=zC (fun w (hb:Below W.heap.size W w)=>zM4 (h1.below hb));have KU:=zC (fun w (hb:Below W.heap.size W w)=>zM4 (h2.below hb));have hn3:=h1.n3;have hn4:=h2.n3;have hm1:=h1.mlen.2.2;have hm2:=h2.mlen.2.2;have hmm:=h2.mlen.1;have e3:=h1.i.2.1;subst e3;have hn0:(n1:Int)≠0:=by omega
 have hi0:(0:Int)<(n1:Int):=by omega
 have e1:=h1.fst;have e2:=h2.fst;subst e1 e2;obtain⟨M,hM⟩:∃M,M=q.1.getD 0 0:=⟨_,rfl⟩
 have KP:=zC (fun w (hb:Below W.heap.size W w)=>zPh (c1:=c2) (d1:=d2) M (h2.below hb));obtain⟨bb,off,rfl,hc⟩:=h1.v.s.2 hn;have hc0:=hc 0 hn;rw[←hM,xB]at hc0;have HCK:=zC hc0;clear hc hc0;obtain⟨R,hR⟩:∃R,R=ixK (some q) (some r):=⟨_,rfl⟩
 rw[←hR];have hok:=yG4 hpl;have hin:=yI4 (n:=nI q.1) (l:=r.2) (fun x hx=>by have:=hok.2 x hx;unfold nI;omega);have hit:=h1.items;rw[xLc h0]at hit;have hLn:(yF4 r.2).length=m2:=by rw[yIg];exact hmm.symm
 have hes:(q.2.map S).length=nI q.1*kI q.1:=by rw[h1.v.t.1];exact hit.1
 have HZ:=zC (fun h=>hR.trans (zU3 h0 hpl h));have HY:=zC (fun h=>And.intro (hR.trans (zV3 h0 hpl h)) (And.intro (zN8 h1.i.rok h1.fits h0 h2.i.rok h hin (by
  have hmay:=yE9.1 h1.i.rok.1;exact zK9 fun j hj=>by
   have:=hmay.nn (j+1) zFn;simpa[yJ,yZ]using this)) (show m2*kI q.1≤4096 from by
  have hpp:=(yE9.1 h).pr;rw[zF9,←h2.i.rok.2.1,←hmm]at hpp;have hk:0≤pr q.1.tail:=by
   have hmay:=yE9.1 h1.i.rok.1;exact zK9 fun j hj=>by
    have:=hmay.nn (j+1) zFn;simpa[yJ,yZ]using this
  have e:((kI q.1:Nat):Int)=pr q.1.tail:=xC hk;rw[←e]at hpp;exact_mod_cast hpp)))
 have KT:=zC (fun w (hb:Below W.heap.size W w) i (hi:i<nI q.1)=>xTg (h1.below hb) hn hi);have HS:=zC (fun j (hj:j<m2)=>And.intro (zJ4 (q.2.map S) (kI q.1) (L:=yF4 r.2) (j:=j) yEn) (And.intro (zAa hes (l:=(yF4 r.2).take j) (fun i hi=>hin i (xD hi))) (yV4 (es:=q.2.map S) (k:=kI q.1) (i:=(yF4 r.2).getD j 0) (by
  rw[hes];refine xE _ ?_;rw[yJ,yM yEn];exact hin _ (xH _)))))
 have HIN:=zC (fun j (hj:j<m2)=>(show(yF4 r.2).getD j 0<nI q.1 from by
  rw[yJ,yM yEn];exact hin _ (xH _)))
 have HAT:=zC (fun j (hj:j<m2)=>yH4 (l:=r.2) (fun x hx=>(hok.2 x hx).1) (k:=j) yEn);have HSV:=zC h1.v.s;have HSW:=zC h2.v.s;have KZ:=zC (fun w a n c (hs:Sl w a n (r.1++q.1.tail))=>xKe a n c (r.1++q.1.tail) w hs);unfold yJ9 at KZ;have HLN:=zC hLn;have HM2:=zC hmm.symm;have HL1:=zC (And.intro h1.v.s.1 h2.v.s.1);have HMAP:=zC (yAg q.2 (kI q.1) (yF4 r.2));have hPL:plE r M=0:=by rw[hM];exact hpl
 clear h1 h2 h0 hM hpl hR hok hin hit hes hLn hmm;generalize kI q.1=K at*;generalize nI q.1=NI at*;have h:=xP3 W (some ⟨bb,off,none⟩) n1 c1 b1 m1 d1 a2 n2 c2 b2 m2 d2;go_in;have x1:=h.out.2.2.1.c0;have y1:=h.out.2.2.1.c1;go_wp2_with fail
 with_reducible refine(yMf h (KV.out _ h.out.2.2.2)).mono ?_
 clear h x1 y1;rintro e w ⟨rfl,h⟩;have x2:=h.out.2.1.c0;have y2:=h.out.2.1.c1;go_wp2_with fail
 with_reducible refine(yMf h (KU.out _ h.out.2.2.2)).mono ?_
 clear h x2 y2;rintro e w ⟨rfl,h⟩;have x1:=h.out.2.2.1.c0;have x2:=h.out.2.1.c0;have y2:=h.out.2.1.c1;have hck:=(h.out.2.2.2.cell (p:=⟨bb,off,none⟩) (yU W _ HCK.out)).trans HCK.out;have HQ:Hid (∀z,Below w.heap.size w z→Calls Tryz.prog 85 #[.agg #[.slice a2 n2 c2,.slice b2 m2 d2],.int .i64 M] z fun e w'=>∃a n c,e=.returned (.tuple #[.slice a n c,.int .i64 (plE r M)])∧(plE r M=0→n=r.2.length∧Sl w' a n r.2∧n≤c∧c≤maxLen)∧Below w.heap.size w w'):=zC fun z hz=>(KP.out z (h.out.2.2.2.trans (hz.mono h.out.2.2.2.size))).mono fun e w' k=>by
  obtain⟨a,n,c,k1,k2,k3⟩:=k;exact⟨a,n,c,k1,k2,hz.trans (k3.mono hz.size)⟩
 have HH:=zC h;have hq:Below w.heap.size w w:=zI _ _;have hqz:=hq.size;clear h KP;go_upto_region 5 with fail
 rw[hPL]at HQ;go_cut [6,7] (fun p q wx=>zY3 r.2 m2 w p q wx)
 case first=>
  go_region_law (go_simp;go_at_call 85;refine(HQ.out _ xLl).mono ?_;rintro e wa ⟨pa,pn,pc,rfl,hp,hq⟩;replace hp:=zC hp;have hqz:=hq.size)
  all_goals
   obtain⟨hpn,hps,_,_⟩:=hp.out rfl;have hpn2:=(hpn.trans HM2.out).symm;clear hpn;subst hpn2;clear hp;go_wp2_with fail;go_meet
   case rel=>exact⟨pa,pc,rfl,rfl,hps,hq⟩
 case rest=>
 clear hq hqz HQ x1 x2 y2 hck;obtain⟨wo,hwo⟩:∃z,z=wc:=⟨_,rfl⟩
 subst hwo;obtain⟨pa,pc,rfl,rfl,hPS,hbc⟩:=hcut;have HLV:=zC (xLg HH.out hbc (zR _));clear hbc HH;have HPS:=zC hPS;clear hPS;go_wp2_with fail;have hO0:=Bx.new wo none 0 0 none 0 0;have hb0:Below wo.heap.size wo (wo.alloc (.cells #[.slice none 0 0,.slice none 0 0] 25)):=(zI _ _).alloc (zR _) _;go_loopw [9] (fun iv wr=>∃(i:Nat) (av:Option Addr) (cv:Nat),iv=.int .i64 (i:Int)∧i≤n2∧Bx wr wo.heap.size av i cv none 0 0∧wr.ownsRow (wo.heap.size+1) 3 1 (.slice av i cv) i (yS9 (r.1.take i))∧Below wo.heap.size wo wr) (fun iv _=>n2-(intOf iv).toNat)
 case atStart=>exact⟨0,none,0,rfl,xJ _,hO0,zT _ _ _ _,hb0⟩
 case round=>
  obtain⟨i,av,cv,rfl,hi,hO,ho,hb⟩:=hrel;clear hO0 hb0;have h:=xLg HLV.out hb (zR _);have x2:=h.out.2.1.c0;have lO:=hO.lt;by_cases hlt:i<n2
  · have e2:(i:Int)<(n2:Int):=by omega
    have HN:=zC (zX3 (l:=r.1) (k:=i) (by rw[HL1.out.2];exact hlt));obtain⟨bl,ol,rfl,hc⟩:=HSW.out.2 yEn;have hck:=(h.out.2.2.2.cell (p:=⟨bl,ol+i,none⟩) (yU W _ (hc i hlt))).trans (hc i hlt);clear hc;generalize r.1.getD i 0=x at*;have u0:=hO.c0;have HO:=zC hO;have HW:=zC ho;have HB2:=zC hb;clear hO ho hb h;go_wp2_with fail;go_region_law (refine xOg wr (wo.heap.size+1) (.tmp 52) (.tmp 58) av i cv _ x rfl rfl rfl rfl rfl rfl rfl rfl HW.out yEn yEn ?_;intro av' cv' w9 hown9 hg9 _;have hO9:=Bx.grownV HW.out yCn hg9 HO.out;have z1:=hO9.c0;have g2:=hO9.f 0)
    all_goals
     rw[←HN.out]at hown9;have hb10:=HB2.out.trans ((xNg HW.out hg9 yEn).mono yEn);have hO11:=zC (hO9.set0 av' (i+1) cv');have hr11:=zC (xMg hown9 yCn hO9 0 (.slice av' (i+1) cv'));have hb11:=zC (hb10.setCell (p:=⟨wo.heap.size,0,none⟩) (zR _) (.slice av' (i+1) cv'));clear hO9 hg9 hown9 hb10 u0 z1 g2 HO HW HB2 hck x2;go_wp2_with fail;go_roundw
     case rel=>exact⟨i+1,av',cv',by go_num,by omega,hO11.out,hr11.out,hb11.out⟩
     case measure=>simp[intOf];omega
  · have e2:¬(i:Int)<(n2:Int):=by omega
    obtain rfl:i=n2:=by omega
    rw[yW (by rw[HL1.out.2];exact zR _)]at ho;clear h hlt;go_wp2_with fail;go_loopw [10] (fun iv wr=>∃(j:Nat) (av:Option Addr) (cv:Nat),iv=.int .i64 (j:Int)∧1≤j∧j≤n1∧Bx wr wo.heap.size av (i+(j-1)) cv none 0 0∧wr.ownsRow (wo.heap.size+1) 3 1 (.slice av (i+(j-1)) cv) (i+(j-1)) (yS9 (r.1++q.1.tail.take (j-1)))∧Below wo.heap.size wo wr) (fun iv _=>n1-(intOf iv).toNat)
    case atStart=>exact⟨1,av,cv,rfl,zR _,hn,hO,by rw[show 1-1=0 from rfl,xK,xL];exact ho,hb⟩
    case round=>
     obtain⟨j,av,cv,rfl,hj1,hj,hO,ho,hb⟩:=hrel;have h:=xLg HLV.out hb (zR _);have x1:=h.out.2.2.1.c0;have lO:=hO.lt;by_cases hlt:j<n1
     · have e2:(j:Int)<(n1:Int):=by omega
       have HN:=zC (zW3 (l:=q.1) (A:=r.1) (k:=j) hj1 (by rw[HL1.out.1];exact hlt));obtain⟨bl,ol,hbo,hc⟩:=HSV.out.2 yEn;obtain⟨rfl,rfl⟩:bb=bl∧off=ol:=by injection hbo with e;injection e with e1 e2;exact⟨e1,e2⟩
       have hck:=(h.out.2.2.2.cell (p:=⟨bb,off+j,none⟩) (yU W _ (hc j hlt))).trans (hc j hlt);clear hc hbo;generalize q.1.getD j 0=x at*;obtain⟨C,hC⟩:∃C,C=i+(j-1):=⟨_,rfl⟩
       have hC2:i+(j+1-1)=C+1:=by omega
       rw[←hC]at hO ho;have hC9:C≤1000:=by omega
       replace hC2:=zC hC2;clear hC;have u0:=hO.c0;have HO:=zC hO;have HW:=zC ho;have HB2:=zC hb;clear hO ho hb h;go_wp2_with fail;go_region_law (refine xOg wr (wo.heap.size+1) (.tmp 69) (.tmp 75) av C cv _ x rfl rfl rfl rfl rfl rfl rfl rfl HW.out yEn yEn ?_;intro av' cv' w9 hown9 hg9 _;have hO9:=Bx.grownV HW.out yCn hg9 HO.out;have z1:=hO9.c0;have g2:=hO9.f 0)
       all_goals
        rw[←HN.out]at hown9;have hb10:=HB2.out.trans ((xNg HW.out hg9 yEn).mono yEn);have hO11:=zC (hO9.set0 av' (C+1) cv');have hr11:=zC (xMg hown9 yCn hO9 0 (.slice av' (C+1) cv'));have hb11:=zC (hb10.setCell (p:=⟨wo.heap.size,0,none⟩) (zR _) (.slice av' (C+1) cv'));clear hO9 hg9 hown9 hb10 u0 z1 g2 HO HW HB2 hck x1;go_wp2_with fail;go_roundw
        case rel=>exact⟨j+1,av',cv',by go_num,by omega,by omega,by rw[hC2.out];exact hO11.out,by rw[hC2.out];exact hr11.out,hb11.out⟩
        case measure=>simp[intOf];omega
     · have e2:¬(j:Int)<(n1:Int):=by omega
       obtain rfl:j=n1:=by omega
       rw[yW (by rw[yY,HL1.out.1];exact zR _)]at ho;obtain⟨N,hN⟩:∃N,N=i+(j-1):=⟨_,rfl⟩
       rw[←hN]at hO ho;have hN7:N≤1000000:=by omega
       have HSL:=zC (zYf ho);have hcp:=zC (xE8 ho);obtain⟨B2,hB2⟩:∃B2,B2=wr.heap.size:=⟨_,rfl⟩
       have hsb:Hid (∀p,av=some p→p.block<B2):=zC fun p hp=>by rw[hB2];exact(ho.lt p.block (by rw[hp];rfl)).2
       have hgb:wo.heap.size<B2:=by rw[hB2];exact hO.lt
       have hB3:B2≤wr.heap.size:=by omega
       have z0:=hO.c0;clear ho hlt hB2 hN;obtain⟨SH,hSH⟩:∃SH,SH=r.1++q.1.tail:=⟨_,rfl⟩
       rw[←hSH]at KZ HZ HY HSL;obtain⟨E,hE⟩:∃E,E=szE SH:=⟨_,rfl⟩
       rw[←hE]at KZ HZ HY;generalize szV SH=vz at*;clear hE;go_wp2_with fail;refine(KZ.out _ _ _ cv HSL.out).mono ?_;rintro e wy ⟨rfl,rfl⟩;by_cases hE0:E=0
       · subst hE0
         obtain⟨HRR0,HRK0,h4⟩:=HY.out rfl;have HRR:=zC HRR0;have HRK:=zC HRK0;clear HRR0 HRK0;have hSL:=HSL.out;clear HSL HY HZ KZ z0;go_wp2_with fail;go_loopw [13] (fun iv wr=>∃(k:Nat) (bv:Option Addr) (dv:Nat),iv=.int .i64 k∧k≤m2∧Bx wr wo.heap.size av N cv bv (its (q.2.map S) K ((yF4 r.2).take k)).length dv∧wr.ownsRow B2 9 1 (.slice bv (its (q.2.map S) K ((yF4 r.2).take k)).length dv) (its (q.2.map S) K ((yF4 r.2).take k)).length (zTf (its (q.2.map S) K ((yF4 r.2).take k)))∧Sl wr av N SH∧Below wo.heap.size wo wr∧B2≤wr.heap.size) (fun iv _=>m2-(intOf iv).toNat)
         case atStart=>exact⟨0,none,0,rfl,xJ _,hO,zT _ _ _ _,hSL,hb,hB3⟩
         case round=>
          obtain⟨k,bv,dv,rfl,hk,hO1,ho1,hS1,hb1,hB1⟩:=hrel;clear hO hSL hb hB3 h;have h:=xLg HLV.out hb1 (zR _);by_cases hlt:k<m2
          · have e2:(k:Int)<(m2:Int):=by omega
            obtain⟨bl,ol,rfl,hcl⟩:=HPS.out.2 yEn;have hck:=(hb1.cell (p:=⟨bl,ol+k,none⟩) (yU wo _ (hcl k hlt))).trans (hcl k hlt);rw[←HAT.out k hlt]at hck;obtain⟨hst,hp1,hp2⟩:=HS.out k hlt;have hi0:=HIN.out k hlt;have h41:(k+1)*K≤4096:=xN (xE _ hlt) h4;rw[xP,HLN.out,xR (xT hlt)]at hp1;have KT2:=KT.out;generalize (yF4 r.2).getD k 0=i0 at*;clear hcl;obtain⟨P,hP⟩:∃P,P=its (q.2.map S) K ((yF4 r.2).take k):=⟨_,rfl⟩
            obtain⟨X,hX⟩:∃X,X=yU4 (q.2.map S) K i0:=⟨_,rfl⟩
            rw[←hP]at hO1 ho1 hst hp1;rw[←hX]at hst hp2;have Q1:Hid (∀z,Below wr.heap.size wr z→Calls Tryz.prog 86 #[.agg #[.slice (some ⟨bb,off,none⟩) j c1,.slice b1 m1 d1],.int .i64 (i0:Int)] z fun e w'=>∃a n c b m d,e=.returned (.tuple #[.agg #[.slice a n c,.slice b m d],.bool true])∧Vl w' a n b m q.1.tail X∧(∀p,b=some p→wr.heap.size≤p.block)∧Below wr.heap.size wr w'∧Below z.heap.size z w'):=zC fun z hz=>(KT2 z (h.out.2.2.2.trans (hz.mono h.out.2.2.2.size)) i0 hi0).mono fun e w' k=>by
             obtain⟨a,n,c,b,m,d,k1,k2,k3,k4⟩:=k;exact⟨a,n,c,b,m,d,k1,by rw[hX];exact k2,fun p hp=>xN hz.size (k4 p hp),hz.trans (k3.mono hz.size),k3⟩
            have HST:=zC (And.intro hst (And.intro hp1 hp2));have hC4:P.length+K≤4096:=by rw[hp1];rw[xV,xY]at h41;exact h41
            clear hst hp1 hp2 hi0 h41 hP hX KT2;have lck:=yU wr _ hck;have uv:=h.out.2.2.1.c0;have vv:=h.out.2.2.1.c1;have lv:=h.out.2.2.1.lt;have HO:=zC hO1;have HW:=zC ho1;have HS1:=zC hS1;have HBW:=zC hb1;have hq:Below wr.heap.size wr wr:=zI _ _;have hqz:=hq.size;clear hO1 ho1 hS1 hb1 h;go_wp2_with fail;go_cut [14,15]from 88 to 108 (fun p q' wx=>ICut q.1.tail X wr p q' wx)
            case first=>
             go_region_held3 (fun w'=>w'.cell? ⟨W.heap.size,0,none⟩=some (.slice (some ⟨bb,off,none⟩) j c1)∧w'.cell? ⟨W.heap.size,1,none⟩=some (.slice b1 m1 d1)∧w'.cell? ⟨bl,ol+k,none⟩=some (.int .i64 (i0:Int)))
              (first|exact⟨(zA0 (p:=⟨W.heap.size,0,none⟩) xJl lv).trans uv,(zA0 (p:=⟨W.heap.size,1,none⟩) xJl lv).trans vv,(zA0 (p:=⟨bl,ol+k,none⟩) xJl lck).trans hck⟩|fail)
              (first
                |(go_at_call 86;(with_reducible refine(Q1.out _ xJl).mono ?_);rintro e wa ⟨a',n',c',b',m',d',rfl,hv',hf',hq,hr⟩;have hqz:=hq.size;(try(have hZ1:=Bx.on xGl hr;have y0:=hZ1.c0;have y1:=hZ1.c1;have g0:=hZ1.f 0;have g1:=hZ1.f 1)))
                |fail)
             all_goals
              go_wp2_with fail;go_meet
              case rel=>with_reducible first|exact ICut.new hq hv' hf'|(refine ICut.set hq hv' hf' hZ1 ?_<;>first|exact zR _|exact hqz|omega|(simp;done)|(simp;omega))
            case rest=>
             clear hq hqz Q1 uv vv lv hck lck;obtain⟨gx,ax,nx,cx,bx,mx,dx,rfl,rfl,hX,hV,hgx,hfx,hbc⟩:=hcut;have hOX:=HO.out.below hbc HO.out.lt;have hWX:=zLe HW.out hbc;have hSX:=HS1.out.below hbc;have hbW:=HBW.out.trans (hbc.mono HBW.out.size);have hbX:B2≤wc.heap.size:=xN hB1 hbc.size;have hm:mx=K:=by rw[←HST.out.2.2];exact hV.t.1.symm
             subst hm;have hgne:wo.heap.size≠gx:=by have:=HO.out.lt;omega
             have hX1:=hX.c1;have z1:=hOX.c1;have lOX:=hOX.lt;obtain⟨C,hC⟩:∃C,C=P.length:=⟨_,rfl⟩
             rw[←hC]at hOX hWX hC4 z1;have HC:=zC hC;have hrd:=zC hV.t.rd;have HOX:=zC hOX;have HWX:=zC hWX;have HSX:=zC hSX;have HBX:=zC hbW;clear hOX hWX hSX hbW HO HW HS1 HBW hC hfx hbc hB1 hV hX;go_upto_region 22 with(at_builtin;refine yDf rfl (.tmp 104) (.tmp 106) 23 rfl B2 9 (.string ⟨#[]⟩) 16 Tryz.underlying23 xC4 rfl yCn _ C (zTf P) rfl HWX.out _ mx dx (zTf X) rfl hrd.out (zVf _) yEn hbX ?_;intro av' cv' w9 hown9 hg9;have hO9:=Bx.grownV HWX.out yCn hg9 HOX.out;have z2:=hO9.c1;have g2:=hO9.f 1)
             rw[zSg,←HST.out.1]at hown9;have hb10:=HBX.out.trans ((xNg HWX.out hg9 hbX).mono yEn);have hS9:=HSX.out.grown_far hg9 (fun p hp h0 e=>by have h5:=(HWX.out.lt _ e.symm).1;have h6:=hsb.out p hp;omega);have hlen:(its (q.2.map S) mx ((yF4 r.2).take (k+1))).length=C+mx:=by rw[HST.out.1,zC0,HST.out.2.2,HC.out]
             have hO11:=zC (hO9.set1 av' (C+mx) cv');have hr11:=zC (xMg hown9 yCn hO9 1 (.slice av' (C+mx) cv'));have hS11:=zC (hO9.sl1 hS9 (.inr rfl) (.slice av' (C+mx) cv'));have hb11:=zC (hb10.setCell (p:=⟨wo.heap.size,1,none⟩) (zR _) (.slice av' (C+mx) cv'));have hz9:B2≤w9.heap.size:=xN hbX hg9.size;clear hO9 hg9 hown9 hb10 z1 z2 g2 HOX HWX HSX HBX hrd hX1 hS9;go_wp2_with fail;go_roundw
             case rel=>exact⟨k+1,av',cv',by go_num,by omega,by rw[hlen];exact hO11.out,by rw[hlen];exact hr11.out,hS11.out,hb11.out,by simpa using hz9⟩
             case measure=>simp[intOf];omega
          · have e2:¬(k:Int)<(m2:Int):=by omega
            obtain rfl:k=m2:=by omega
            rw[yW (by rw[HLN.out];exact zR _),HMAP.out]at hO1 ho1;have x0:=hO1.c0;have x1:=hO1.c1;have hst:=zC (zZf ho1);have hcp2:=zC (xE8 ho1);have hV:Hid (Vl wr av N bv ((its q.2 K (yF4 r.2)).map S).length (TS (some (SH,its q.2 K (yF4 r.2)))).1 (TS (some (SH,its q.2 K (yF4 r.2)))).2):=zC ⟨hS1,hst.out,by
             have h9:=HRK.out.2.1;have h8:=(yE9.1 HRK.out.1).pr;rw[zD0];have h7:(((its q.2 K (yF4 r.2)).length:Nat):Int)≤4096:=by
              refine Int.le_trans (Int.le_of_eq h9) ?_;exact h8
             omega⟩
            clear hO1 ho1 hS1 hb1;generalize ((its q.2 K (yF4 r.2)).map S).length=NB at*;have y0:=h.out.1.c0;have y3:=h.out.1.c1;have f0:=h.out.1.f 0;have f1:=h.out.1.f 1;go_wp2_with fail;have hR:=h.out.1.set av N cv bv NB dv;have r0:=hR.c0;have r1:=hR.c1;exact zE (v:=.tuple #[.agg #[.slice av N cv,.slice bv NB dv],.int .i64 0]) zNm rfl (by
             rw[HRR.out];exact xM3 (r:=(some (SH,its q.2 K (yF4 r.2)),0)) h.out.1 h.out.2.2.2 yEn hV.out ⟨hcp.out.1,hcp.out.2,hcp2.out.1,hcp2.out.2⟩ HRK.out)
       · have HG:=zC (HZ.out hE0)
         have hk:(E != 0)=true:=by simpa using hE0
         clear HSL HY HZ KZ z0 hO;have y0:=h.out.1.c0;have y3:=h.out.1.c1;have f0:=h.out.1.f 0;have f1:=h.out.1.f 1;go_wp2_with fail;have hR:=h.out.1.set none 0 0 none 0 0;have r0:=hR.c0;have r1:=hR.c1;exact zE (v:=.tuple #[.agg #[.slice none 0 0,.slice none 0 0],.int .i64 E]) zNm rfl (by rw[HG.out];exact xN3 h.out.1 h.out.2.2.2 yEn)
theorem yE3 {a1 b1 a2 b2:Option Addr} {n1 c1 m1 d1 n2 c2 m2 d2:Nat} {l m:List Int} {es fs:List ByteArray} {W:World} {o p:Option Ar} (h1:Av W a1 n1 c1 b1 m1 d1 l es o) (h2:Av W a2 n2 c2 b2 m2 d2 m fs p):Calls Tryz.prog 37 #[.agg #[.slice a1 n1 c1,.slice b1 m1 d1],.agg #[.slice a2 n2 c2,.slice b2 m2 d2]] W (xL3 (ixK o p) W):=by
 cases o with
 |none=>rw[zQ3];exact zZ3 (m:=m) (fs:=fs) h1
 |some q=>
 cases p with
 |none=>rw[zR3];exact yA3 h1 h2
 |some r=>
  have hl:=h1.v.s.1;by_cases h0:q.1=[]
  · rw[zS3 r h0];exact yB3 h1 h2 (by rw[←hl,←h1.fst,h0];rfl)
  · have hn:0<n1:=by
     rw[←hl,←h1.fst];exact zE0.2 h0
    by_cases hp:plE r (q.1.getD 0 0)=0
    · exact yD3 h1 h2 hn h0 hp
    · exact yC3 h1 h2 hn h0 hp
end Go.Proofs.YtcfbjdplhgdpfaaGreatDoor

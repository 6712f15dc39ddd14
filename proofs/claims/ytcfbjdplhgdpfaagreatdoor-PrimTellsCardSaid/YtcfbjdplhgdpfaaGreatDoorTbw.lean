import Derived.Test.YtcfbjdplhgdpfaaGreatDoorTbm
set_option maxHeartbeats 3200000
set_option maxRecDepth 100000
namespace Go.Proofs.YtcfbjdplhgdpfaaGreatDoor
set_option linter.unusedVariables false
set_option linter.unusedSimpArgs false
theorem xDm {P:Prop}(h:P:=by simp[results,Tryz.results81,go_sem]):P:=h
theorem yDm {P:Prop}(h:P:=by simp[results,Tryz.results34,go_sem,r0,r1]):P:=h
theorem yCm {P:Prop}(h:P:=by simp[results,Tryz.results33,go_sem,r0,r1]):P:=h
theorem yBm {P:Prop}(h:P:=by simp[results,Tryz.results82,go_sem,r0,r1]):P:=h
theorem zBm {P:Prop}(h:P:=by rintro rfl;have:=h2.v.s.1;simp at this;omega):P:=h
theorem xHl {P:Prop}(h:P:=by repeat' (first|exact hq.mono (xT lR)|refine zU ?_|refine zSf ?_ _|refine zV ?_ ?_ _|refine zB0 ?_ ?_ _|exact hqz|exact zR _|omega|(simp;done)|(simp;omega))):P:=h
open Go.RowKit
theorem yXd (f N:Nat):zU4 (f:Int) N=(List.range' f N).map fun i:Nat=>(i:Int):=by
 unfold zU4;rw[List.range'_eq_map_range,yZ1];apply List.map_congr_left;intro i _;simp
theorem yYd {a1 b1:Option Addr} {n1 c1 m1 d1:Nat} {l:List Int} {es:List ByteArray} {W:World} {q:Ar} (h1:Av W a1 n1 c1 b1 m1 d1 l es (some q)) (hn:0<n1) {f t:Nat} (hft:f≤t) (ht:t≤mN l) (h0:m1=0∨t=f):
 Calls Tryz.prog 82 #[.agg #[.slice a1 n1 c1,.slice b1 m1 d1],.int .i64 (f:Int),.int .i64 (t:Int)] W (yIb (((t-f:Nat):Int)::l.tail) (ctM l es f t) W):=by
 have HB:=zC (fun w (hb:Below W.heap.size W w)=>zI4 (c:=c1) (d:=d1) w (h1.v.below hb) hn zEn ((t-f:Nat):Int));have hN:=h1.items.2.2.1;have he:ctM l es f t=[]:=by
  unfold ctM;rcases h0 with h0|h0
  · rw[yR1 (h1.v.t.1.trans h0)];simp
  · rw[h0,Nat.sub_self,Nat.zero_mul,xK]
 rw[he];have hw:IntKind.i64.wrap ((t:Int)-(f:Int))=((t-f:Nat):Int):=by rw[show(t:Int)-(f:Int)=((t-f:Nat):Int)by omega];exact xJ0 _ yEn
 have hmax:max ((t-f:Nat):Int) 0=((t-f:Nat):Int):=by omega
 have hcond:m1=0∨(t:Int)≤(f:Int):=by omega
 clear h1 he h0 ht hN hft;generalize l.tail=T at*;generalize t-f=u at*;by_cases hm:m1=0
 ·
  subst hm;have h:=xO3 W a1 n1 c1 b1 0 d1;go_in;have x1:=h.out.2.1.c0;have y1:=h.out.2.1.c1;have y0:=h.out.1.c0;have y3:=h.out.1.c1;have f0:=h.out.1.f 0;have f1:=h.out.1.f 1;go_wp2_with fail
  with_reducible refine(yWc h (HB.out _ h.out.2.2)).mono ?_
  clear h y0 y3 f0 f1 x1 y1;rintro e w ⟨ar,nr,cr,br,mr,dr,rfl,h,hv,hc⟩;have y0:=h.out.1.c0;have y3:=h.out.1.c1;have f0:=h.out.1.f 0;have f1:=h.out.1.f 1;go_wp2_with fail;have hR:=h.out.1.set ar nr cr br mr dr;have r0:=hR.c0;have r1:=hR.c1;exact zE (v:=.agg #[.slice ar nr cr,.slice br mr dr]) yBm rfl ⟨_,_,_,_,_,_,rfl,⟨h.out.1.sl hv.s _ _,h.out.1.st hv.t _ _,hv.mm⟩,hc,yJ4 h.out.2.2 yEn _ _⟩
 · have hge:=hcond.resolve_left hm
   have hm0:¬((m1:Int)=0):=by omega
   have h:=xO3 W a1 n1 c1 b1 m1 d1;go_in;have x1:=h.out.2.1.c0;have y1:=h.out.2.1.c1;have y0:=h.out.1.c0;have y3:=h.out.1.c1;have f0:=h.out.1.f 0;have f1:=h.out.1.f 1;go_wp2_with fail
   with_reducible refine(yWc h (HB.out _ h.out.2.2)).mono ?_
   clear h y0 y3 f0 f1 x1 y1;rintro e w ⟨ar,nr,cr,br,mr,dr,rfl,h,hv,hc⟩;have y0:=h.out.1.c0;have y3:=h.out.1.c1;have f0:=h.out.1.f 0;have f1:=h.out.1.f 1;go_wp2_with fail;have hR:=h.out.1.set ar nr cr br mr dr;have r0:=hR.c0;have r1:=hR.c1;exact zE (v:=.agg #[.slice ar nr cr,.slice br mr dr]) yBm rfl ⟨_,_,_,_,_,_,rfl,⟨h.out.1.sl hv.s _ _,h.out.1.st hv.t _ _,hv.mm⟩,hc,yJ4 h.out.2.2 yEn _ _⟩
theorem yZd {a1 b1:Option Addr} {n1 c1 m1 d1:Nat} {l:List Int} {es:List ByteArray} {W:World} {q:Ar} (h1:Av W a1 n1 c1 b1 m1 d1 l es (some q)) (hn:0<n1) {f t:Nat} (hft:f≤t) (ht:t≤mN l) (h0:0<m1) (h3:f<t):
 Calls Tryz.prog 82 #[.agg #[.slice a1 n1 c1,.slice b1 m1 d1],.int .i64 (f:Int),.int .i64 (t:Int)] W (yIb (((t-f:Nat):Int)::l.tail) (ctM l es f t) W):=by
 have hl:l≠[]:=by
  rintro rfl;have:=h1.v.s.1;simp at this
  omega
 have hit:=h1.items;rw[xLc hl]at hit ht;have hm4:=h1.mlen.2.2;have hlen:(List.range' f (t-f)).length=t-f:=List.length_range';have hK1:0<kI l:=xF0 fun e=>by rw[e,yQ2]at hit;omega
 have hbd:(t-f)*kI l≤4096:=by
  have:(t-f)*kI l≤nI l*kI l:=xE _ yEn;omega
 have hi:∀j,j<t-f→(List.range' f (t-f)).getD j 0<nI l:=fun j hj=>by
  rw[yJ,List.getElem?_range' hj];simp;omega
 have hi2:=zBa (es:=es) (k:=kI l) (t-f) f (by
  have e1:(f+(t-f))*kI l≤nI l*kI l:=xE _ yEn;rw[h1.v.t.1];omega)
 have HI:=zC (fun w (hb:Below W.heap.size W w) a c (hs:Sl w a (t-f) (zU4 (f:Int) (t-f)))=>(show Calls Tryz.prog 63 #[.agg #[.slice a1 n1 c1,.slice b1 m1 d1],.slice a (t-f) c] w (yIb (((t-f:Nat):Int)::l.tail) (ctM l es f t) w)from by
  have:=zL4 (h1.below hb) hn (L:=List.range' f (t-f)) (c2:=c) (by rw[yXd]at hs;exact hs) hi hbd (xN (yX2 _ hK1) (xN hbd yEn));rw[hi2]at this;exact this))
 have hN4:t-f≤4096:=xN (yX2 _ hK1) hbd;have hNI:=hit.2.2.1;have HU:=zC (fun z=>zW4 (f:Int) (t-f) yEn yEn yEn (t:=(t:Int)) yEn z);have hm0:¬((m1:Int)=0):=by omega
 have hge:¬((t:Int)≤(f:Int)):=by omega
 clear h1 hl hit hlen hi hi2 hbd hN4 hNI hK1 hm4;generalize l.tail=T at*;generalize ctM l es f t=X at*;generalize t-f=u at*;have h:=xO3 W a1 n1 c1 b1 m1 d1;go_in;have x1:=h.out.2.1.c0;have y1:=h.out.2.1.c1;have y0:=h.out.1.c0;have y3:=h.out.1.c1;have f0:=h.out.1.f 0;have f1:=h.out.1.f 1;go_upto_region 3 with fail
 have uv:=h.out.2.1.c0;have vv:=h.out.2.1.c1;have lv:=h.out.2.1.lt;have lR:=h.out.1.lt;obtain⟨wz,hwz⟩:∃z,z=(W.alloc (.cells #[.slice a1 n1 c1,.slice b1 m1 d1] 25)).alloc (.cells #[.slice none 0 0,.slice none 0 0] 25):=⟨_,rfl⟩
 rw[←hwz]at h uv vv lv lR ⊢;have hq:Below wz.heap.size wz wz:=zI _ _;have hqz:=hq.size;have HLV:=zC h;have Q1:Hid (∀z,Below wz.heap.size wz z→Calls Tryz.prog 127 #[.int .i64 (f:Int),.int .i64 (t:Int)] z fun e w'=>∃a c,e=.returned (.slice a u c)∧Sl w' a u (zU4 (f:Int) u)∧Below wz.heap.size wz w'):=zC fun z hz=>(HU.out z).mono fun e w' k=>by
  obtain⟨a,c,k1,k2,k3⟩:=k;exact⟨a,c,k1,k2.sl,hz.trans (k3.mono hz.size)⟩
 have Q2:Hid (∀z a c,Below wz.heap.size wz z→Sl z a u (zU4 (f:Int) u)→Calls Tryz.prog 63 #[.agg #[.slice a1 n1 c1,.slice b1 m1 d1],.slice a u c] z fun e w'=>∃a n c b m d,e=.returned (.agg #[.slice a n c,.slice b m d])∧Vl w' a n b m ((u:Int)::T) X∧Cp n c m d∧Below wz.heap.size wz w'):=zC fun z a c hz hs=>(HI.out z (h.out.2.2.trans (hz.mono h.out.2.2.size)) a c hs).mono fun e w' k=>by
  obtain⟨a,n,c,b,m,d,k1,k2,k3,k4⟩:=k;exact⟨a,n,c,b,m,d,k1,k2,k3,hz.trans (k4.mono hz.size)⟩
 have hb0:=zC h.out.2.2;clear h x1 y1 hwz;go_region_held3 (fun w'=>w'.cell? ⟨W.heap.size,0,none⟩=some (.slice a1 n1 c1)∧w'.cell? ⟨W.heap.size,1,none⟩=some (.slice b1 m1 d1))
  (first|exact⟨(zA0 (p:=⟨W.heap.size,0,none⟩) xHl (zW _)).trans uv,(zA0 (p:=⟨W.heap.size,1,none⟩) xHl (zW _)).trans vv⟩|fail)
  (first
    |(go_at_call 127;(with_reducible refine(Q1.out _ xJl).mono ?_);rintro e wa ⟨ai,ci,rfl,hsl,hq⟩;have hqz:=hq.size)
    |(go_at_call 63;(with_reducible refine(Q2.out _ _ _ xJl (by first|exact hsl|exact hsl.below (by(try exact zI _ _);(repeat' (first|exact zI _ _|refine zU ?_|refine zSf ?_ _))))).mono ?_);rintro e wb ⟨a',n',c',b',m',d',rfl,hv',hc',hq⟩;have hqz:=hq.size;have hZ1:=Bx.below HLV.out.out.1 xJl lR;have y0:=hZ1.c0;have y3:=hZ1.c1;have f0:=hZ1.f 0;have f1:=hZ1.f 1)
    |fail)
 all_goals
  go_wp2_with fail;have hR:=hZ1.set a' n' c' b' m' d';have r0:=hR.c0;have r1:=hR.c1;exact zE (v:=.agg #[.slice a' n' c',.slice b' m' d']) yBm rfl ⟨_,_,_,_,_,_,rfl,⟨hZ1.sl hv'.s _ _,hZ1.st hv'.t _ _,hv'.mm⟩,hc',yJ4 (hb0.out.trans (hq.mono hb0.out.size)) yEn _ _⟩
theorem xAd {a1 b1:Option Addr} {n1 c1 m1 d1:Nat} {l:List Int} {es:List ByteArray} {W:World} {q:Ar} (h1:Av W a1 n1 c1 b1 m1 d1 l es (some q)) (hn:0<n1) {f t:Nat} (hft:f≤t) (ht:t≤mN l):Calls Tryz.prog 82 #[.agg #[.slice a1 n1 c1,.slice b1 m1 d1],.int .i64 (f:Int),.int .i64 (t:Int)] W (yIb (TS (some (cuM q f t))).1 (TS (some (cuM q f t))).2 W):=by
 have h:Calls Tryz.prog 82 #[.agg #[.slice a1 n1 c1,.slice b1 m1 d1],.int .i64 (f:Int),.int .i64 (t:Int)] W (yIb (((t-f:Nat):Int)::l.tail) (ctM l es f t) W):=by
  by_cases h0:m1=0∨t=f
  · exact yYd h1 hn hft ht h0
  · exact yZd h1 hn hft ht yEn yEn
 rw[h1.i.2.1,xJc]at h;have e:=h1.fst;subst e;exact h
def xBd (r:Int×Int×Int) (W:World) (e:Ending) (W':World):Prop:=e=.returned (.tuple #[.int .i64 r.1,.int .i64 r.2.2])∧Below W.heap.size W W'
theorem xCd {a1 b1 a2 b2:Option Addr} {n1 c1 m1 d1 n2 c2 m2 d2:Nat} {l m:List Int} {es fs:List ByteArray} {W:World} (h1:Av W a1 n1 c1 b1 m1 d1 l es none):
 Calls Tryz.prog 81 #[.agg #[.slice a1 n1 c1,.slice b1 m1 d1],.agg #[.slice a2 n2 c2,.slice b2 m2 d2]] W (xBd (0,0,1) W):=by
 have KV:=zC (fun w (hb:Below W.heap.size W w)=>zM4 (h1.below hb));clear h1;have h:=yVc W a1 n1 c1 b1 m1 d1 a2 n2 c2 b2 m2 d2;go_in;have x1:=h.out.2.1.c0;have y1:=h.out.2.1.c1;go_wp2_with fail
 with_reducible refine(yMf h (KV.out _ h.out.2.2)).mono ?_
 clear h x1 y1;rintro e w ⟨rfl,h⟩;go_wp2_with fail;exact zE (v:=.tuple #[.int .i64 (0),.int .i64 (1)]) xDm rfl ⟨rfl,h.out.2.2⟩
theorem xDd {a1 b1 a2 b2:Option Addr} {n1 c1 m1 d1 n2 c2 m2 d2:Nat} {l m:List Int} {es fs:List ByteArray} {W:World} {q:Ar} (h1:Av W a1 n1 c1 b1 m1 d1 l es (some q)) (h2:Av W a2 n2 c2 b2 m2 d2 m fs none):
 Calls Tryz.prog 81 #[.agg #[.slice a1 n1 c1,.slice b1 m1 d1],.agg #[.slice a2 n2 c2,.slice b2 m2 d2]] W (xBd (0,0,1) W):=by
 have KV:=zC (fun w (hb:Below W.heap.size W w)=>zM4 (h1.below hb));have KU:=zC (fun w (hb:Below W.heap.size W w)=>zM4 (h2.below hb));clear h1 h2;have h:=yVc W a1 n1 c1 b1 m1 d1 a2 n2 c2 b2 m2 d2;go_in;have x1:=h.out.2.1.c0;have y1:=h.out.2.1.c1;go_wp2_with fail
 with_reducible refine(yMf h (KV.out _ h.out.2.2)).mono ?_
 clear h x1 y1;rintro e w ⟨rfl,h⟩;have x2:=h.out.1.c0;have y2:=h.out.1.c1;go_wp2_with fail
 with_reducible refine(yMf h (KU.out _ h.out.2.2)).mono ?_
 clear h x2 y2;rintro e w ⟨rfl,h⟩;go_wp2_with fail;exact zE (v:=.tuple #[.int .i64 (0),.int .i64 (1)]) xDm rfl ⟨rfl,h.out.2.2⟩
theorem xEd {a1 b1 a2 b2:Option Addr} {n1 c1 m1 d1 n2 c2 m2 d2:Nat} {l m:List Int} {es fs:List ByteArray} {W:World} {q r:Ar} (h1:Av W a1 n1 c1 b1 m1 d1 l es (some q)) (h2:Av W a2 n2 c2 b2 m2 d2 m fs (some r)) (he:(inM q).2≠0):
 Calls Tryz.prog 81 #[.agg #[.slice a1 n1 c1,.slice b1 m1 d1],.agg #[.slice a2 n2 c2,.slice b2 m2 d2]] W (xBd (0,0,(inM q).2) W):=by
 have KV:=zC (fun w (hb:Below W.heap.size W w)=>zM4 (h1.below hb));have KU:=zC (fun w (hb:Below W.heap.size W w)=>zM4 (h2.below hb));have KI:=zC (fun w (hb:Below W.heap.size W w)=>zT4 (h1.below hb));clear h1 h2;generalize (inM q).1=x at*;generalize (inM q).2=k at*;have hk:(k != 0)=true:=by simpa using he
 have h:=yVc W a1 n1 c1 b1 m1 d1 a2 n2 c2 b2 m2 d2;go_in;have x1:=h.out.2.1.c0;have y1:=h.out.2.1.c1;go_wp2_with fail
 with_reducible refine(yMf h (KV.out _ h.out.2.2)).mono ?_
 clear h x1 y1;rintro e w ⟨rfl,h⟩;have x2:=h.out.1.c0;have y2:=h.out.1.c1;go_wp2_with fail
 with_reducible refine(yMf h (KU.out _ h.out.2.2)).mono ?_
 clear h x2 y2;rintro e w ⟨rfl,h⟩;have x1:=h.out.2.1.c0;have y1:=h.out.2.1.c1;go_wp2_with fail
 with_reducible refine(yMf h (KI.out _ h.out.2.2)).mono ?_
 clear h x1 y1;rintro e w ⟨rfl,h⟩;go_wp2_with fail;exact zE (v:=.tuple #[.int .i64 (0),.int .i64 (k)]) xDm rfl ⟨rfl,h.out.2.2⟩
theorem xFd {a1 b1 a2 b2:Option Addr} {n1 c1 m1 d1 n2 c2 m2 d2:Nat} {l m:List Int} {es fs:List ByteArray} {W:World} {q r:Ar} (h1:Av W a1 n1 c1 b1 m1 d1 l es (some q)) (h2:Av W a2 n2 c2 b2 m2 d2 m fs (some r)) (he:(inM q).2=0) (h0:n2=0):
 Calls Tryz.prog 81 #[.agg #[.slice a1 n1 c1,.slice b1 m1 d1],.agg #[.slice a2 n2 c2,.slice b2 m2 d2]] W (xBd (0,0,3) W):=by
 have KV:=zC (fun w (hb:Below W.heap.size W w)=>zM4 (h1.below hb));have KU:=zC (fun w (hb:Below W.heap.size W w)=>zM4 (h2.below hb));have KI:=zC (fun w (hb:Below W.heap.size W w)=>zT4 (h1.below hb));rw[he]at KI;have hn0:(n2:Int)=0:=by omega
 clear h1 h2 he h0;generalize (inM q).1=x at*;have h:=yVc W a1 n1 c1 b1 m1 d1 a2 n2 c2 b2 m2 d2;go_in;have x1:=h.out.2.1.c0;have y1:=h.out.2.1.c1;go_wp2_with fail
 with_reducible refine(yMf h (KV.out _ h.out.2.2)).mono ?_
 clear h x1 y1;rintro e w ⟨rfl,h⟩;have x2:=h.out.1.c0;have y2:=h.out.1.c1;go_wp2_with fail
 with_reducible refine(yMf h (KU.out _ h.out.2.2)).mono ?_
 clear h x2 y2;rintro e w ⟨rfl,h⟩;have x1:=h.out.2.1.c0;have y1:=h.out.2.1.c1;go_wp2_with fail
 with_reducible refine(yMf h (KI.out _ h.out.2.2)).mono ?_
 clear h x1 y1;rintro e w ⟨rfl,h⟩;have x2:=h.out.1.c0;have y2:=h.out.1.c1;go_wp2_with fail;exact zE (v:=.tuple #[.int .i64 (0),.int .i64 (3)]) xDm rfl ⟨rfl,h.out.2.2⟩
theorem xGd {a1 b1 a2 b2:Option Addr} {n1 c1 m1 d1 n2 c2 m2 d2:Nat} {l m:List Int} {es fs:List ByteArray} {W:World} {q r:Ar} (h1:Av W a1 n1 c1 b1 m1 d1 l es (some q)) (h2:Av W a2 n2 c2 b2 m2 d2 m fs (some r)) (he:(inM q).2=0) (h0:0<n2):
 Calls Tryz.prog 81 #[.agg #[.slice a1 n1 c1,.slice b1 m1 d1],.agg #[.slice a2 n2 c2,.slice b2 m2 d2]] W (xBd ((inM q).1,itV m,0) W):=by
 have KV:=zC (fun w (hb:Below W.heap.size W w)=>zM4 (h1.below hb));have KU:=zC (fun w (hb:Below W.heap.size W w)=>zM4 (h2.below hb));have KI:=zC (fun w (hb:Below W.heap.size W w)=>zT4 (h1.below hb));rw[he]at KI;have hn0:(n2:Int)≠0:=by omega
 clear h1 h2 he h0;generalize (inM q).1=x at*;have h:=yVc W a1 n1 c1 b1 m1 d1 a2 n2 c2 b2 m2 d2;go_in;have x1:=h.out.2.1.c0;have y1:=h.out.2.1.c1;go_wp2_with fail
 with_reducible refine(yMf h (KV.out _ h.out.2.2)).mono ?_
 clear h x1 y1;rintro e w ⟨rfl,h⟩;have x2:=h.out.1.c0;have y2:=h.out.1.c1;go_wp2_with fail
 with_reducible refine(yMf h (KU.out _ h.out.2.2)).mono ?_
 clear h x2 y2;rintro e w ⟨rfl,h⟩;have x1:=h.out.2.1.c0;have y1:=h.out.2.1.c1;go_wp2_with fail
 with_reducible refine(yMf h (KI.out _ h.out.2.2)).mono ?_
 clear h x1 y1;rintro e w ⟨rfl,h⟩;have x2:=h.out.1.c0;have y2:=h.out.1.c1;go_wp2_with fail;exact zE (v:=.tuple #[.int .i64 (x),.int .i64 (0)]) xDm rfl ⟨rfl,h.out.2.2⟩
theorem xHd {a1 b1 a2 b2:Option Addr} {n1 c1 m1 d1 n2 c2 m2 d2:Nat} {l m:List Int} {es fs:List ByteArray} {W:World} {o p:Option Ar} (h1:Av W a1 n1 c1 b1 m1 d1 l es o) (h2:Av W a2 n2 c2 b2 m2 d2 m fs p):Calls Tryz.prog 81 #[.agg #[.slice a1 n1 c1,.slice b1 m1 d1],.agg #[.slice a2 n2 c2,.slice b2 m2 d2]] W (xBd (coM o p) W):=by
 cases o with
 |none=>exact xCd (m:=m) (fs:=fs) h1
 |some q=>
 cases p with
 |none=>exact xDd h1 h2
 |some r=>
 have hr:=h2.fst;have hl:=h2.v.s.1;by_cases he:(inM q).2=0
 · by_cases h0:n2=0
   · have e:coM (some q) (some r)=(0,0,3):=by
      unfold coM;dsimp only
      rw[zY (fun h=>h he),yA (by rw[hr];exact yO0.1 (hl.trans h0))]
     rw[e];exact xFd h1 h2 he h0
   · have e:coM (some q) (some r)=((inM q).1,itV m,0):=by
      unfold coM;dsimp only
      rw[zY (fun h=>h he),zY zFm,hr]
     rw[e];exact xGd h1 h2 he yEn
 · have e:coM (some q) (some r)=(0,0,(inM q).2):=by
    unfold coM;dsimp only
    rw[yA he]
   rw[e];exact xEd h1 h2 he
theorem xId {a1 b1 a2 b2:Option Addr} {n1 c1 m1 d1 n2 c2 m2 d2:Nat} {l m:List Int} {es fs:List ByteArray} {W:World} {o p:Option Ar} (h1:Av W a1 n1 c1 b1 m1 d1 l es o) (h2:Av W a2 n2 c2 b2 m2 d2 m fs p) (hco:(coM o p).2.2≠0∧(coM o p).1=0∧(coM o p).2.1=0):
 Calls Tryz.prog 33 #[.agg #[.slice a1 n1 c1,.slice b1 m1 d1],.agg #[.slice a2 n2 c2,.slice b2 m2 d2]] W (xL3 (none,(coM o p).2.2) W):=by
 have KC:=zC (fun w (hb:Below W.heap.size W w)=>xHd (h1.below hb) (h2.below hb));obtain⟨k1,k2,k3⟩:=hco;rw[show coM o p=(0,0,(coM o p).2.2)from yC k2 (yC k3 rfl)]at KC;generalize (coM o p).2.2=k at*;have hk:(k != 0)=true:=by simpa using k1
 clear h1 h2 k2 k3;have h:=xP3 W a1 n1 c1 b1 m1 d1 a2 n2 c2 b2 m2 d2;go_in;have x1:=h.out.2.2.1.c0;have y1:=h.out.2.2.1.c1;have x2:=h.out.2.1.c0;have y2:=h.out.2.1.c1;go_wp2_with fail
 with_reducible refine(yMf h (KC.out _ h.out.2.2.2)).mono ?_
 clear h x1 y1 x2 y2;rintro e w ⟨rfl,h⟩;have y0:=h.out.1.c0;have y3:=h.out.1.c1;have f0:=h.out.1.f 0;have f1:=h.out.1.f 1;go_wp2_with fail;have hR:=h.out.1.set none 0 0 none 0 0;have r0:=hR.c0;have r1:=hR.c1;exact zE (v:=.tuple #[.agg #[.slice none 0 0,.slice none 0 0],.int .i64 k]) yCm rfl (xN3 h.out.1 h.out.2.2.2 yEn)
theorem xJd {a1 b1 a2 b2:Option Addr} {n1 c1 m1 d1 n2 c2 m2 d2:Nat} {l m:List Int} {es fs:List ByteArray} {W:World} {o p:Option Ar} (h1:Av W a1 n1 c1 b1 m1 d1 l es o) (h2:Av W a2 n2 c2 b2 m2 d2 m fs p) (hco:(coM o p).2.2≠0∧(coM o p).1=0∧(coM o p).2.1=0):
 Calls Tryz.prog 34 #[.agg #[.slice a1 n1 c1,.slice b1 m1 d1],.agg #[.slice a2 n2 c2,.slice b2 m2 d2]] W (xL3 (none,(coM o p).2.2) W):=by
 have KC:=zC (fun w (hb:Below W.heap.size W w)=>xHd (h1.below hb) (h2.below hb));obtain⟨k1,k2,k3⟩:=hco;rw[show coM o p=(0,0,(coM o p).2.2)from yC k2 (yC k3 rfl)]at KC;generalize (coM o p).2.2=k at*;have hk:(k != 0)=true:=by simpa using k1
 clear h1 h2 k2 k3;have h:=xP3 W a1 n1 c1 b1 m1 d1 a2 n2 c2 b2 m2 d2;go_in;have x1:=h.out.2.2.1.c0;have y1:=h.out.2.2.1.c1;have x2:=h.out.2.1.c0;have y2:=h.out.2.1.c1;go_wp2_with fail
 with_reducible refine(yMf h (KC.out _ h.out.2.2.2)).mono ?_
 clear h x1 y1 x2 y2;rintro e w ⟨rfl,h⟩;have y0:=h.out.1.c0;have y3:=h.out.1.c1;have f0:=h.out.1.f 0;have f1:=h.out.1.f 1;go_wp2_with fail;have hR:=h.out.1.set none 0 0 none 0 0;have r0:=hR.c0;have r1:=hR.c1;exact zE (v:=.tuple #[.agg #[.slice none 0 0,.slice none 0 0],.int .i64 k]) yDm rfl (xN3 h.out.1 h.out.2.2.2 yEn)
theorem xKd {a1 b1 a2 b2:Option Addr} {n1 c1 m1 d1 n2 c2 m2 d2:Nat} {l m:List Int} {es fs:List ByteArray} {W:World} {x:Int} {N:Nat} {q r:Ar} (h1:Av W a1 n1 c1 b1 m1 d1 l es (some q)) (h2:Av W a2 n2 c2 b2 m2 d2 m fs (some r)) (hco:coM (some q) (some r)=(x,(N:Int),0)) (hn2:0<n2) (hN:N=mN m) (hNb:N≤1099511627776) (hb: -1099511627776≤x∧x≤1099511627776) (hx:0≤x∧(N:Int)<x∨x<0∧(N:Int)< -x):
 Calls Tryz.prog 33 #[.agg #[.slice a1 n1 c1,.slice b1 m1 d1],.agg #[.slice a2 n2 c2,.slice b2 m2 d2]] W (xL3 (none,6) W):=by
 have KC:=zC (fun w (hb:Below W.heap.size W w)=>xHd (h1.below hb) (h2.below hb));rw[hco]at KC;have hd:m.getD 0 0=(N:Int):=by
  rw[hN,h2.items.2.1];exact(xMc zBm).symm
 obtain⟨bb,off,rfl,hc⟩:=h2.v.s.2 hn2;have hc0:=hc 0 hn2;rw[hd,xB]at hc0;have HCK:=zC hc0;clear hc hc0 hd;clear h1 h2 hco hN;rcases hx with⟨g1,g2⟩|⟨g1,g2⟩
 ·
  have hn1:IntKind.i64.wrap (-x)= -x:=xJ0 _ yEn;have h:=xP3 W a1 n1 c1 b1 m1 d1 (some ⟨bb,off,none⟩) n2 c2 b2 m2 d2;go_in;have x1:=h.out.2.2.1.c0;have y1:=h.out.2.2.1.c1;have x2:=h.out.2.1.c0;have y2:=h.out.2.1.c1;go_wp2_with fail
  with_reducible refine(yMf h (KC.out _ h.out.2.2.2)).mono ?_
  clear h x1 y1 x2 y2;rintro e w ⟨rfl,h⟩;have hck:=(h.out.2.2.2.cell (p:=⟨bb,off,none⟩) (yU W _ HCK.out)).trans HCK.out;have x2:=h.out.2.1.c0;have y2:=h.out.2.1.c1;have y0:=h.out.1.c0;have y3:=h.out.1.c1;have f0:=h.out.1.f 0;have f1:=h.out.1.f 1;go_wp2_with fail;have hR:=h.out.1.set none 0 0 none 0 0;have r0:=hR.c0;have r1:=hR.c1;exact zE (v:=.tuple #[.agg #[.slice none 0 0,.slice none 0 0],.int .i64 6]) yCm rfl (xN3 h.out.1 h.out.2.2.2 yEn)
 ·
  have hn1:IntKind.i64.wrap (-x)= -x:=xJ0 _ yEn;have hmx:¬((N:Int)<x):=by omega
  have h:=xP3 W a1 n1 c1 b1 m1 d1 (some ⟨bb,off,none⟩) n2 c2 b2 m2 d2;go_in;have x1:=h.out.2.2.1.c0;have y1:=h.out.2.2.1.c1;have x2:=h.out.2.1.c0;have y2:=h.out.2.1.c1;go_wp2_with fail
  with_reducible refine(yMf h (KC.out _ h.out.2.2.2)).mono ?_
  clear h x1 y1 x2 y2;rintro e w ⟨rfl,h⟩;have hck:=(h.out.2.2.2.cell (p:=⟨bb,off,none⟩) (yU W _ HCK.out)).trans HCK.out;have x2:=h.out.2.1.c0;have y2:=h.out.2.1.c1;have y0:=h.out.1.c0;have y3:=h.out.1.c1;have f0:=h.out.1.f 0;have f1:=h.out.1.f 1;go_wp2_with fail;have hR:=h.out.1.set none 0 0 none 0 0;have r0:=hR.c0;have r1:=hR.c1;exact zE (v:=.tuple #[.agg #[.slice none 0 0,.slice none 0 0],.int .i64 6]) yCm rfl (xN3 h.out.1 h.out.2.2.2 yEn)
theorem xLd {a1 b1 a2 b2:Option Addr} {n1 c1 m1 d1 n2 c2 m2 d2:Nat} {l m:List Int} {es fs:List ByteArray} {W:World} {x:Int} {N t:Nat} {q r:Ar} (h1:Av W a1 n1 c1 b1 m1 d1 l es (some q)) (h2:Av W a2 n2 c2 b2 m2 d2 m fs (some r)) (hco:coM (some q) (some r)=(x,(N:Int),0)) (hn2:0<n2) (hN:N=mN m) (hNb:N≤1099511627776) (hxt:x= -(t:Int)) (ht0:0<t) (htN:t≤N) (hrok:Rok (some (cuM r (N-t) N))):
 Calls Tryz.prog 33 #[.agg #[.slice a1 n1 c1,.slice b1 m1 d1],.agg #[.slice a2 n2 c2,.slice b2 m2 d2]] W (xL3 (some (cuM r (N-t) N),0) W):=by
 have KP:=zC (fun w (hb:Below W.heap.size W w)=>xAd (h2.below hb) hn2 (f:=N-t) (t:=N) yEn zIn);have KC:=zC (fun w (hb:Below W.heap.size W w)=>xHd (h1.below hb) (h2.below hb));rw[hco]at KC;have hd:m.getD 0 0=(N:Int):=by
  rw[hN,h2.items.2.1];exact(xMc zBm).symm
 obtain⟨bb,off,rfl,hc⟩:=h2.v.s.2 hn2;have hc0:=hc 0 hn2;rw[hd,xB]at hc0;have HCK:=zC hc0;clear hc hc0 hd;have HR:=zC hrok;have hn1:IntKind.i64.wrap (-x)=(t:Int):=by rw[hxt,Int.neg_neg];exact xJ0 _ yEn
 have hn3:IntKind.i64.wrap ((N:Int)+x)=((N-t:Nat):Int):=by rw[hxt,show(N:Int)+ -(t:Int)=((N-t:Nat):Int)by omega];exact xJ0 _ yEn
 have hx0:x<0:=by omega
 have hmx:¬((N:Int)<x):=by omega
 have hle:¬((N:Int)<(t:Int)):=by omega
 obtain⟨u,hu⟩:∃u,u=N-t:=⟨_,rfl⟩
 rw[←hu]at KP HR hn3 ⊢;clear h1 h2 hco hxt hu hrok hN ht0 htN;have h:=xP3 W a1 n1 c1 b1 m1 d1 (some ⟨bb,off,none⟩) n2 c2 b2 m2 d2;go_in;have x1:=h.out.2.2.1.c0;have y1:=h.out.2.2.1.c1;have x2:=h.out.2.1.c0;have y2:=h.out.2.1.c1;go_wp2_with fail
 with_reducible refine(yMf h (KC.out _ h.out.2.2.2)).mono ?_
 clear h x1 y1 x2 y2;rintro e w ⟨rfl,h⟩;have hck:=(h.out.2.2.2.cell (p:=⟨bb,off,none⟩) (yU W _ HCK.out)).trans HCK.out;have x2:=h.out.2.1.c0;have y2:=h.out.2.1.c1;have y0:=h.out.1.c0;have y3:=h.out.1.c1;have f0:=h.out.1.f 0;have f1:=h.out.1.f 1;go_wp2_with fail
 with_reducible refine(yWc h (KP.out _ h.out.2.2.2)).mono ?_
 clear h y0 y3 f0 f1 x2 y2;rintro e w ⟨ar,nr,cr,br,mr,dr,rfl,h,hv,hc⟩;have y0:=h.out.1.c0;have y3:=h.out.1.c1;have f0:=h.out.1.f 0;have f1:=h.out.1.f 1;go_wp2_with fail;have hR:=h.out.1.set ar nr cr br mr dr;have r0:=hR.c0;have r1:=hR.c1;exact zE (v:=.tuple #[.agg #[.slice ar nr cr,.slice br mr dr],.int .i64 0]) yCm rfl (xM3 (r:=_) h.out.1 h.out.2.2.2 yEn hv hc HR.out)
theorem xMd {a1 b1 a2 b2:Option Addr} {n1 c1 m1 d1 n2 c2 m2 d2:Nat} {l m:List Int} {es fs:List ByteArray} {W:World} {x:Int} {N t:Nat} {q r:Ar} (h1:Av W a1 n1 c1 b1 m1 d1 l es (some q)) (h2:Av W a2 n2 c2 b2 m2 d2 m fs (some r)) (hco:coM (some q) (some r)=(x,(N:Int),0)) (hn2:0<n2) (hN:N=mN m) (hNb:N≤1099511627776) (hxt:x=(t:Int)) (htN:t≤N) (hrok:Rok (some (cuM r 0 t))):
 Calls Tryz.prog 33 #[.agg #[.slice a1 n1 c1,.slice b1 m1 d1],.agg #[.slice a2 n2 c2,.slice b2 m2 d2]] W (xL3 (some (cuM r 0 t),0) W):=by
 have KP:=zC (fun w (hb:Below W.heap.size W w)=>xAd (h2.below hb) hn2 (f:=0) (t:=t) (xJ _) (by rw[←hN];exact htN));rw[show((0:Nat):Int)=0 from rfl]at KP;have KC:=zC (fun w (hb:Below W.heap.size W w)=>xHd (h1.below hb) (h2.below hb));rw[hco]at KC;have hd:m.getD 0 0=(N:Int):=by
  rw[hN,h2.items.2.1];exact(xMc zBm).symm
 obtain⟨bb,off,rfl,hc⟩:=h2.v.s.2 hn2;have hc0:=hc 0 hn2;rw[hd,xB]at hc0;have HCK:=zC hc0;clear hc hc0 hd;have HR:=zC hrok;subst hxt;have hn1:IntKind.i64.wrap (-(t:Int))= -(t:Int):=xJ0 _ yEn;have hle:¬((N:Int)<(t:Int)):=by omega
 have hle2:¬((N:Int)< -(t:Int)):=by omega
 have hx0:¬((t:Int)<0):=by omega
 clear h1 h2 hco hrok hN htN;have h:=xP3 W a1 n1 c1 b1 m1 d1 (some ⟨bb,off,none⟩) n2 c2 b2 m2 d2;go_in;have x1:=h.out.2.2.1.c0;have y1:=h.out.2.2.1.c1;have x2:=h.out.2.1.c0;have y2:=h.out.2.1.c1;go_wp2_with fail
 with_reducible refine(yMf h (KC.out _ h.out.2.2.2)).mono ?_
 clear h x1 y1 x2 y2;rintro e w ⟨rfl,h⟩;have hck:=(h.out.2.2.2.cell (p:=⟨bb,off,none⟩) (yU W _ HCK.out)).trans HCK.out;have x2:=h.out.2.1.c0;have y2:=h.out.2.1.c1;have y0:=h.out.1.c0;have y3:=h.out.1.c1;have f0:=h.out.1.f 0;have f1:=h.out.1.f 1;go_wp2_with fail
 with_reducible refine(yWc h (KP.out _ h.out.2.2.2)).mono ?_
 clear h y0 y3 f0 f1 x2 y2;rintro e w ⟨ar,nr,cr,br,mr,dr,rfl,h,hv,hc⟩;have y0:=h.out.1.c0;have y3:=h.out.1.c1;have f0:=h.out.1.f 0;have f1:=h.out.1.f 1;go_wp2_with fail;have hR:=h.out.1.set ar nr cr br mr dr;have r0:=hR.c0;have r1:=hR.c1;exact zE (v:=.tuple #[.agg #[.slice ar nr cr,.slice br mr dr],.int .i64 0]) yCm rfl (xM3 (r:=_) h.out.1 h.out.2.2.2 yEn hv hc HR.out)
theorem xNd {a1 b1 a2 b2:Option Addr} {n1 c1 m1 d1 n2 c2 m2 d2:Nat} {l m:List Int} {es fs:List ByteArray} {W:World} {x:Int} {N t:Nat} {q r:Ar} (h1:Av W a1 n1 c1 b1 m1 d1 l es (some q)) (h2:Av W a2 n2 c2 b2 m2 d2 m fs (some r)) (hco:coM (some q) (some r)=(x,(N:Int),0)) (hn2:0<n2) (hN:N=mN m) (hNb:N≤1099511627776) (hxt:x= -(t:Int)) (ht0:0<t) (htb:t≤1099511627776) (hrok:Rok (some (cuM r 0 (N-t)))):
 Calls Tryz.prog 34 #[.agg #[.slice a1 n1 c1,.slice b1 m1 d1],.agg #[.slice a2 n2 c2,.slice b2 m2 d2]] W (xL3 (some (cuM r 0 (N-t)),0) W):=by
 have KP:=zC (fun w (hb:Below W.heap.size W w)=>xAd (h2.below hb) hn2 (f:=0) (t:=N-t) (xJ _) (by rw[←hN];omega));have KC:=zC (fun w (hb:Below W.heap.size W w)=>xHd (h1.below hb) (h2.below hb));rw[hco]at KC;have hd:m.getD 0 0=(N:Int):=by
  rw[hN,h2.items.2.1];exact(xMc zBm).symm
 obtain⟨bb,off,rfl,hc⟩:=h2.v.s.2 hn2;have hc0:=hc 0 hn2;rw[hd,xB]at hc0;have HCK:=zC hc0;clear hc hc0 hd;have HR:=zC hrok;obtain⟨z,hz⟩:∃z:Int,z=(N:Int)+x:=⟨_,rfl⟩
 have hn3:IntKind.i64.wrap ((N:Int)+x)=z:=by rw[←hz];exact xJ0 _ yEn
 have hx0:x<0:=by omega
 obtain⟨u,hu⟩:∃u,u=N-t:=⟨_,rfl⟩
 rw[←hu]at KP HR ⊢;have hmax:max z 0=(u:Int):=by omega
 rw[show((0:Nat):Int)=0 from rfl]at KP;clear h1 h2 hco hxt hu hrok hN ht0 hz;have h:=xP3 W a1 n1 c1 b1 m1 d1 (some ⟨bb,off,none⟩) n2 c2 b2 m2 d2;go_in;have x1:=h.out.2.2.1.c0;have y1:=h.out.2.2.1.c1;have x2:=h.out.2.1.c0;have y2:=h.out.2.1.c1;go_wp2_with fail
 with_reducible refine(yMf h (KC.out _ h.out.2.2.2)).mono ?_
 clear h x1 y1 x2 y2;rintro e w ⟨rfl,h⟩;have hck:=(h.out.2.2.2.cell (p:=⟨bb,off,none⟩) (yU W _ HCK.out)).trans HCK.out;have x2:=h.out.2.1.c0;have y2:=h.out.2.1.c1;have y0:=h.out.1.c0;have y3:=h.out.1.c1;have f0:=h.out.1.f 0;have f1:=h.out.1.f 1;go_wp2_with fail
 with_reducible refine(yWc h (KP.out _ h.out.2.2.2)).mono ?_
 clear h y0 y3 f0 f1 x2 y2;rintro e w ⟨ar,nr,cr,br,mr,dr,rfl,h,hv,hc⟩;have y0:=h.out.1.c0;have y3:=h.out.1.c1;have f0:=h.out.1.f 0;have f1:=h.out.1.f 1;go_wp2_with fail;have hR:=h.out.1.set ar nr cr br mr dr;have r0:=hR.c0;have r1:=hR.c1;exact zE (v:=.tuple #[.agg #[.slice ar nr cr,.slice br mr dr],.int .i64 0]) yDm rfl (xM3 (r:=_) h.out.1 h.out.2.2.2 yEn hv hc HR.out)
theorem xOd {a1 b1 a2 b2:Option Addr} {n1 c1 m1 d1 n2 c2 m2 d2:Nat} {l m:List Int} {es fs:List ByteArray} {W:World} {x:Int} {N t:Nat} {q r:Ar} (h1:Av W a1 n1 c1 b1 m1 d1 l es (some q)) (h2:Av W a2 n2 c2 b2 m2 d2 m fs (some r)) (hco:coM (some q) (some r)=(x,(N:Int),0)) (hn2:0<n2) (hN:N=mN m) (hNb:N≤1099511627776) (hxt:x=(t:Int)) (htb:t≤1099511627776) (hrok:Rok (some (cuM r (min t N) N))):
 Calls Tryz.prog 34 #[.agg #[.slice a1 n1 c1,.slice b1 m1 d1],.agg #[.slice a2 n2 c2,.slice b2 m2 d2]] W (xL3 (some (cuM r (min t N) N),0) W):=by
 have KP:=zC (fun w (hb:Below W.heap.size W w)=>xAd (h2.below hb) hn2 (f:=min t N) (t:=N) (xW1 _ _) zIn);have KC:=zC (fun w (hb:Below W.heap.size W w)=>xHd (h1.below hb) (h2.below hb));rw[hco]at KC;have hd:m.getD 0 0=(N:Int):=by
  rw[hN,h2.items.2.1];exact(xMc zBm).symm
 obtain⟨bb,off,rfl,hc⟩:=h2.v.s.2 hn2;have hc0:=hc 0 hn2;rw[hd,xB]at hc0;have HCK:=zC hc0;clear hc hc0 hd;have HR:=zC hrok;subst hxt;have hx0:¬((t:Int)<0):=by omega
 obtain⟨u,hu⟩:∃u,u=min t N:=⟨_,rfl⟩
 rw[←hu]at KP HR ⊢;have hmin:min (t:Int) (N:Int)=(u:Int):=by omega
 clear h1 h2 hco hu hrok hN;have h:=xP3 W a1 n1 c1 b1 m1 d1 (some ⟨bb,off,none⟩) n2 c2 b2 m2 d2;go_in;have x1:=h.out.2.2.1.c0;have y1:=h.out.2.2.1.c1;have x2:=h.out.2.1.c0;have y2:=h.out.2.1.c1;go_wp2_with fail
 with_reducible refine(yMf h (KC.out _ h.out.2.2.2)).mono ?_
 clear h x1 y1 x2 y2;rintro e w ⟨rfl,h⟩;have hck:=(h.out.2.2.2.cell (p:=⟨bb,off,none⟩) (yU W _ HCK.out)).trans HCK.out;have x2:=h.out.2.1.c0;have y2:=h.out.2.1.c1;have y0:=h.out.1.c0;have y3:=h.out.1.c1;have f0:=h.out.1.f 0;have f1:=h.out.1.f 1;go_wp2_with fail
 with_reducible refine(yWc h (KP.out _ h.out.2.2.2)).mono ?_
 clear h y0 y3 f0 f1 x2 y2;rintro e w ⟨ar,nr,cr,br,mr,dr,rfl,h,hv,hc⟩;have y0:=h.out.1.c0;have y3:=h.out.1.c1;have f0:=h.out.1.f 0;have f1:=h.out.1.f 1;go_wp2_with fail;have hR:=h.out.1.set ar nr cr br mr dr;have r0:=hR.c0;have r1:=hR.c1;exact zE (v:=.tuple #[.agg #[.slice ar nr cr,.slice br mr dr],.int .i64 0]) yDm rfl (xM3 (r:=_) h.out.1 h.out.2.2.2 yEn hv hc HR.out)
theorem xPd {a1 b1 a2 b2:Option Addr} {n1 c1 m1 d1 n2 c2 m2 d2:Nat} {l m:List Int} {es fs:List ByteArray} {W:World} {o p:Option Ar} (h1:Av W a1 n1 c1 b1 m1 d1 l es o) (h2:Av W a2 n2 c2 b2 m2 d2 m fs p):Calls Tryz.prog 33 #[.agg #[.slice a1 n1 c1,.slice b1 m1 d1],.agg #[.slice a2 n2 c2,.slice b2 m2 d2]] W (xL3 (tkM o p) W):=by
 rcases xHc (o:=o) (p:=p)with hc|⟨q,r,rfl,rfl,he,hr,hc⟩
 · have e:tkM o p=(none,(coM o p).2.2):=by
    cases o with
    |none=>rfl
    |some q=>
    cases p with
    |none=>rfl
    |some r=>
    have h:=hc.1;unfold coM at h ⊢;unfold tkM;dsimp only at h ⊢
    by_cases he:(inM q).2=0
    · rw[zY (fun h=>h he)]at h ⊢
      by_cases h0:r.1=[]
      · rw[yA h0,yA h0,zY (fun g=>g he)]
      · rw[zY h0]at h;exact absurd rfl h
    · rw[yA he,yA he]
   rw[e];exact xId h1 h2 hc
 · have hf:=h2.fits
   have hm:=h2.fst;have hb:=h2.i.2.2.2;have hnn:0<n2:=by
    rcases yL0 n2 with h0|h0
    · have:=h2.v.s.1
      rw[h0]at this;exact absurd (hm.trans (yO0.1 this)) hr
    · exact h0
   have hN1:=h2.items.2.1;have hNb:=h2.items.2.2.1;have hx:=xIc he;rw[hm,←hN1]at hc;have hnI:mN m=nI r.1:=by rw[←hm];exact xLc hr
   have hd:r.1.getD 0 0=(mN m:Int):=by rw[hN1,←hm];exact(xMc hr).symm
   by_cases hfar:0≤(inM q).1∧(mN m:Int)<(inM q).1∨(inM q).1<0∧(mN m:Int)< -(inM q).1
   · have e:tkM (some q) (some r)=(none,6):=by
      unfold tkM;dsimp only
      rw[zY (fun h=>h he),zY hr,yA zTn]
     rw[e];exact xKd h1 h2 hc hnn rfl hNb hx hfar
   · by_cases h0:(inM q).1<0
     · obtain⟨t,ht⟩:∃t:Nat,(inM q).1= -(t:Int):=⟨(-(inM q).1).toNat,by omega⟩
       have e:tkM (some q) (some r)=(some (cuM r (mN m-t) (mN m)),0):=by
        unfold tkM;dsimp only
        rw[zY (fun h=>h he),zY hr,zY zTn,yA h0,←hnI,show(-(inM q).1).toNat=t by omega]
       rw[e];exact xLd h1 h2 hc hnn rfl hNb ht yEn yEn (xKc hf hr yEn zCn hb)
     · obtain⟨t,ht⟩:∃t:Nat,(inM q).1=(t:Int):=⟨(inM q).1.toNat,by omega⟩
       have e:tkM (some q) (some r)=(some (cuM r 0 t),0):=by
        unfold tkM;dsimp only
        rw[zY (fun h=>h he),zY hr,zY zTn,zY h0,show(inM q).1.toNat=t by omega]
       rw[e];exact xMd h1 h2 hc hnn rfl hNb ht yEn (xKc hf hr (xJ _) zQn hb)
theorem xQd {a1 b1 a2 b2:Option Addr} {n1 c1 m1 d1 n2 c2 m2 d2:Nat} {l m:List Int} {es fs:List ByteArray} {W:World} {o p:Option Ar} (h1:Av W a1 n1 c1 b1 m1 d1 l es o) (h2:Av W a2 n2 c2 b2 m2 d2 m fs p):Calls Tryz.prog 34 #[.agg #[.slice a1 n1 c1,.slice b1 m1 d1],.agg #[.slice a2 n2 c2,.slice b2 m2 d2]] W (xL3 (drM o p) W):=by
 rcases xHc (o:=o) (p:=p)with hc|⟨q,r,rfl,rfl,he,hr,hc⟩
 · have e:drM o p=(none,(coM o p).2.2):=by
    cases o with
    |none=>rfl
    |some q=>
    cases p with
    |none=>rfl
    |some r=>
    have h:=hc.1;unfold coM at h ⊢;unfold drM;dsimp only at h ⊢
    by_cases he:(inM q).2=0
    · rw[zY (fun h=>h he)]at h ⊢
      by_cases h0:r.1=[]
      · rw[yA h0,yA h0,zY (fun g=>g he)]
      · rw[zY h0]at h;exact absurd rfl h
    · rw[yA he,yA he]
   rw[e];exact xJd h1 h2 hc
 · have hf:=h2.fits
   have hm:=h2.fst;have hb:=h2.i.2.2.2;have hnn:0<n2:=by
    rcases yL0 n2 with h0|h0
    · have:=h2.v.s.1
      rw[h0]at this;exact absurd (hm.trans (yO0.1 this)) hr
    · exact h0
   have hN1:=h2.items.2.1;have hNb:=h2.items.2.2.1;have hx:=xIc he;rw[hm,←hN1]at hc;have hnI:mN m=nI r.1:=by rw[←hm];exact xLc hr
   by_cases h0:(inM q).1<0
   · obtain⟨t,ht⟩:∃t:Nat,(inM q).1= -(t:Int):=⟨(-(inM q).1).toNat,by omega⟩
     have e:drM (some q) (some r)=(some (cuM r 0 (mN m-t)),0):=by
      unfold drM;dsimp only
      rw[zY (fun h=>h he),zY hr,yA h0,←hnI,show(-(inM q).1).toNat=t by omega]
     rw[e];exact xNd h1 h2 hc hnn rfl hNb ht yEn yEn (xKc hf hr (xJ _) zQn hb)
   · obtain⟨t,ht⟩:∃t:Nat,(inM q).1=(t:Int):=⟨(inM q).1.toNat,by omega⟩
     have e:drM (some q) (some r)=(some (cuM r (min t (mN m)) (mN m)),0):=by
      unfold drM;dsimp only
      rw[zY (fun h=>h he),zY hr,zY h0,←hnI,show(inM q).1.toNat=t by omega]
     rw[e];exact xOd h1 h2 hc hnn rfl hNb ht yEn (xKc hf hr (xW1 _ _) zCn hb)
end Go.Proofs.YtcfbjdplhgdpfaaGreatDoor

import Derived.Test.YtcfbjdplhgdpfaaGreatDoorTbm
set_option maxHeartbeats 3200000
set_option maxRecDepth 100000
namespace Go.Proofs.YtcfbjdplhgdpfaaGreatDoor
set_option linter.unusedVariables false
set_option linter.unusedSimpArgs false
theorem zSm {P:Prop}(h:P:=by simp[results,Tryz.results32,go_sem,r0,r1]):P:=h
open Go.RowKit
theorem zR8 {a1 b1 a2 b2:Option Addr} {n1 c1 m1 d1 n2 c2 m2 d2:Nat} {l m:List Int} {es fs:List ByteArray} {W:World} (h1:Av W a1 n1 c1 b1 m1 d1 l es none):
 Calls Tryz.prog 32 #[.agg #[.slice a1 n1 c1,.slice b1 m1 d1],.agg #[.slice a2 n2 c2,.slice b2 m2 d2]] W (xL3 (none,1) W):=by
 have KV:=zC (fun w (hb:Below W.heap.size W w)=>zM4 (h1.below hb));clear h1;have h:=xP3 W a1 n1 c1 b1 m1 d1 a2 n2 c2 b2 m2 d2;go_in;have x1:=h.out.2.2.1.c0;have y1:=h.out.2.2.1.c1;go_wp2_with fail
 with_reducible refine(yMf h (KV.out _ h.out.2.2.2)).mono ?_
 clear h x1 y1;rintro e w ⟨rfl,h⟩;have y0:=h.out.1.c0;have y3:=h.out.1.c1;have f0:=h.out.1.f 0;have f1:=h.out.1.f 1;go_wp2_with fail;have hR:=h.out.1.set none 0 0 none 0 0;have r0:=hR.c0;have r1:=hR.c1;exact zE (v:=.tuple #[.agg #[.slice none 0 0,.slice none 0 0],.int .i64 1]) zSm rfl (xN3 h.out.1 h.out.2.2.2 yEn)
theorem zS8 {a1 b1 a2 b2:Option Addr} {n1 c1 m1 d1 n2 c2 m2 d2:Nat} {l m:List Int} {es fs:List ByteArray} {W:World} {q:Ar} (h1:Av W a1 n1 c1 b1 m1 d1 l es (some q)) (h2:Av W a2 n2 c2 b2 m2 d2 m fs none):
 Calls Tryz.prog 32 #[.agg #[.slice a1 n1 c1,.slice b1 m1 d1],.agg #[.slice a2 n2 c2,.slice b2 m2 d2]] W (xL3 (none,1) W):=by
 have KV:=zC (fun w (hb:Below W.heap.size W w)=>zM4 (h1.below hb));have KU:=zC (fun w (hb:Below W.heap.size W w)=>zM4 (h2.below hb));clear h1 h2;have h:=xP3 W a1 n1 c1 b1 m1 d1 a2 n2 c2 b2 m2 d2;go_in;have x1:=h.out.2.2.1.c0;have y1:=h.out.2.2.1.c1;go_wp2_with fail
 with_reducible refine(yMf h (KV.out _ h.out.2.2.2)).mono ?_
 clear h x1 y1;rintro e w ⟨rfl,h⟩;have x2:=h.out.2.1.c0;have y2:=h.out.2.1.c1;go_wp2_with fail
 with_reducible refine(yMf h (KU.out _ h.out.2.2.2)).mono ?_
 clear h x2 y2;rintro e w ⟨rfl,h⟩;have y0:=h.out.1.c0;have y3:=h.out.1.c1;have f0:=h.out.1.f 0;have f1:=h.out.1.f 1;go_wp2_with fail;have hR:=h.out.1.set none 0 0 none 0 0;have r0:=hR.c0;have r1:=hR.c1;exact zE (v:=.tuple #[.agg #[.slice none 0 0,.slice none 0 0],.int .i64 1]) zSm rfl (xN3 h.out.1 h.out.2.2.2 yEn)
theorem zT8 {a1 b1 a2 b2:Option Addr} {n1 c1 m1 d1 n2 c2 m2 d2:Nat} {l m:List Int} {es fs:List ByteArray} {W:World} {q r:Ar} (h1:Av W a1 n1 c1 b1 m1 d1 l es (some q)) (h2:Av W a2 n2 c2 b2 m2 d2 m fs (some r)) (hn:1<n1):
 Calls Tryz.prog 32 #[.agg #[.slice a1 n1 c1,.slice b1 m1 d1],.agg #[.slice a2 n2 c2,.slice b2 m2 d2]] W (xL3 (none,3) W):=by
 have KV:=zC (fun w (hb:Below W.heap.size W w)=>zM4 (h1.below hb));have KU:=zC (fun w (hb:Below W.heap.size W w)=>zM4 (h2.below hb));have hn1:(1:Int)<(n1:Int):=by omega
 clear h1 h2 hn;have h:=xP3 W a1 n1 c1 b1 m1 d1 a2 n2 c2 b2 m2 d2;go_in;have x1:=h.out.2.2.1.c0;have y1:=h.out.2.2.1.c1;go_wp2_with fail
 with_reducible refine(yMf h (KV.out _ h.out.2.2.2)).mono ?_
 clear h x1 y1;rintro e w ⟨rfl,h⟩;have x2:=h.out.2.1.c0;have y2:=h.out.2.1.c1;go_wp2_with fail
 with_reducible refine(yMf h (KU.out _ h.out.2.2.2)).mono ?_
 clear h x2 y2;rintro e w ⟨rfl,h⟩;have x1:=h.out.2.2.1.c0;have y1:=h.out.2.2.1.c1;have y0:=h.out.1.c0;have y3:=h.out.1.c1;have f0:=h.out.1.f 0;have f1:=h.out.1.f 1;go_wp2_with fail;have hR:=h.out.1.set none 0 0 none 0 0;have r0:=hR.c0;have r1:=hR.c1;exact zE (v:=.tuple #[.agg #[.slice none 0 0,.slice none 0 0],.int .i64 3]) zSm rfl (xN3 h.out.1 h.out.2.2.2 yEn)
theorem zU8 {a1 b1 a2 b2:Option Addr} {n1 c1 m1 d1 n2 c2 m2 d2:Nat} {l m:List Int} {es fs:List ByteArray} {W:World} {q r:Ar} (h1:Av W a1 n1 c1 b1 m1 d1 l es (some q)) (h2:Av W a2 n2 c2 b2 m2 d2 m fs (some r)) (hn:n1≤1) (hal:q.2.all zWd=false):
 Calls Tryz.prog 32 #[.agg #[.slice a1 n1 c1,.slice b1 m1 d1],.agg #[.slice a2 n2 c2,.slice b2 m2 d2]] W (xL3 (none,5) W):=by
 have KV:=zC (fun w (hb:Below W.heap.size W w)=>zM4 (h1.below hb));have KU:=zC (fun w (hb:Below W.heap.size W w)=>zM4 (h2.below hb));have hn1:¬((1:Int)<(n1:Int)):=by omega
 have KA:=zC (fun w (hb:Below W.heap.size W w)=>yC4 (c:=c1) (d:=d1) (s:=l) w xVl h1.i.2.2.2 xMm);have hal2:=zC hal;clear h1 h2 hn hal;have h:=xP3 W a1 n1 c1 b1 m1 d1 a2 n2 c2 b2 m2 d2;go_in;have x1:=h.out.2.2.1.c0;have y1:=h.out.2.2.1.c1;go_wp2_with fail
 with_reducible refine(yMf h (KV.out _ h.out.2.2.2)).mono ?_
 clear h x1 y1;rintro e w ⟨rfl,h⟩;have x2:=h.out.2.1.c0;have y2:=h.out.2.1.c1;go_wp2_with fail
 with_reducible refine(yMf h (KU.out _ h.out.2.2.2)).mono ?_
 clear h x2 y2;rintro e w ⟨rfl,h⟩;have x1:=h.out.2.2.1.c0;have y1:=h.out.2.2.1.c1;go_wp2_with fail;refine(xV7 h (KA.out _ h.out.2.2.2)).mono ?_;clear h x1 y1;rintro e w ⟨aa,na,ca,z,rfl,hz,h⟩;have hz5:z=5:=by
  rcases hz with⟨g,_⟩|⟨_,g⟩
  · rw[hal2.out]at g;cases g
  · exact g
 subst hz5;clear hz;have y0:=h.out.1.c0;have y3:=h.out.1.c1;have f0:=h.out.1.f 0;have f1:=h.out.1.f 1;go_wp2_with fail;have hR:=h.out.1.set none 0 0 none 0 0;have r0:=hR.c0;have r1:=hR.c1;exact zE (v:=.tuple #[.agg #[.slice none 0 0,.slice none 0 0],.int .i64 5]) zSm rfl (xN3 h.out.1 h.out.2.2.2 yEn)
theorem zV8 {a1 b1 a2 b2:Option Addr} {n1 c1 m1 d1 n2 c2 m2 d2:Nat} {l m:List Int} {es fs:List ByteArray} {W:World} {q r:Ar} (h1:Av W a1 n1 c1 b1 m1 d1 l es (some q)) (h2:Av W a2 n2 c2 b2 m2 d2 m fs (some r)) (hn:n1≤1) (hal:q.2.all zWd=true) (hz:szE q.2≠0):
 Calls Tryz.prog 32 #[.agg #[.slice a1 n1 c1,.slice b1 m1 d1],.agg #[.slice a2 n2 c2,.slice b2 m2 d2]] W (xL3 (none,szE q.2) W):=by
 have KV:=zC (fun w (hb:Below W.heap.size W w)=>zM4 (h1.below hb));have KU:=zC (fun w (hb:Below W.heap.size W w)=>zM4 (h2.below hb));have hn1:¬((1:Int)<(n1:Int)):=by omega
 have KA:=zC (fun w (hb:Below W.heap.size W w)=>yC4 (c:=c1) (d:=d1) (s:=l) w xVl h1.i.2.2.2 xMm);have hal2:=zC hal;have KZ:=zC (fun w a n c (hs:Sl w a n q.2)=>xKe a n c q.2 w hs);unfold yJ9 at KZ;rw[yC9 hz]at KZ;generalize szE q.2=E at*;have hE:(E != 0)=true:=by simpa using hz
 clear h1 h2 hn hal hz;have h:=xP3 W a1 n1 c1 b1 m1 d1 a2 n2 c2 b2 m2 d2;go_in;have x1:=h.out.2.2.1.c0;have y1:=h.out.2.2.1.c1;go_wp2_with fail
 with_reducible refine(yMf h (KV.out _ h.out.2.2.2)).mono ?_
 clear h x1 y1;rintro e w ⟨rfl,h⟩;have x2:=h.out.2.1.c0;have y2:=h.out.2.1.c1;go_wp2_with fail
 with_reducible refine(yMf h (KU.out _ h.out.2.2.2)).mono ?_
 clear h x2 y2;rintro e w ⟨rfl,h⟩;have x1:=h.out.2.2.1.c0;have y1:=h.out.2.2.1.c1;go_wp2_with fail;refine(xV7 h (KA.out _ h.out.2.2.2)).mono ?_;clear h x1 y1;rintro e w ⟨aa,na,ca,z,rfl,hz,h⟩;obtain⟨hz5,hna,hsa,hca,hcm⟩:z=0∧na=q.2.length∧Sl w aa na q.2∧na≤ca∧ca≤maxLen:=by
  rcases hz with⟨_,g1,g2,g3,g4,g5⟩|⟨g,_⟩
  · exact⟨g1,g2,g3,g4,g5⟩
  · rw[hal2.out]at g;cases g
 subst hz5;have HS:=zC (And.intro hna (And.intro hsa (And.intro hca hcm)));clear hz hna hsa hca hcm;go_wp2_with fail;refine(KZ.out _ _ _ _ HS.out.2.1).mono ?_;rintro e w9 ⟨rfl,rfl⟩;have y0:=h.out.1.c0;have y3:=h.out.1.c1;have f0:=h.out.1.f 0;have f1:=h.out.1.f 1;go_wp2_with fail;have hR:=h.out.1.set none 0 0 none 0 0;have r0:=hR.c0;have r1:=hR.c1;exact zE (v:=.tuple #[.agg #[.slice none 0 0,.slice none 0 0],.int .i64 E]) zSm rfl (xN3 h.out.1 h.out.2.2.2 yEn)
theorem zW8 {a1 b1 a2 b2:Option Addr} {n1 c1 m1 d1 n2 c2 m2 d2:Nat} {l m:List Int} {es fs:List ByteArray} {W:World} {q r:Ar} (h1:Av W a1 n1 c1 b1 m1 d1 l es (some q)) (h2:Av W a2 n2 c2 b2 m2 d2 m fs (some r)) (hn:n1≤1) (hal:q.2.all zWd=true) (hz:szE q.2=0) (hpn:pr q.2≠0) (he:r.2=[]):
 Calls Tryz.prog 32 #[.agg #[.slice a1 n1 c1,.slice b1 m1 d1],.agg #[.slice a2 n2 c2,.slice b2 m2 d2]] W (xL3 (none,5) W):=by
 have KV:=zC (fun w (hb:Below W.heap.size W w)=>zM4 (h1.below hb));have KU:=zC (fun w (hb:Below W.heap.size W w)=>zM4 (h2.below hb));have hn1:¬((1:Int)<(n1:Int)):=by omega
 have KA:=zC (fun w (hb:Below W.heap.size W w)=>yC4 (c:=c1) (d:=d1) (s:=l) w xVl h1.i.2.2.2 xMm);have hal2:=zC hal;have KZ:=zC (fun w a n c (hs:Sl w a n q.2)=>xKe a n c q.2 w hs);unfold yJ9 at KZ;rw[yD9 hz,hz]at KZ;have hp0:=(xA9 hz).1;generalize pr q.2=p at*;have hp:(0:Int)<p:=by omega
 have hm:(m2:Int)=0:=by have:=h2.mlen.1;rw[he]at this;simp at this;omega
 clear h1 h2 hn hal hz hp0 hpn he;have h:=xP3 W a1 n1 c1 b1 m1 d1 a2 n2 c2 b2 m2 d2;go_in;have x1:=h.out.2.2.1.c0;have y1:=h.out.2.2.1.c1;go_wp2_with fail
 with_reducible refine(yMf h (KV.out _ h.out.2.2.2)).mono ?_
 clear h x1 y1;rintro e w ⟨rfl,h⟩;have x2:=h.out.2.1.c0;have y2:=h.out.2.1.c1;go_wp2_with fail
 with_reducible refine(yMf h (KU.out _ h.out.2.2.2)).mono ?_
 clear h x2 y2;rintro e w ⟨rfl,h⟩;have x1:=h.out.2.2.1.c0;have y1:=h.out.2.2.1.c1;go_wp2_with fail;refine(xV7 h (KA.out _ h.out.2.2.2)).mono ?_;clear h x1 y1;rintro e w ⟨aa,na,ca,z,rfl,hz,h⟩;obtain⟨hz5,hna,hsa,hca,hcm⟩:z=0∧na=q.2.length∧Sl w aa na q.2∧na≤ca∧ca≤maxLen:=by
  rcases hz with⟨_,g1,g2,g3,g4,g5⟩|⟨g,_⟩
  · exact⟨g1,g2,g3,g4,g5⟩
  · rw[hal2.out]at g;cases g
 subst hz5;have HS:=zC (And.intro hna (And.intro hsa (And.intro hca hcm)));clear hz hna hsa hca hcm;have x2:=h.out.2.1.c0;have y2:=h.out.2.1.c1;go_wp2_with fail;refine(KZ.out _ _ _ _ HS.out.2.1).mono ?_;rintro e w9 ⟨rfl,rfl⟩;have y0:=h.out.1.c0;have y3:=h.out.1.c1;have f0:=h.out.1.f 0;have f1:=h.out.1.f 1;go_wp2_with fail;have hR:=h.out.1.set none 0 0 none 0 0;have r0:=hR.c0;have r1:=hR.c1;exact zE (v:=.tuple #[.agg #[.slice none 0 0,.slice none 0 0],.int .i64 5]) zSm rfl (xN3 h.out.1 h.out.2.2.2 yEn)
theorem zX8 {i m:Nat} (hm:0<m):(i+1)%m=if i%m+1=m then 0 else i%m+1:=by
 have h1:=xH1 i m;have h2:=xD1 i hm;split
 · rename_i h
   rw[show i+1=m*(i/m+1)by rw[xI1,yS0];omega,Nat.mul_mod_right]
 · rename_i h
   rw[show i+1=m*(i/m)+(i%m+1)by omega,Nat.mul_add_mod,xB1 yEn]
theorem zY8 (es:List Int) (i:Nat):cyM es (i+1)=cyM es i++[es.getD (i%es.length) 0]:=by
 simp[cyM,zO]
theorem zZ8 {a1 b1 a2 b2:Option Addr} {n1 c1 m1 d1 n2 c2 m2 d2:Nat} {l m:List Int} {es fs:List ByteArray} {W:World} {q r:Ar} (h1:Av W a1 n1 c1 b1 m1 d1 l es (some q)) (h2:Av W a2 n2 c2 b2 m2 d2 m fs (some r)) (hn:n1≤1) (hal:q.2.all zWd=true) (hz:szE q.2=0) (h0:¬(pr q.2≠0∧r.2=[])):
 Calls Tryz.prog 32 #[.agg #[.slice a1 n1 c1,.slice b1 m1 d1],.agg #[.slice a2 n2 c2,.slice b2 m2 d2]] W (xL3 (some (q.2,cyM r.2 (pr q.2).toNat),0) W):=by
 have KV:=zC (fun w (hb:Below W.heap.size W w)=>zM4 (h1.below hb));have KU:=zC (fun w (hb:Below W.heap.size W w)=>zM4 (h2.below hb));have hn1:¬((1:Int)<(n1:Int)):=by omega
 have KA:=zC (fun w (hb:Below W.heap.size W w)=>yC4 (c:=c1) (d:=d1) (s:=l) w xVl h1.i.2.2.2 xMm);have hal2:=zC hal;have KZ:=zC (fun w a n c (hs:Sl w a n q.2)=>xKe a n c q.2 w hs);unfold yJ9 at KZ;rw[yD9 hz,hz]at KZ;have hp0:=xA9 hz;have HR:=zC (xU7 hz h2.i.rok h0);obtain⟨z,hzz⟩:∃z:Nat,z=(pr q.2).toNat:=⟨_,rfl⟩
 have hpz:pr q.2=(z:Int):=by omega
 have hz4:z≤4096:=by omega
 rw[hpz]at KZ;rw[←hzz]at HR ⊢;obtain⟨hm1,hmp,hm4⟩:=h2.mlen;clear hmp;have hmd:=h2.c.md;have hzm:z=0∨0<m2:=by
  rcases yL0 z with g|g
  · exact .inl g
  · refine .inr ?_
    rcases yL0 m2 with g2|g2
    · exact absurd ⟨by omega,yO0.1 (hm1.symm.trans g2)⟩ h0
    · exact g2
 have KT:=zC (fun w (hb:Below W.heap.size W w)=>(h2.v.t.below hb:St w b2 m2 fs));have HE:=zC (And.intro h2.i.2.1 hm1);clear h1 h2 hn hal hz h0 hp0 hpz hzz hm1;have h:=xP3 W a1 n1 c1 b1 m1 d1 a2 n2 c2 b2 m2 d2;go_in;have x1:=h.out.2.2.1.c0;have y1:=h.out.2.2.1.c1;go_wp2_with fail
 with_reducible refine(yMf h (KV.out _ h.out.2.2.2)).mono ?_
 clear h x1 y1;rintro e w ⟨rfl,h⟩;have x2:=h.out.2.1.c0;have y2:=h.out.2.1.c1;go_wp2_with fail
 with_reducible refine(yMf h (KU.out _ h.out.2.2.2)).mono ?_
 clear h x2 y2;rintro e w ⟨rfl,h⟩;have x1:=h.out.2.2.1.c0;have y1:=h.out.2.2.1.c1;go_wp2_with fail;refine(xV7 h (KA.out _ h.out.2.2.2)).mono ?_;clear h x1 y1;rintro e w ⟨aa,na,ca,zz,rfl,hz,h⟩;obtain⟨hz5,hna,hsa,hca,hcm⟩:zz=0∧na=q.2.length∧Sl w aa na q.2∧na≤ca∧ca≤maxLen:=by
  rcases hz with⟨_,g1,g2,g3,g4,g5⟩|⟨g,_⟩
  · exact⟨g1,g2,g3,g4,g5⟩
  · rw[hal2.out]at g;cases g
 subst hz5;have HS:=zC (And.intro hna (And.intro hsa (And.intro hca hcm)));clear hz hna hsa hca hcm;have x2:=h.out.2.1.c0;have y2:=h.out.2.1.c1;go_wp2_with fail;refine(KZ.out _ _ _ _ HS.out.2.1).mono ?_;rintro e w9 ⟨rfl,rfl⟩;have hzc:((0:Int)<(z:Int)∧((m2:Int)==0)=false)∨¬((0:Int)<(z:Int)):=by
  by_cases g:0<z
  · exact .inl ⟨by omega,zT0.2 yEn⟩
  · exact .inr yEn
 rcases hzc with⟨hz1,hz2⟩|hz1
 ·
  have lW:=h.out.2.1.lt;go_wp2_with fail;have hO:=Bx.new w aa na ca none 0 0;have hbO:Below w.heap.size w (w.alloc (.cells #[.slice aa na ca,.slice none 0 0] 25)):=(zI _ _).alloc (zR _) _;clear x2 y2;go_loopw [11,12] (fun kv iv wr=>∃(i:Nat) (bv:Option Addr) (dv:Nat),kv=.int .i64 ((i%m2:Nat):Int)∧iv=.int .i64 i∧i≤z∧Bx wr w.heap.size aa na ca bv i dv∧wr.ownsRow (w.heap.size+1) 9 1 (.slice bv i dv) i (zTf ((cyM r.2 i).map S))∧Below w.heap.size w wr) (fun _ iv _=>z-(intOf iv).toNat)
  case atStart=>exact⟨0,none,0,by rw[Nat.zero_mod];rfl,rfl,by omega,hO,zT _ _ _ _,hbO⟩
  case round=>
   obtain⟨i,bv,dv,rfl,rfl,hi,hO1,ho1,hb1⟩:=hrel;clear hO hbO;replace h:=xLg h hb1 (zR _);by_cases hlt:i<z
   · have hm0:0<m2:=by rcases hzm with g|g;exact absurd g yEn;exact g
     have e2:(i:Int)<(z:Int):=by omega
     obtain⟨k,hk⟩:∃k,k=i%m2:=⟨_,rfl⟩
     have hkm:k<m2:=by rw[hk];exact xD1 _ hm0
     have hnext:=zX8 (i:=i) hm0;rw[←hk]at hnext ⊢;have HN:=zC (show zTf ((cyM r.2 (i+1)).map S)=zTf ((cyM r.2 i).map S)++[.string (S (r.2.getD k 0))]by
      rw[zY8,←HE.out.2,←hk];exact zA3 _ _)
     obtain⟨bb,off,rfl,hc⟩:=(KT.out wr h.out.2.2.2).2 hm0;have hck:=hc k hkm;rw[HE.out.1,yE8 (by rw[←HE.out.2];exact hkm)]at hck;generalize S (r.2.getD k 0)=x at*;have x2:=h.out.2.1.c0;have y2:=h.out.2.1.c1;have u1:=hO1.c1;have lO:=hO1.lt;have lV:=h.out.2.1.lt;have HO:=zC hO1;have HR1:=zC ho1;have HB:=zC hb1;have HX:=zC h.out.2.1;have HNX:=zC hnext;clear hO1 ho1 hb1 hc hk hnext h hzm;go_wp2_with fail;go_region_law (refine xPg wr (w.heap.size+1) (.tmp 62) (.tmp 68) bv i dv _ x rfl rfl rfl rfl rfl rfl rfl rfl HR1.out yEn yEn ?_;intro av' cv' w9 hown9 hg9 _;have hO9:=Bx.grownV HR1.out yCn hg9 HO.out;have z1:=hO9.c1;have g2:=hO9.f 1)
     all_goals
      rw[←HN.out]at hown9;have hX9:=(Bx.grownV HR1.out yCn hg9 HX.out).setOther (p:=⟨w.heap.size,1,none⟩) (by show W.heap.size+1≠w.heap.size;omega) (.slice av' (i+1) cv');have x5:=hX9.c0;have y5:=hX9.c1;have hb10:=HB.out.trans ((xNg HR1.out hg9 yEn).mono yEn);have hO11:=zC (hO9.set1 av' (i+1) cv');have hr11:=zC (yRf hown9 (p:=⟨w.heap.size,1,none⟩) (zW _) (.slice av' (i+1) cv'));have hb11:=zC (hb10.setCell (p:=⟨w.heap.size,1,none⟩) (zR _) (.slice av' (i+1) cv'));clear hO9 hg9 hown9 hb10 u1 z1 g2 HO HR1 HB x2 y2 hck hX9;by_cases hkk:k+1=m2
      · have e6:(k:Int)+1=(m2:Int):=by omega
        go_wp2_with fail;go_roundw
        case rel=>exact⟨i+1,av',cv',by rw[HNX.out,yA hkk];rfl,by go_num,by omega,hO11.out,hr11.out,hb11.out⟩
        case measure=>simp[intOf];omega
      · have e6:¬((k:Int)+1=(m2:Int)):=by omega
        go_wp2_with fail;go_roundw
        case rel=>exact⟨i+1,av',cv',by rw[HNX.out,zY hkk];go_num,by go_num,by omega,hO11.out,hr11.out,hb11.out⟩
        case measure=>simp[intOf];omega
   · have e2:¬(i:Int)<(z:Int):=by omega
     obtain rfl:i=z:=by omega
     have hsa:=HS.out.2.1.below hb1;have HO:=zC (And.intro ho1 hsa);have x1:=hO1.c0;have x2:=hO1.c1;clear ho1 hO1 hb1 hsa;have y0:=h.out.1.c0;have y3:=h.out.1.c1;have f0:=h.out.1.f 0;have f1:=h.out.1.f 1;go_wp2_with fail;have hV:Vl wr aa na bv i (TS (some (q.2,cyM r.2 i))).1 (TS (some (q.2,cyM r.2 i))).2:=⟨HO.out.2,zZf HO.out.1,by omega⟩
     have hR:=h.out.1.set aa na ca bv i dv;have r0:=hR.c0;have r1:=hR.c1;exact zE (v:=.tuple #[.agg #[.slice aa na ca,.slice bv i dv],.int .i64 0]) zSm rfl (xM3 (r:=_) h.out.1 h.out.2.2.2 yEn hV ⟨HS.out.2.2.1,HS.out.2.2.2,(xE8 HO.out.1).1,(xE8 HO.out.1).2⟩ HR.out)
 ·
  have lW:=h.out.2.1.lt;go_wp2_with fail;have hO:=Bx.new w aa na ca none 0 0;have hbO:Below w.heap.size w (w.alloc (.cells #[.slice aa na ca,.slice none 0 0] 25)):=(zI _ _).alloc (zR _) _;clear x2 y2;go_loopw [11,12] (fun kv iv wr=>∃(i:Nat) (bv:Option Addr) (dv:Nat),kv=.int .i64 ((i%m2:Nat):Int)∧iv=.int .i64 i∧i≤z∧Bx wr w.heap.size aa na ca bv i dv∧wr.ownsRow (w.heap.size+1) 9 1 (.slice bv i dv) i (zTf ((cyM r.2 i).map S))∧Below w.heap.size w wr) (fun _ iv _=>z-(intOf iv).toNat)
  case atStart=>exact⟨0,none,0,by rw[Nat.zero_mod];rfl,rfl,by omega,hO,zT _ _ _ _,hbO⟩
  case round=>
   obtain⟨i,bv,dv,rfl,rfl,hi,hO1,ho1,hb1⟩:=hrel;clear hO hbO;replace h:=xLg h hb1 (zR _);by_cases hlt:i<z
   · exact absurd hlt yEn
   · have e2:¬(i:Int)<(z:Int):=by omega
     obtain rfl:i=z:=by omega
     have hsa:=HS.out.2.1.below hb1;have HO:=zC (And.intro ho1 hsa);have x1:=hO1.c0;have x2:=hO1.c1;clear ho1 hO1 hb1 hsa;have y0:=h.out.1.c0;have y3:=h.out.1.c1;have f0:=h.out.1.f 0;have f1:=h.out.1.f 1;go_wp2_with fail;have hV:Vl wr aa na bv i (TS (some (q.2,cyM r.2 i))).1 (TS (some (q.2,cyM r.2 i))).2:=⟨HO.out.2,zZf HO.out.1,by omega⟩
     have hR:=h.out.1.set aa na ca bv i dv;have r0:=hR.c0;have r1:=hR.c1;exact zE (v:=.tuple #[.agg #[.slice aa na ca,.slice bv i dv],.int .i64 0]) zSm rfl (xM3 (r:=_) h.out.1 h.out.2.2.2 yEn hV ⟨HS.out.2.2.1,HS.out.2.2.2,(xE8 HO.out.1).1,(xE8 HO.out.1).2⟩ HR.out)
theorem yA8 {a1 b1 a2 b2:Option Addr} {n1 c1 m1 d1 n2 c2 m2 d2:Nat} {l m:List Int} {es fs:List ByteArray} {W:World} {o p:Option Ar} (h1:Av W a1 n1 c1 b1 m1 d1 l es o) (h2:Av W a2 n2 c2 b2 m2 d2 m fs p):Calls Tryz.prog 32 #[.agg #[.slice a1 n1 c1,.slice b1 m1 d1],.agg #[.slice a2 n2 c2,.slice b2 m2 d2]] W (xL3 (rsM o p) W):=by
 cases o with
 |none=>exact zR8 (m:=m) (fs:=fs) h1
 |some q=>
 cases p with
 |none=>exact zS8 h1 h2
 |some r=>
 have hl:q.1.length=n1:=by rw[h1.fst];exact h1.v.s.1
 by_cases hn:1<n1
 · have e:rsM (some q) (some r)=(none,3):=by unfold rsM;dsimp only;rw[yA yEn]
   rw[e];exact zT8 h1 h2 hn
 · have hn':¬(1<q.1.length):=by omega
   cases hal:q.2.all zWd
   · have e:rsM (some q) (some r)=(none,5):=by unfold rsM;dsimp only;rw[zY hn',yA hal]
     rw[e];exact zU8 h1 h2 yEn hal
   · by_cases hz:szE q.2=0
     · by_cases h0:pr q.2≠0∧r.2=[]
       · have e:rsM (some q) (some r)=(none,5):=by unfold rsM;dsimp only;rw[zY hn',zY zSn,zY (fun h=>h hz),yA h0]
         rw[e];exact zW8 h1 h2 yEn hal hz h0.1 h0.2
       · have e:rsM (some q) (some r)=(some (q.2,cyM r.2 (pr q.2).toNat),0):=by unfold rsM;dsimp only;rw[zY hn',zY zSn,zY (fun h=>h hz),zY h0]
         rw[e];exact zZ8 h1 h2 yEn hal hz h0
     · have e:rsM (some q) (some r)=(none,szE q.2):=by unfold rsM;dsimp only;rw[zY hn',zY zSn,yA hz]
       rw[e];exact zV8 h1 h2 yEn hal hz
end Go.Proofs.YtcfbjdplhgdpfaaGreatDoor

import Derived.Test.YtcfbjdplhgdpfaaGreatDoorTbt
set_option maxHeartbeats 6400000
set_option maxRecDepth 100000
namespace Go.Proofs.YtcfbjdplhgdpfaaGreatDoor
set_option linter.unusedVariables false
set_option linter.unusedSimpArgs false
theorem yRm {P:Prop}(h:P:=by simp[results,Tryz.results39,go_sem,b0,b1]):P:=h
open Go.RowKit
def zLk (l:List Int) (es:List ByteArray) (ec:Int) (W:World) (e:Ending) (W':World):Prop:=
 ∃a n c b m d,e=.returned (.tuple #[.agg #[.slice a n c,.slice b m d],.int .i64 ec])∧Vl W' a n b m l es∧n≤20∧Below W.heap.size W W'
theorem zMk {w5 w0:World} {g:Nat} (h:Bx w5 g none 0 0 none 0 0) (hb:Below w0.heap.size w0 w5) (hg:w0.heap.size≤g) (ec:Int):
 Bx ((w5.setCell ⟨g,0,none⟩ (.slice none 0 0)).setCell ⟨g,1,none⟩ (.slice none 0 0)) g none 0 0 none 0 0
 ∧zLk [] [] ec w0 (.returned (.tuple #[.agg #[.slice none 0 0,.slice none 0 0],.int .i64 ec])) ((w5.setCell ⟨g,0,none⟩ (.slice none 0 0)).setCell ⟨g,1,none⟩ (.slice none 0 0)):=
 ⟨h.set none 0 0 none 0 0,none,0,0,none,0,0,rfl,Vl.none_ _,by omega,yJ4 hb hg _ _⟩
structure RvB (g:Nat) (a1:Option Addr) (n1 c1:Nat) (b1:Option Addr) (m1 d1:Nat) (a2:Option Addr) (n2 c2:Nat) (b2:Option Addr) (m2 d2:Nat) (W:World):Prop where
 v:Bx W g a1 n1 c1 b1 m1 d1
 u:Bx W (g+1) a2 n2 c2 b2 m2 d2
 r:Bx W (g+2) none 0 0 none 0 0
section
variable {g:Nat} {a1 b1 a2 b2:Option Addr} {n1 c1 m1 d1 n2 c2 m2 d2:Nat} {W W':World}
theorem RvB.below (h:RvB g a1 n1 c1 b1 m1 d1 a2 n2 c2 b2 m2 d2 W) {B:Nat} (hb:Below B W W') (hg:g+2<B):RvB g a1 n1 c1 b1 m1 d1 a2 n2 c2 b2 m2 d2 W':=⟨h.v.below hb yEn,h.u.below hb yEn,h.r.below hb hg⟩
theorem RvB.on (h:RvB g a1 n1 c1 b1 m1 d1 a2 n2 c2 b2 m2 d2 W) (hb:Below W.heap.size W W'):RvB g a1 n1 c1 b1 m1 d1 a2 n2 c2 b2 m2 d2 W':=h.below hb h.r.lt
theorem RvB.setOther (h:RvB g a1 n1 c1 b1 m1 d1 a2 n2 c2 b2 m2 d2 W) {p:Addr} (hp:g+2<p.block) (u:Value):RvB g a1 n1 c1 b1 m1 d1 a2 n2 c2 b2 m2 d2 (W.setCell p u):=⟨h.v.setOther yEn u,h.u.setOther yEn u,h.r.setOther yEn u⟩
theorem zNk (W:World) (a1:Option Addr) (n1 c1:Nat) (b1:Option Addr) (m1 d1:Nat) (a2:Option Addr) (n2 c2:Nat) (b2:Option Addr) (m2 d2:Nat):
 RvB W.heap.size a1 n1 c1 b1 m1 d1 a2 n2 c2 b2 m2 d2 (((W.alloc (.cells #[.slice a1 n1 c1,.slice b1 m1 d1] 25)).alloc (.cells #[.slice a2 n2 c2,.slice b2 m2 d2] 25)).alloc (.cells #[.slice none 0 0,.slice none 0 0] 25))
 ∧Below W.heap.size W (((W.alloc (.cells #[.slice a1 n1 c1,.slice b1 m1 d1] 25)).alloc (.cells #[.slice a2 n2 c2,.slice b2 m2 d2] 25)).alloc (.cells #[.slice none 0 0,.slice none 0 0] 25)):=by
 obtain⟨h1,h2,h3,hb⟩:=yY8 W (.cells #[.slice a1 n1 c1,.slice b1 m1 d1] 25) (.cells #[.slice a2 n2 c2,.slice b2 m2 d2] 25) (.cells #[.slice none 0 0,.slice none 0 0] 25);exact⟨⟨h1,h2,h3⟩,hb⟩
end
theorem zOk {op:ByteArray} {a1 b1 a2 b2:Option Addr} {n1 c1 m1 d1 n2 c2 m2 d2:Nat} {l m:List Int} {es fs:List ByteArray} (W:World) (hV:Vl W a1 n1 b1 m1 l es) (hz1:∀j,j<m1→(es.getD j ByteArray.empty).size≤maxLen) (hm1:yL4 l es=false):
 Calls Tryz.prog 39 #[.string op,.agg #[.slice a1 n1 c1,.slice b1 m1 d1],.agg #[.slice a2 n2 c2,.slice b2 m2 d2]] W (zLk [] [] 1 W):=by
 have KV:=fun w (hb:Below W.heap.size W w)=>zKk (c:=c1) (d:=d1) w (hV.below hb) hz1;rw[hm1]at KV;replace KV:=zC KV;obtain⟨hB0,hb0⟩:=zNk W a1 n1 c1 b1 m1 d1 a2 n2 c2 b2 m2 d2;clear hV hz1 hm1;go_in;go_wp2_with fail;refine(KV.out _ hb0).mono ?_;rintro e w1 ⟨rfl,hq⟩;have hB1:=hB0.on hq;have hb1:=hb0.trans (hq.mono hb0.size);clear hB0 hb0 hq;have r0:=hB1.r.c0;have r1:=hB1.r.c1;have f0:=hB1.r.f 0;have f1:=hB1.r.f 1;have HB:=zC hB1;have Hb:=zC hb1;clear hB1 hb1;go_wp2_with fail;obtain⟨h1,h3⟩:=zMk HB.out.r Hb.out yEn 1;have b0:=h1.c0;have b1:=h1.c1;exact zE (v:=.tuple #[.agg #[.slice none 0 0,.slice none 0 0],.int .i64 1]) yRm rfl h3
theorem zPk {op:ByteArray} {a1 b1 a2 b2:Option Addr} {n1 c1 m1 d1 n2 c2 m2 d2:Nat} {l m:List Int} {es fs:List ByteArray} (W:World) (hV:Vl W a1 n1 b1 m1 l es) (hz1:∀j,j<m1→(es.getD j ByteArray.empty).size≤maxLen) (hm1:yL4 l es=true) (hU:Vl W a2 n2 b2 m2 m fs) (hz2:∀j,j<m2→(fs.getD j ByteArray.empty).size≤maxLen) (hm2:yL4 m fs=false):
 Calls Tryz.prog 39 #[.string op,.agg #[.slice a1 n1 c1,.slice b1 m1 d1],.agg #[.slice a2 n2 c2,.slice b2 m2 d2]] W (zLk [] [] 1 W):=by
 have KV:=fun w (hb:Below W.heap.size W w)=>zKk (c:=c1) (d:=d1) w (hV.below hb) hz1;rw[hm1]at KV;replace KV:=zC KV;have KU:=fun w (hb:Below W.heap.size W w)=>zKk (c:=c2) (d:=d2) w (hU.below hb) hz2;rw[hm2]at KU;replace KU:=zC KU;obtain⟨hB0,hb0⟩:=zNk W a1 n1 c1 b1 m1 d1 a2 n2 c2 b2 m2 d2;clear hV hz1 hm1 hU hz2 hm2;go_in;go_wp2_with fail;refine(KV.out _ hb0).mono ?_;rintro e w1 ⟨rfl,hq⟩;have hB1:=hB0.on hq;have hb1:=hb0.trans (hq.mono hb0.size);clear hB0 hb0 hq;have v0:=hB1.u.c0;have v1:=hB1.u.c1;go_wp2_with fail;refine(KU.out _ hb1).mono ?_;rintro e w2 ⟨rfl,hq⟩;have hB2:=hB1.on hq;have hb2:=hb1.trans (hq.mono hb1.size);clear hB1 hb1 hq v0 v1;have r0:=hB2.r.c0;have r1:=hB2.r.c1;have f0:=hB2.r.f 0;have f1:=hB2.r.f 1;have HB:=zC hB2;have Hb:=zC hb2;clear hB2 hb2;go_wp2_with fail;obtain⟨h1,h3⟩:=zMk HB.out.r Hb.out yEn 1;have b0:=h1.c0;have b1:=h1.c1;exact zE (v:=.tuple #[.agg #[.slice none 0 0,.slice none 0 0],.int .i64 1]) yRm rfl h3
theorem zQk {op:ByteArray} {a1 b1 a2 b2:Option Addr} {n1 c1 m1 d1 n2 c2 m2 d2:Nat} {l m:List Int} {es fs:List ByteArray} (W:World) (hV:Vl W a1 n1 b1 m1 l es) (hz1:∀j,j<m1→(es.getD j ByteArray.empty).size≤maxLen) (hm1:yL4 l es=true) (hU:Vl W a2 n2 b2 m2 m fs) (hz2:∀j,j<m2→(fs.getD j ByteArray.empty).size≤maxLen) (hm2:yL4 m fs=true) (hk:¬kdL op.data.toList<11):
 Calls Tryz.prog 39 #[.string op,.agg #[.slice a1 n1 c1,.slice b1 m1 d1],.agg #[.slice a2 n2 c2,.slice b2 m2 d2]] W (zLk [] [] 1 W):=by
 have KV:=fun w (hb:Below W.heap.size W w)=>zKk (c:=c1) (d:=d1) w (hV.below hb) hz1;rw[hm1]at KV;replace KV:=zC KV;have KU:=fun w (hb:Below W.heap.size W w)=>zKk (c:=c2) (d:=d2) w (hU.below hb) hz2;rw[hm2]at KU;replace KU:=zC KU;have KO:=fun w=>xM5 op w;rw[yG0 hk]at KO;replace KO:=zC KO;obtain⟨hB0,hb0⟩:=zNk W a1 n1 c1 b1 m1 d1 a2 n2 c2 b2 m2 d2;clear hV hz1 hm1 hU hz2 hm2 hk;go_in;go_wp2_with fail;refine(KV.out _ hb0).mono ?_;rintro e w1 ⟨rfl,hq⟩;have hB1:=hB0.on hq;have hb1:=hb0.trans (hq.mono hb0.size);clear hB0 hb0 hq;have v0:=hB1.u.c0;have v1:=hB1.u.c1;go_wp2_with fail;refine(KU.out _ hb1).mono ?_;rintro e w2 ⟨rfl,hq⟩;have hB2:=hB1.on hq;have hb2:=hb1.trans (hq.mono hb1.size);clear hB1 hb1 hq v0 v1;go_wp2_with fail;refine(KO.out _).mono ?_;rintro e w3 ⟨rfl,rfl⟩;have r0:=hB2.r.c0;have r1:=hB2.r.c1;have f0:=hB2.r.f 0;have f1:=hB2.r.f 1;have HB:=zC hB2;have Hb:=zC hb2;clear hB2 hb2;go_wp2_with fail;obtain⟨h1,h3⟩:=zMk HB.out.r Hb.out yEn 1;have b0:=h1.c0;have b1:=h1.c1;exact zE (v:=.tuple #[.agg #[.slice none 0 0,.slice none 0 0],.int .i64 1]) yRm rfl h3
theorem zRk {op:ByteArray} {a1 b1 a2 b2:Option Addr} {n1 c1 m1 d1 n2 c2 m2 d2:Nat} {l m:List Int} {es fs:List ByteArray} (W:World) (hV:Vl W a1 n1 b1 m1 l es) (hz1:∀j,j<m1→(es.getD j ByteArray.empty).size≤maxLen) (hm1:yL4 l es=true) (hU:Vl W a2 n2 b2 m2 m fs) (hz2:∀j,j<m2→(fs.getD j ByteArray.empty).size≤maxLen) (hm2:yL4 m fs=true) (hk:kdL op.data.toList<11) (hm:meE l m=4):
 Calls Tryz.prog 39 #[.string op,.agg #[.slice a1 n1 c1,.slice b1 m1 d1],.agg #[.slice a2 n2 c2,.slice b2 m2 d2]] W (zLk [] [] 4 W):=by
 have KV:=fun w (hb:Below W.heap.size W w)=>zKk (c:=c1) (d:=d1) w (hV.below hb) hz1;rw[hm1]at KV;replace KV:=zC KV;have KU:=fun w (hb:Below W.heap.size W w)=>zKk (c:=c2) (d:=d2) w (hU.below hb) hz2;rw[hm2]at KU;replace KU:=zC KU;have KO:=fun w=>xM5 op w;rw[yI0 hk]at KO;replace KO:=zC KO;have hn1:n1≤20:=by have:=(yE9.1 (yN4.1 hm1).e).len;rw[hV.s.1]at this;omega
 have hn2:n2≤20:=by have:=(yE9.1 (yN4.1 hm2).e).len;rw[hU.s.1]at this;omega
 have KM0:=fun w (hb:Below W.heap.size W w)=>xZh a1 a2 n1 c1 n2 c2 l m w (hV.s.below hb) (hU.s.below hb) hn1 hn2;rw[zBi,zCi,hm]at KM0;replace KM0:=zC KM0;obtain⟨hB0,hb0⟩:=zNk W a1 n1 c1 b1 m1 d1 a2 n2 c2 b2 m2 d2;clear hV hz1 hm1 hU hz2 hm2 hk hn1 hn2 hm;go_in;go_wp2_with fail;refine(KV.out _ hb0).mono ?_;rintro e w1 ⟨rfl,hq⟩;have hB1:=hB0.on hq;have hb1:=hb0.trans (hq.mono hb0.size);clear hB0 hb0 hq;have v0:=hB1.u.c0;have v1:=hB1.u.c1;go_wp2_with fail;refine(KU.out _ hb1).mono ?_;rintro e w2 ⟨rfl,hq⟩;have hB2:=hB1.on hq;have hb2:=hb1.trans (hq.mono hb1.size);clear hB1 hb1 hq v0 v1;go_wp2_with fail;refine(KO.out _).mono ?_;rintro e w3 ⟨rfl,rfl⟩;have v0:=hB2.v.c0;have v1:=hB2.u.c0;have KM:=zC (KM0.out w2 hb2);go_wp2_with fail;refine KM.out.mono ?_;rintro e w4 ⟨a3,n3,c3,rfl,hsl,hn3,hq⟩;have hB4:=hB2.on hq;have hb4:=hb2.trans (hq.mono hb2.size);clear hB2 hb2 hq v0 v1 KM;have r0:=hB4.r.c0;have r1:=hB4.r.c1;have f0:=hB4.r.f 0;have f1:=hB4.r.f 1;have HB:=zC hB4;have Hb:=zC hb4;clear hB4 hb4;go_wp2_with fail;obtain⟨h1,h3⟩:=zMk HB.out.r Hb.out yEn 4;have b0:=h1.c0;have b1:=h1.c1;exact zE (v:=.tuple #[.agg #[.slice none 0 0,.slice none 0 0],.int .i64 4]) yRm rfl h3
def zSk (k:Nat) (ps:List (Int×Int)) (l:List Int) (W:World) (e:Ending) (W':World):Prop:=
 (∃zs,spL k ps=(some zs,0)∧zLk l (zs.map S) 0 W e W')∨∃ec,spL k ps=(none,ec)∧zLk [] [] ec W e W'
theorem zTk {op:ByteArray} {a1 b1 a2 b2:Option Addr} {n1 c1 m1 d1 n2 c2 m2 d2:Nat} {l m:List Int} {es fs:List ByteArray} {xs ys:List Int} (W:World) (hV:Vl W a1 n1 b1 m1 l es) (hz1:∀j,j<m1→(es.getD j ByteArray.empty).size≤maxLen) (hU:Vl W a2 n2 b2 m2 m fs) (hz2:∀j,j<m2→(fs.getD j ByteArray.empty).size≤maxLen) (hk:kdL op.data.toList<11) (A1:AIs l es (some (l,xs))) (A2:AIs m fs (some (m,ys))) (hm:meE l m=0):
 Calls Tryz.prog 39 #[.string op,.agg #[.slice a1 n1 c1,.slice b1 m1 d1],.agg #[.slice a2 n2 c2,.slice b2 m2 d2]] W (zSk (kdL op.data.toList) (prs (nx l) (nx m) xs ys (prD (meV l m)).toNat) (meV l m) W):=by
 have hm1:=A1.may;have hm2:=A2.may;obtain⟨_,e1,s1,p1,q1⟩:=A1.len;obtain⟨_,e2,s2,p2,q2⟩:=A2.len;simp only at e1 p1 q1 e2 p2 q2;have hme:szE (meV l m)=0:=by
  unfold meV;split
  · exact s1
  · split
    · exact s2
    · exact(by decide:szE []=0)
 obtain⟨N,hN⟩:∃N:Nat,pr (meV l m)=N:=⟨(pr (meV l m)).toNat,by have:=(xA9 hme).1;omega⟩
 have hN4:N≤4096:=by have:=(yE9.1 hme).pr;omega
 rw[yNf,hN,yB];have KV:=fun w (hb:Below W.heap.size W w)=>zKk (c:=c1) (d:=d1) w (hV.below hb) hz1;rw[hm1]at KV;replace KV:=zC KV;have KU:=fun w (hb:Below W.heap.size W w)=>zKk (c:=c2) (d:=d2) w (hU.below hb) hz2;rw[hm2]at KU;replace KU:=zC KU;have KO:=fun w=>xM5 op w;rw[yI0 hk]at KO;replace KO:=zC KO;have hn1:n1≤20:=by have:=(yE9.1 (yN4.1 hm1).e).len;rw[hV.s.1]at this;omega
 have hn2:n2≤20:=by have:=(yE9.1 (yN4.1 hm2).e).len;rw[hU.s.1]at this;omega
 have KM0:=fun w (hb:Below W.heap.size W w)=>xZh a1 a2 n1 c1 n2 c2 l m w (hV.s.below hb) (hU.s.below hb) hn1 hn2;rw[zBi,zCi,hm]at KM0;replace KM0:=zC KM0;have KZ:=fun w a n c (h:Sl w a n (meV l m))=>xKe a n c (meV l m) w h;unfold yJ9 at KZ;rw[yD9 hme,hme,hN]at KZ;replace KZ:=zC KZ;have hln1:∀i,i<N→(if nx l then 0 else i)<xs.length:=fun i hi=>zXl hm hN p1 hi;have hln2:∀i,i<N→(if nx m then 0 else i)<ys.length:=fun i hi=>by
  refine zXl (l:=m) (m:=l) (by rw[←zPd];exact hm) (by rw[←zQd hm];exact hN) p2 hi
 have hx1:∀i,i<N→(if nx l then 0 else i)<m1:=fun i hi=>by rw[←hV.t.1,e1];exact hln1 i hi
 have hx2:∀i,i<N→(if nx m then 0 else i)<m2:=fun i hi=>by rw[←hU.t.1,e2];exact hln2 i hi
 have KE1:=zC (fun i (hi:i<N) w (hb:Below W.heap.size W w)=>xI5 (c:=c1) (d:=d1) w (hV.below hb) i (hx1 i hi));have KE2:=zC (fun i (hi:i<N) w (hb:Below W.heap.size W w)=>xI5 (c:=c2) (d:=d2) w (hU.below hb) i (hx2 i hi));have KP:=zC (fun i (hi:i<N)=>(⟨⟨by rw[A1.2.1];exact yE8 (hln1 i hi),yF8 q1 _⟩,⟨by rw[A2.2.1];exact yE8 (hln2 i hi),yF8 q2 _⟩⟩:Is (es.getD (if nx l then 0 else i) ByteArray.empty) (some (xs.getD (if nx l then 0 else i) 0))∧Is (fs.getD (if nx m then 0 else i) ByteArray.empty) (some (ys.getD (if nx m then 0 else i) 0))));obtain⟨hB0,hb0⟩:=zNk W a1 n1 c1 b1 m1 d1 a2 n2 c2 b2 m2 d2;clear hV hz1 hm1 hU hz2 hm2 hk hn1 hn2 hm A1 A2 hln1 hln2 hx1 hx2 q1 q2 e1 e2 p1 p2 s1 s2;go_in;go_wp2_with fail;refine(KV.out _ hb0).mono ?_;rintro e w1 ⟨rfl,hq⟩;have hB1:=hB0.on hq;have hb1:=hb0.trans (hq.mono hb0.size);clear hB0 hb0 hq;have v0:=hB1.u.c0;have v1:=hB1.u.c1;go_wp2_with fail;refine(KU.out _ hb1).mono ?_;rintro e w2 ⟨rfl,hq⟩;have hB2:=hB1.on hq;have hb2:=hb1.trans (hq.mono hb1.size);clear hB1 hb1 hq v0 v1;go_wp2_with fail;refine(KO.out _).mono ?_;rintro e w3 ⟨rfl,rfl⟩;have v0:=hB2.v.c0;have v1:=hB2.u.c0;have KM:=zC (KM0.out w2 hb2);go_wp2_with fail;refine KM.out.mono ?_;rintro e w4 ⟨a3,n3,c3,rfl,hsl,hn3,hq⟩;have hB4:=hB2.on hq;have hb4:=hb2.trans (hq.mono hb2.size);clear hB2 hb2 hq v0 v1 KM;go_wp2_with fail;refine(KZ.out _ _ _ _ hsl).mono ?_;rintro e w5 ⟨rfl,rfl⟩;have hbl:=(zI w4.heap.size w4).alloc (zR _) (.cells #[.slice a3 n3 c3,.slice none 0 0] 25);have hO:=Bx.new w4 a3 n3 c3 none 0 0;have hB5:=hB4.on hbl;have hs5:=hbl;have HSL:=zC hsl;have hb5:=hb4.alloc hb4.size (.cells #[.slice a3 n3 c3,.slice none 0 0] 25);have hlt4:W.heap.size+2<w4.heap.size:=hB4.r.lt;clear hB4 hb4 hsl hbl KV KU KO KM0 KZ;go_wp2_with fail;go_loopw [13] (fun iv wr=>∃(i:Nat) (av:Option Addr) (cv:Nat) (zs:List Int),iv=.int .i64 i∧i≤N∧RvB W.heap.size a1 n1 c1 b1 m1 d1 a2 n2 c2 b2 m2 d2 wr∧Bx wr w4.heap.size a3 n3 c3 av i cv∧wr.ownsRow (w4.heap.size+1) 9 1 (.slice av i cv) i (zTf (zs.map S))∧SpI (kdL op.data.toList) (prs (nx l) (nx m) xs ys N) i zs∧Below w4.heap.size w4 wr∧Below W.heap.size W wr) (fun iv _=>N-(intOf iv).toNat)
 case atStart=>exact⟨0,none,0,[],rfl,by omega,hB5,hO,zT _ _ _ _,SpI.start _ _,hs5,hb5⟩
 case round=>
  obtain⟨i,av,cv,zs,rfl,hi,hB6,hO6,hr6,hsp,hs6,hb6⟩:=hrel;clear hB5 hO hs5 hb5;by_cases hlt:i<N
  · have e2:(i:Int)<(N:Int):=by omega
    have hps:=yD8 (u:=nx l) (v:=nx m) (xs:=xs) (ys:=ys) hlt;have hle:i<(prs (nx l) (nx m) xs ys N).length:=by rw[zKd];exact hlt
    have hst:=fun z h=>SpI.step (z:=z) hsp hle h;have hno:=fun e h=>SpI.stop (e:=e) hsp hle h;rw[hps]at hst hno;simp only at hst hno;obtain⟨x1,x2⟩:=KP.out i hlt;have hd:=xA5 (op:=op) x1 x2;have K1:=KE1.out i hlt;have K2:=KE2.out i hlt;simp only[dyO]at hd;generalize es.getD (if nx l then 0 else i) ByteArray.empty=s1 at*;generalize fs.getD (if nx m then 0 else i) ByteArray.empty=s2 at*;generalize xs.getD (if nx l then 0 else i) 0=x at*;generalize ys.getD (if nx m then 0 else i) 0=y at*;obtain⟨o,ec,hdy⟩:∃o ec,dyI (kdL op.data.toList) x y=(o,ec):=⟨_,_,rfl⟩
    rw[hdy]at hd hst hno;have Q1:Hid (∀z,Below wr.heap.size wr z→Calls Tryz.prog 89 #[.agg #[.slice a1 n1 c1,.slice b1 m1 d1],.int .i64 i] z fun e w'=>e=.returned (.string s1)∧Below wr.heap.size wr w'):=zC fun z hz=>(K1 z (hb6.trans (hz.mono hb6.size))).mono fun e w' h=>⟨h.1,hz.trans (h.2.mono hz.size)⟩
    have Q2:Hid (∀z,Below wr.heap.size wr z→Calls Tryz.prog 89 #[.agg #[.slice a2 n2 c2,.slice b2 m2 d2],.int .i64 i] z fun e w'=>e=.returned (.string s2)∧Below wr.heap.size wr w'):=zC fun z hz=>(K2 z (hb6.trans (hz.mono hb6.size))).mono fun e w' h=>⟨h.1,hz.trans (h.2.mono hz.size)⟩
    have Q3:Hid (∀z,Below wr.heap.size wr z→Calls Tryz.prog 88 #[.string op,.string s1,.string s2] z fun e w'=>e=.returned (.tuple #[.string (T o),.int .i64 ec])∧Below wr.heap.size wr w'):=zC fun z hz=>(hd z).mono fun e w' h=>⟨h.1,hz.trans (h.2.mono hz.size)⟩
    have v0:=hB6.v.c0;have v1:=hB6.v.c1;have u0:=hB6.u.c0;have u1:=hB6.u.c1;have l0:W.heap.size<wr.heap.size:=hB6.v.lt;have l1:W.heap.size+1<wr.heap.size:=hB6.u.lt;have HB6:=zC hB6;have HO6:=zC hO6;have HR6:=zC hr6;have HS6:=zC hs6;have hq:Below wr.heap.size wr wr:=zI _ _;have HST:=zC hst;have HNO:=zC hno;have HDY:=zC hdy;have Hb6:=zC hb6;clear hB6 hO6 hr6 hs6 hsp hps hle hst hno x1 x2 hd hdy hb6 K1 K2 KE1 KE2 KP;go_wp2_with fail;go_region_held3 (fun w'=>w'.cell? ⟨W.heap.size,0,none⟩=some (.slice a1 n1 c1)∧w'.cell? ⟨W.heap.size,1,none⟩=some (.slice b1 m1 d1)∧w'.cell? ⟨W.heap.size+1,0,none⟩=some (.slice a2 n2 c2)∧w'.cell? ⟨W.heap.size+1,1,none⟩=some (.slice b2 m2 d2))
     (first|exact⟨(zA0 (p:=⟨W.heap.size,0,none⟩) xTl l0).trans v0,(zA0 (p:=⟨W.heap.size,1,none⟩) xTl l0).trans v1,(zA0 (p:=⟨W.heap.size+1,0,none⟩) xTl l1).trans u0,(zA0 (p:=⟨W.heap.size+1,1,none⟩) xTl l1).trans u1⟩|fail)
     (first
       |(go_at_call 89;(with_reducible refine(Q1.out _ xTl).mono ?_);rintro e wq ⟨rfl,hq⟩)
       |(go_at_call 89;(with_reducible refine(Q2.out _ xTl).mono ?_);rintro e wq ⟨rfl,hq⟩)
       |(go_at_call 88;(with_reducible refine(Q3.out _ xTl).mono ?_);rintro e wq ⟨rfl,hq⟩))
    have hB7:=HB6.out.on hq;have hO7:=HO6.out.below hq HO6.out.lt;have hr7:=zLe HR6.out hq;have hs7:=HS6.out.trans (hq.mono HS6.out.size);have hb7:=Hb6.out.trans (hq.mono Hb6.out.size);have hq7:=hq.size;have lO:w4.heap.size<wq.heap.size:=hO7.lt;clear HB6 HO6 HR6 HS6 Hb6 Q1 Q2 Q3 v0 v1 u0 u1;generalize wq=wz at*;clear hq;cases o with
    |none=>
     have hs:=HNO.out ec rfl;have hec:ec=1∨ec=5∨ec=8:=zEd HDY.out;have hec0:¬ec=0:=by omega
     have r0:=hB7.r.c0;have r1:=hB7.r.c1;have f0:=hB7.r.f 0;have f1:=hB7.r.f 1;have HS:=zC hs;have HB:=zC hB7;have Hb:=zC hb7;clear hs hec hB7 hO7 hr7 hs7 hb7 HST HNO HDY;go_wp2_with fail;obtain⟨h1,h3⟩:=zMk HB.out.r Hb.out yEn ec;have b0:=h1.c0;have b1:=h1.c1;exact zE (v:=.tuple #[.agg #[.slice none 0 0,.slice none 0 0],.int .i64 ec]) yRm rfl (.inr ⟨ec,HS.out,h3⟩)
    |some z=>
     have hz0:=zDd HDY.out;subst hz0;have HSP:=zC (HST.out z rfl);have HN1:Hid (zTf ((zs++[z]).map S)=zTf (zs.map S)++[.string (S z)]):=zC (by rw[zN];exact yQf _ _);have y1:=hO7.c1;have g1:=hO7.f 1;simp only[T];generalize S z=sz at*;have HB:=zC hB7;have Hb:=zC hb7;have HO:=zC hO7;have HR:=zC hr7;have HS:=zC hs7;clear hB7 hO7 hr7 hs7 hb7 HST HNO HDY;obtain⟨i0,hi0,hz0,hz1,hz2⟩:=zF xC4;go_wp2_with (at_builtin;refine yJ0 _ rfl _ _ 23 rfl (w4.heap.size+1) 9 i0 (.string ⟨#[]⟩) 1 16 Tryz.underlying23 hi0 hz0 hz1 hz2 rfl yCn _ _ _ rfl (HR.out.alloc _) ⟨wz.heap.size,0,none⟩ 1 1 [.string sz] rfl rfl (yK0 _ _ _) xSm xXm yEn zZn ?_;intro v9 w9 hown9 hg9 _;obtain⟨av',cv',rfl⟩:=zWf hown9;have hb9:Below (w4.heap.size+1) wz w9:=((zI _ wz).alloc yEn _).grown hg9 zZn (fun q hq=>(HR.out.lt q hq).1);have hO9:=HO.out.below hb9 yEn;have z1:=hO9.c1;have g2:=hO9.f 1)
     rw[←HN1.out]at hown9;have hB9:=HB.out.below hb9 yEn;have hbW:=Hb.out.trans (hb9.mono yEn);have hs9:=HS.out.trans (hb9.mono (Nat.le_succ _));have hO11:=zC (hO9.set1 av' (i+1) cv');have hr11:=zC (yRf hown9 (p:=⟨w4.heap.size,1,none⟩) (zW _) (.slice av' (i+1) cv'));have hB11:=zC (hB9.setOther (p:=⟨w4.heap.size,1,none⟩) zZn (.slice av' (i+1) cv'));have hs11:=zC (hs9.setCell (p:=⟨w4.heap.size,1,none⟩) (zR _) (.slice av' (i+1) cv'));have hb11:=zC (hbW.setCell (p:=⟨w4.heap.size,1,none⟩) (show W.heap.size≤w4.heap.size by omega) (.slice av' (i+1) cv'));clear hB9 hO9 hbW hb9 hg9 hown9 hs9 HB Hb HO HR HS y1 g1;go_roundw
     case rel=>exact⟨i+1,av',cv',zs++[z],by go_num,by omega,hB11.out,hO11.out,hr11.out,HSP.out,hs11.out,hb11.out⟩
     case measure=>simp[intOf];omega
  · have e2:¬(i:Int)<(N:Int):=by omega
    obtain rfl:i=N:=by omega
    have hE:=SpI.ends (k:=kdL op.data.toList) (ps:=prs (nx l) (nx m) xs ys i) (zs:=zs) (by rw[zKd];exact hsp);have x0:=hO6.c0;have x1:=hO6.c1;have r0:=hB6.r.c0;have r1:=hB6.r.c1;have f0:=hB6.r.f 0;have f1:=hB6.r.f 1;clear KE1 KE2 KP hsp;go_wp2_with fail;have hB8:=hB6.r.set a3 n3 c3 av i cv;have b0:=hB8.c0;have b1:=hB8.c1;exact zE (v:=.tuple #[.agg #[.slice a3 n3 c3,.slice av i cv],.int .i64 0]) yRm rfl
     (.inl ⟨zs,hE,a3,n3,c3,av,i,cv,rfl,⟨hB6.r.sl (HSL.out.below hs6) _ _,hB6.r.st (zZf hr6) _ _,by omega⟩,hn3,yJ4 hb6 yEn _ _⟩)
theorem zUk {op:ByteArray} {a1 b1 a2 b2:Option Addr} {n1 c1 m1 d1 n2 c2 m2 d2:Nat} {l m:List Int} {es fs:List ByteArray} {o p:Option Ar} (W:World)
 (hV:Vl W a1 n1 b1 m1 l es) (hU:Vl W a2 n2 b2 m2 m fs) (hz1:∀j,j<m1→(es.getD j ByteArray.empty).size≤maxLen) (hz2:∀j,j<m2→(fs.getD j ByteArray.empty).size≤maxLen) (A1:AIs l es o) (A2:AIs m fs p):
 Calls Tryz.prog 39 #[.string op,.agg #[.slice a1 n1 c1,.slice b1 m1 d1],.agg #[.slice a2 n2 c2,.slice b2 m2 d2]] W
  (zLk (TS (dyA (kdL op.data.toList) o p).1).1 (TS (dyA (kdL op.data.toList) o p).1).2 (dyA (kdL op.data.toList) o p).2 W):=by
 cases o with
 |none=>
  rw[zUd yIn];exact zOk W hV hz1 A1 (m:=m) (fs:=fs)
 |some q=>
 have hm1:=A1.may;cases p with
 |none=>
  rw[zUd yIn];exact zPk W hV hz1 hm1 hU hz2 A2
 |some r=>
 have hm2:=A2.may;by_cases hk:kdL op.data.toList<11
 · obtain⟨l',xs⟩:=q
   obtain⟨m',ys⟩:=r;obtain⟨g1,_⟩:=A1.len;obtain⟨g2,_⟩:=A2.len;simp only at g1 g2;subst g1 g2;rcases zOd l' m' with hm|hm
   · rw[zRd hk hm]
     refine(zTk W hV hz1 hU hz2 hk A1 A2 hm).mono ?_;rintro e w (⟨zs,h1,h2⟩|⟨ec,h1,h2⟩)
     · rw[h1];exact h2
     · rw[h1];exact h2
   · rw[zSd hk (by rw[hm];decide)]
     exact zRk W hV hz1 hm1 hU hz2 hm2 hk hm
 · rw[zTd hk]
   exact zQk W hV hz1 hm1 hU hz2 hm2 hk
end Go.Proofs.YtcfbjdplhgdpfaaGreatDoor

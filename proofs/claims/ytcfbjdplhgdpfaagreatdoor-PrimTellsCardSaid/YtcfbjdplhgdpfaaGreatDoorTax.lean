import Derived.Test.YtcfbjdplhgdpfaaGreatDoorTaw
set_option maxHeartbeats 3200000
set_option maxRecDepth 100000
namespace Go.Proofs.YtcfbjdplhgdpfaaGreatDoor
set_option linter.unusedVariables false
set_option linter.unusedSimpArgs false
theorem zTn {P:Prop}(h:P:=by rw[hd];omega):P:=h
theorem zQn {P:Prop}(h:P:=by rw[←hnI];omega):P:=h
theorem zIn {P:Prop}(h:P:=by rw[hN];exact zR _):P:=h
theorem zCn {P:Prop}(h:P:=by rw[hnI];exact zR _):P:=h
theorem yXm {P:Prop}(h:P:=by simp[results,Tryz.results119,go_sem]):P:=h
theorem yAm {P:Prop}(h:P:=by simp[results,Tryz.results74,go_sem,r0,r1]):P:=h
theorem zZm {P:Prop}(h:P:=by simp[results,Tryz.results73,go_sem,r0,r1]):P:=h
theorem zFm {P:Prop}(h:P:=by rw[hr];intro e;rw[e]at hl;exact h0 hl.symm):P:=h
abbrev xW1:=@Nat.min_le_right
abbrev yC:=@Prod.ext
open Go.RowKit
theorem yTc {W:World} {a b:Option Addr} {n c m d:Nat} {l:List Int} {es:List ByteArray} {o:Option Ar} (h:Av W a n c b m d l es o):Calls Tryz.prog 16 #[.agg #[.slice a n c,.slice b m d]] W (yX4 o.isSome W):=by
 have e:=yZ4 (c:=c) (d:=d) W h.v h.z;rwa [h.i.may]at e
theorem yUc (W:World) (a:Option Addr) (n c:Nat) (b:Option Addr) (m d:Nat):
 Lv (fun w=>Bx w W.heap.size a n c b m d∧Below W.heap.size W w) (W.alloc (.cells #[.slice a n c,.slice b m d] 25)):=⟨⟨Bx.new W a n c b m d,(zI _ _).alloc (zR _) _⟩⟩
theorem yVc (W:World) (a:Option Addr) (n c:Nat) (b:Option Addr) (m d:Nat) (a2:Option Addr) (n2 c2:Nat) (b2:Option Addr) (m2 d2:Nat):
 Lv (fun w=>Bx w (W.heap.size+1) a2 n2 c2 b2 m2 d2∧Bx w W.heap.size a n c b m d∧Below W.heap.size W w) ((W.alloc (.cells #[.slice a n c,.slice b m d] 25)).alloc (.cells #[.slice a2 n2 c2,.slice b2 m2 d2] 25)):=
 ⟨⟨Bx.two W _ _ _ _ _ _ _,(Bx.new W a n c b m d).alloc _,((zI _ _).alloc (zR _) _).alloc yHn _⟩⟩
theorem yWc {P:World→Prop} {w:World} {f:FuncId} {args:Array Value} {l:List Int} {es:List ByteArray} (h:Lv P w) (hc:Calls Tryz.prog f args w (yIb l es w))
 (hs:Stb P:=by repeat' (first|exact Stb.bel _|exact Stb.bx|exact Stb.vl|refine Stb.and ?_ ?_|exact Stb.triv)):
 Calls Tryz.prog f args w fun e w'=>∃a n c b m d,e=.returned (.agg #[.slice a n c,.slice b m d])∧Lv P w'∧Vl w' a n b m l es∧Cp n c m d:=
 hc.mono fun _ _ ⟨a,n,c,b,m,d,h1,h2,h3,h4⟩=>⟨a,n,c,b,m,d,h1,⟨hs _ _ h.out h4⟩,h2,h3⟩
theorem yXc (a:Option Addr) (n c:Nat) (l:List Int) (W:World) (h:Sl W a n l) (hi:∀j,j<n→I64 (l.getD j 0)) (hn:n≤1000000) (ht:WT W):Calls Tryz.prog 17 #[.slice a n c] W (yIb [(n:Int)] (l.map S) W):=
 (yAb a n c l W h hi hn ht).mono fun _ _ ⟨g1,g2,h1,h2,h3⟩=>⟨_,_,_,_,_,_,h1,h2,⟨zR _,by unfold maxLen;omega,zR _,by unfold maxLen;omega⟩,h3⟩
theorem yYc (s:ByteArray) (W:World):Calls Tryz.prog 18 #[.string s] W (yIb [] [s] W):=
 (zRf s W).mono fun _ _ ⟨g,h1,h2,h3⟩=>⟨_,_,_,_,_,_,h1,Vl.one h2,⟨zR _,by unfold maxLen;omega,zR _,by unfold maxLen;omega⟩,h3⟩
theorem yZc (a:Option Addr) (n c:Nat) (es:List ByteArray) (W:World) (h:St W a n es) (hn:n≤1000000):Calls Tryz.prog 97 #[.slice a n c] W (yIb [(n:Int)] es W):=by
 have K:=zC (fun w (hb:Below W.heap.size W w)=>xK3 a n c es w (h.below hb) hn);clear h;have hA:=Bx.new W none 0 0 none 0 0;have hb0:Below W.heap.size W (W.alloc (.cells #[.slice none 0 0,.slice none 0 0] 25)):=(zI _ _).alloc (zR _) _;go_in;go_wp2_with fail;have hb1:=hb0.alloc hb0.size (.cells #[.int .i64 n] 3);refine(K.out _ hb1).mono ?_;rintro x w1 ⟨a',c',rfl,hs,hb⟩;have hA2:=(hA.alloc (.cells #[.int .i64 n] 3)).below hb zZn;have hS:Sl ((W.alloc (.cells #[.slice none 0 0,.slice none 0 0] 25)).alloc (.cells #[.int .i64 n] 3)) (some ⟨W.heap.size+1,0,none⟩) 1 [(n:Int)]:=by
  have:=Sl.row (l:=[(n:Int)]) (yE (W.alloc (.cells #[.slice none 0 0,.slice none 0 0] 25)) (.cells #[.int .i64 n] 3));rw[yP0]at this;exact this
 have hS2:=hS.below hb;have hb2:=hb1.trans (hb.mono hb1.size);have y0:=hA2.c0;have y1:=hA2.c1;have f0:=hA2.f 0;have f1:=hA2.f 1;have HS:=zC (And.intro hS2 hs);clear hS hS2 hs hA hb0 hb1 hb;go_wp2_with fail;have hA3:=hA2.set (some ⟨W.heap.size+1,0,none⟩) 1 1 a' n c';have r0:=hA3.c0;have r1:=hA3.c1;exact zE (v:=.agg #[.slice (some ⟨W.heap.size+1,0,none⟩) 1 1,.slice a' n c']) (by simp[results,Tryz.results97,go_sem,r0,r1]) rfl
  ⟨_,_,_,_,_,_,rfl,⟨hA2.sl HS.out.1 _ _,hA2.st HS.out.2.st _ _,by omega⟩,⟨zR _,by unfold maxLen;omega,HS.out.2.caps.1,HS.out.2.caps.2⟩,yJ4 hb2 (zR _) _ _⟩
def coM:Option Ar→Option Ar→Int×Int×Int
 |some v,some w=>if(inM v).2≠0 then(0,0,(inM v).2)else if w.1=[]then(0,0,3)else((inM v).1,itV w.1,0)
 |_,_=>(0,0,1)
def xAc (r:Int×Int×Int) (W:World) (e:Ending) (W':World):Prop:=e=.returned (.tuple #[.int .i64 r.1,.int .i64 r.2.1,.int .i64 r.2.2])∧Below W.heap.size W W'
theorem xBc {a1 b1 a2 b2:Option Addr} {n1 c1 m1 d1 n2 c2 m2 d2:Nat} {l m:List Int} {es fs:List ByteArray} {W:World} (h1:Av W a1 n1 c1 b1 m1 d1 l es none):
 Calls Tryz.prog 119 #[.agg #[.slice a1 n1 c1,.slice b1 m1 d1],.agg #[.slice a2 n2 c2,.slice b2 m2 d2]] W (xAc (0,0,1) W):=by
 have KV:=zC (fun w (hb:Below W.heap.size W w)=>yTc (h1.below hb));clear h1;have h:=yVc W a1 n1 c1 b1 m1 d1 a2 n2 c2 b2 m2 d2;go_in;have x1:=h.out.2.1.c0;have y1:=h.out.2.1.c1;go_wp2_with fail
 with_reducible refine(yMf h (KV.out _ h.out.2.2)).mono ?_
 clear h x1 y1;rintro e w ⟨rfl,h⟩;go_wp2_with fail;exact zE (v:=.tuple #[.int .i64 (0),.int .i64 (0),.int .i64 (1)]) yXm rfl ⟨rfl,h.out.2.2⟩
theorem xCc {a1 b1 a2 b2:Option Addr} {n1 c1 m1 d1 n2 c2 m2 d2:Nat} {l m:List Int} {es fs:List ByteArray} {W:World} {q:Ar} (h1:Av W a1 n1 c1 b1 m1 d1 l es (some q)) (h2:Av W a2 n2 c2 b2 m2 d2 m fs none):
 Calls Tryz.prog 119 #[.agg #[.slice a1 n1 c1,.slice b1 m1 d1],.agg #[.slice a2 n2 c2,.slice b2 m2 d2]] W (xAc (0,0,1) W):=by
 have KV:=zC (fun w (hb:Below W.heap.size W w)=>yTc (h1.below hb));have KU:=zC (fun w (hb:Below W.heap.size W w)=>yTc (h2.below hb));clear h1 h2;have h:=yVc W a1 n1 c1 b1 m1 d1 a2 n2 c2 b2 m2 d2;go_in;have x1:=h.out.2.1.c0;have y1:=h.out.2.1.c1;go_wp2_with fail
 with_reducible refine(yMf h (KV.out _ h.out.2.2)).mono ?_
 clear h x1 y1;rintro e w ⟨rfl,h⟩;have x2:=h.out.1.c0;have y2:=h.out.1.c1;go_wp2_with fail
 with_reducible refine(yMf h (KU.out _ h.out.2.2)).mono ?_
 clear h x2 y2;rintro e w ⟨rfl,h⟩;go_wp2_with fail;exact zE (v:=.tuple #[.int .i64 (0),.int .i64 (0),.int .i64 (1)]) yXm rfl ⟨rfl,h.out.2.2⟩
theorem xDc {a1 b1 a2 b2:Option Addr} {n1 c1 m1 d1 n2 c2 m2 d2:Nat} {l m:List Int} {es fs:List ByteArray} {W:World} {q r:Ar} (h1:Av W a1 n1 c1 b1 m1 d1 l es (some q)) (h2:Av W a2 n2 c2 b2 m2 d2 m fs (some r)) (hW:WT W) (he:(inM q).2≠0):
 Calls Tryz.prog 119 #[.agg #[.slice a1 n1 c1,.slice b1 m1 d1],.agg #[.slice a2 n2 c2,.slice b2 m2 d2]] W (xAc (0,0,(inM q).2) W):=by
 have KV:=zC (fun w (hb:Below W.heap.size W w)=>yTc (h1.below hb));have KU:=zC (fun w (hb:Below W.heap.size W w)=>yTc (h2.below hb));have KI:=zC (fun w (hb:Below W.heap.size W w)=>yHb (h1.below hb) (hW.below hb));clear h1 h2 hW;generalize (inM q).1=x at*;generalize (inM q).2=k at*;have hk:(k != 0)=true:=by simpa using he
 have h:=yVc W a1 n1 c1 b1 m1 d1 a2 n2 c2 b2 m2 d2;go_in;have x1:=h.out.2.1.c0;have y1:=h.out.2.1.c1;go_wp2_with fail
 with_reducible refine(yMf h (KV.out _ h.out.2.2)).mono ?_
 clear h x1 y1;rintro e w ⟨rfl,h⟩;have x2:=h.out.1.c0;have y2:=h.out.1.c1;go_wp2_with fail
 with_reducible refine(yMf h (KU.out _ h.out.2.2)).mono ?_
 clear h x2 y2;rintro e w ⟨rfl,h⟩;have x1:=h.out.2.1.c0;have y1:=h.out.2.1.c1;go_wp2_with fail
 with_reducible refine(yMf h (KI.out _ h.out.2.2)).mono ?_
 clear h x1 y1;rintro e w ⟨rfl,h⟩;go_wp2_with fail;exact zE (v:=.tuple #[.int .i64 (0),.int .i64 (0),.int .i64 (k)]) yXm rfl ⟨rfl,h.out.2.2⟩
theorem xEc {a1 b1 a2 b2:Option Addr} {n1 c1 m1 d1 n2 c2 m2 d2:Nat} {l m:List Int} {es fs:List ByteArray} {W:World} {q r:Ar} (h1:Av W a1 n1 c1 b1 m1 d1 l es (some q)) (h2:Av W a2 n2 c2 b2 m2 d2 m fs (some r)) (hW:WT W) (he:(inM q).2=0) (h0:n2=0):
 Calls Tryz.prog 119 #[.agg #[.slice a1 n1 c1,.slice b1 m1 d1],.agg #[.slice a2 n2 c2,.slice b2 m2 d2]] W (xAc (0,0,3) W):=by
 have KV:=zC (fun w (hb:Below W.heap.size W w)=>yTc (h1.below hb));have KU:=zC (fun w (hb:Below W.heap.size W w)=>yTc (h2.below hb));have KI:=zC (fun w (hb:Below W.heap.size W w)=>yHb (h1.below hb) (hW.below hb));rw[he]at KI;have hn0:(n2:Int)=0:=by omega
 clear h1 h2 hW he h0;generalize (inM q).1=x at*;have h:=yVc W a1 n1 c1 b1 m1 d1 a2 n2 c2 b2 m2 d2;go_in;have x1:=h.out.2.1.c0;have y1:=h.out.2.1.c1;go_wp2_with fail
 with_reducible refine(yMf h (KV.out _ h.out.2.2)).mono ?_
 clear h x1 y1;rintro e w ⟨rfl,h⟩;have x2:=h.out.1.c0;have y2:=h.out.1.c1;go_wp2_with fail
 with_reducible refine(yMf h (KU.out _ h.out.2.2)).mono ?_
 clear h x2 y2;rintro e w ⟨rfl,h⟩;have x1:=h.out.2.1.c0;have y1:=h.out.2.1.c1;go_wp2_with fail
 with_reducible refine(yMf h (KI.out _ h.out.2.2)).mono ?_
 clear h x1 y1;rintro e w ⟨rfl,h⟩;have x2:=h.out.1.c0;have y2:=h.out.1.c1;go_wp2_with fail;exact zE (v:=.tuple #[.int .i64 (0),.int .i64 (0),.int .i64 (3)]) yXm rfl ⟨rfl,h.out.2.2⟩
theorem xFc {a1 b1 a2 b2:Option Addr} {n1 c1 m1 d1 n2 c2 m2 d2:Nat} {l m:List Int} {es fs:List ByteArray} {W:World} {q r:Ar} (h1:Av W a1 n1 c1 b1 m1 d1 l es (some q)) (h2:Av W a2 n2 c2 b2 m2 d2 m fs (some r)) (hW:WT W) (he:(inM q).2=0) (h0:0<n2):
 Calls Tryz.prog 119 #[.agg #[.slice a1 n1 c1,.slice b1 m1 d1],.agg #[.slice a2 n2 c2,.slice b2 m2 d2]] W (xAc ((inM q).1,itV m,0) W):=by
 have KV:=zC (fun w (hb:Below W.heap.size W w)=>yTc (h1.below hb));have KU:=zC (fun w (hb:Below W.heap.size W w)=>yTc (h2.below hb));have KI:=zC (fun w (hb:Below W.heap.size W w)=>yHb (h1.below hb) (hW.below hb));have KM:=zC (fun w (hb:Below W.heap.size W w)=>zB4 (h2.below hb));rw[h2.items.2.1]at KM;rw[he]at KI;have hn0:(n2:Int)≠0:=by omega
 clear h1 h2 hW he h0;generalize (inM q).1=x at*;generalize itV m=N at*;have h:=yVc W a1 n1 c1 b1 m1 d1 a2 n2 c2 b2 m2 d2;go_in;have x1:=h.out.2.1.c0;have y1:=h.out.2.1.c1;go_wp2_with fail
 with_reducible refine(yMf h (KV.out _ h.out.2.2)).mono ?_
 clear h x1 y1;rintro e w ⟨rfl,h⟩;have x2:=h.out.1.c0;have y2:=h.out.1.c1;go_wp2_with fail
 with_reducible refine(yMf h (KU.out _ h.out.2.2)).mono ?_
 clear h x2 y2;rintro e w ⟨rfl,h⟩;have x1:=h.out.2.1.c0;have y1:=h.out.2.1.c1;go_wp2_with fail
 with_reducible refine(yMf h (KI.out _ h.out.2.2)).mono ?_
 clear h x1 y1;rintro e w ⟨rfl,h⟩;have x2:=h.out.1.c0;have y2:=h.out.1.c1;go_wp2_with fail;refine(yMf h (KM.out _ h.out.2.2)).mono ?_;clear h x2 y2;rintro e w ⟨rfl,h⟩;go_wp2_with fail;exact zE (v:=.tuple #[.int .i64 (x),.int .i64 (N),.int .i64 (0)]) yXm rfl ⟨rfl,h.out.2.2⟩
theorem xGc {a1 b1 a2 b2:Option Addr} {n1 c1 m1 d1 n2 c2 m2 d2:Nat} {l m:List Int} {es fs:List ByteArray} {W:World} {o p:Option Ar} (h1:Av W a1 n1 c1 b1 m1 d1 l es o) (h2:Av W a2 n2 c2 b2 m2 d2 m fs p) (hW:WT W):Calls Tryz.prog 119 #[.agg #[.slice a1 n1 c1,.slice b1 m1 d1],.agg #[.slice a2 n2 c2,.slice b2 m2 d2]] W (xAc (coM o p) W):=by
 cases o with
 |none=>exact xBc (m:=m) (fs:=fs) h1
 |some q=>
 cases p with
 |none=>exact xCc h1 h2
 |some r=>
 have hr:=h2.fst;have hl:=h2.v.s.1;by_cases he:(inM q).2=0
 · by_cases h0:n2=0
   · have e:coM (some q) (some r)=(0,0,3):=by
      unfold coM;dsimp only
      rw[zY (fun h=>h he),yA (by rw[hr];exact yO0.1 (hl.trans h0))]
     rw[e];exact xEc h1 h2 hW he h0
   · have e:coM (some q) (some r)=((inM q).1,itV m,0):=by
      unfold coM;dsimp only
      rw[zY (fun h=>h he),zY zFm,hr]
     rw[e];exact xFc h1 h2 hW he yEn
 · have e:coM (some q) (some r)=(0,0,(inM q).2):=by
    unfold coM;dsimp only
    rw[yA he]
   rw[e];exact xDc h1 h2 hW he
theorem xHc {o p:Option Ar}:(coM o p).2.2≠0∧(coM o p).1=0∧(coM o p).2.1=0∨∃q r,o=some q∧p=some r∧(inM q).2=0∧r.1≠[]∧coM o p=((inM q).1,itV r.1,0):=by
 cases o with
 |none=>exact .inl ⟨by simp[coM],rfl,rfl⟩
 |some q=>
 cases p with
 |none=>exact .inl ⟨by simp[coM],rfl,rfl⟩
 |some r=>
 unfold coM;dsimp only
 by_cases he:(inM q).2=0
 · rw[zY (fun h=>h he)]
   by_cases h0:r.1=[]
   · rw[yA h0];exact .inl ⟨by decide,rfl,rfl⟩
   · rw[zY h0];exact .inr ⟨q,r,rfl,rfl,he,h0,rfl⟩
 · rw[yA he];exact .inl ⟨he,rfl,rfl⟩
theorem xIc {v:Ar} (h:(inM v).2=0): -1099511627776≤(inM v).1∧(inM v).1≤1099511627776:=by
 unfold inM at h ⊢;split
 · rename_i hc;rw[yA hc]at h;cases h
 · rename_i hc
   rw[zY hc]at h;split
   · rename_i hn;exact zXd.1 hn
   · rename_i hn;rw[zY hn]at h;cases h
theorem xJc (l:List Int) (xs:List Int) (f t:Nat):ctM l (xs.map S) f t=(ctM l xs f t).map S:=by
 unfold ctM;rw[List.map_take,List.map_drop]
theorem xKc {w:Ar} (h:Fits w.1 w.2) (hl:w.1≠[]) {f t:Nat} (hft:f≤t) (ht:t≤nI w.1) (hb:∀x∈w.2,x.natAbs<lim):Rok (some (cuM w f t)):=by
 have h2:=yAd h hl hft ht;exact⟨yE9.2 h2.1,h2.2,fun x hx=>hb x (xG1 (xD hx))⟩
theorem xLc {l:List Int} (h:l≠[]):mN l=nI l:=by
 unfold mN nI itV;rw[zY fun e=>h (yO0.1 e)]
theorem xMc {l:List Int} (h:l≠[]):itV l=l.getD 0 0:=zY fun e=>h (yO0.1 e)
theorem xNc {a1 b1:Option Addr} {n1 c1 m1 d1:Nat} {l:List Int} {es:List ByteArray} {W:World} {q:Ar} (h1:Av W a1 n1 c1 b1 m1 d1 l es (some q)) (hn:0<n1) {f t:Nat} (hft:f≤t) (ht:t≤mN l):
 Calls Tryz.prog 120 #[.agg #[.slice a1 n1 c1,.slice b1 m1 d1],.int .i64 f,.int .i64 t] W (yIb (TS (some (cuM q f t))).1 (TS (some (cuM q f t))).2 W):=by
 have h:=yLb h1 hn hft ht;rw[h1.i.2.1,xJc]at h;have e:=h1.fst;subst e;exact h
theorem xOc {a1 b1 a2 b2:Option Addr} {n1 c1 m1 d1 n2 c2 m2 d2:Nat} {l m:List Int} {es fs:List ByteArray} {W:World} {o p:Option Ar} (h1:Av W a1 n1 c1 b1 m1 d1 l es o) (h2:Av W a2 n2 c2 b2 m2 d2 m fs p) (hW:WT W) (hco:(coM o p).2.2≠0∧(coM o p).1=0∧(coM o p).2.1=0):
 Calls Tryz.prog 73 #[.agg #[.slice a1 n1 c1,.slice b1 m1 d1],.agg #[.slice a2 n2 c2,.slice b2 m2 d2]] W (xL3 (none,(coM o p).2.2) W):=by
 have KC:=zC (fun w (hb:Below W.heap.size W w)=>xGc (h1.below hb) (h2.below hb) (hW.below hb));obtain⟨k1,k2,k3⟩:=hco;rw[show coM o p=(0,0,(coM o p).2.2)from yC k2 (yC k3 rfl)]at KC;generalize (coM o p).2.2=k at*;have hk:(k != 0)=true:=by simpa using k1
 clear h1 h2 hW k2 k3;have h:=xP3 W a1 n1 c1 b1 m1 d1 a2 n2 c2 b2 m2 d2;go_in;have x1:=h.out.2.2.1.c0;have y1:=h.out.2.2.1.c1;have x2:=h.out.2.1.c0;have y2:=h.out.2.1.c1;go_wp2_with fail
 with_reducible refine(yMf h (KC.out _ h.out.2.2.2)).mono ?_
 clear h x1 y1 x2 y2;rintro e w ⟨rfl,h⟩;have y0:=h.out.1.c0;have y3:=h.out.1.c1;have f0:=h.out.1.f 0;have f1:=h.out.1.f 1;go_wp2_with fail;have hR:=h.out.1.set none 0 0 none 0 0;have r0:=hR.c0;have r1:=hR.c1;exact zE (v:=.tuple #[.agg #[.slice none 0 0,.slice none 0 0],.int .i64 k]) zZm rfl (xN3 h.out.1 h.out.2.2.2 yEn)
theorem xPc {a1 b1 a2 b2:Option Addr} {n1 c1 m1 d1 n2 c2 m2 d2:Nat} {l m:List Int} {es fs:List ByteArray} {W:World} {o p:Option Ar} (h1:Av W a1 n1 c1 b1 m1 d1 l es o) (h2:Av W a2 n2 c2 b2 m2 d2 m fs p) (hW:WT W) (hco:(coM o p).2.2≠0∧(coM o p).1=0∧(coM o p).2.1=0):
 Calls Tryz.prog 74 #[.agg #[.slice a1 n1 c1,.slice b1 m1 d1],.agg #[.slice a2 n2 c2,.slice b2 m2 d2]] W (xL3 (none,(coM o p).2.2) W):=by
 have KC:=zC (fun w (hb:Below W.heap.size W w)=>xGc (h1.below hb) (h2.below hb) (hW.below hb));obtain⟨k1,k2,k3⟩:=hco;rw[show coM o p=(0,0,(coM o p).2.2)from yC k2 (yC k3 rfl)]at KC;generalize (coM o p).2.2=k at*;have hk:(k != 0)=true:=by simpa using k1
 clear h1 h2 hW k2 k3;have h:=xP3 W a1 n1 c1 b1 m1 d1 a2 n2 c2 b2 m2 d2;go_in;have x1:=h.out.2.2.1.c0;have y1:=h.out.2.2.1.c1;have x2:=h.out.2.1.c0;have y2:=h.out.2.1.c1;go_wp2_with fail
 with_reducible refine(yMf h (KC.out _ h.out.2.2.2)).mono ?_
 clear h x1 y1 x2 y2;rintro e w ⟨rfl,h⟩;have y0:=h.out.1.c0;have y3:=h.out.1.c1;have f0:=h.out.1.f 0;have f1:=h.out.1.f 1;go_wp2_with fail;have hR:=h.out.1.set none 0 0 none 0 0;have r0:=hR.c0;have r1:=hR.c1;exact zE (v:=.tuple #[.agg #[.slice none 0 0,.slice none 0 0],.int .i64 k]) yAm rfl (xN3 h.out.1 h.out.2.2.2 yEn)
theorem xQc {a1 b1 a2 b2:Option Addr} {n1 c1 m1 d1 n2 c2 m2 d2:Nat} {l m:List Int} {es fs:List ByteArray} {W:World} {x:Int} {N:Nat} {q r:Ar} (h1:Av W a1 n1 c1 b1 m1 d1 l es (some q)) (h2:Av W a2 n2 c2 b2 m2 d2 m fs (some r)) (hW:WT W) (hco:coM (some q) (some r)=(x,(N:Int),0)) (hb: -1099511627776≤x∧x≤1099511627776) (hx:0≤x∧(N:Int)<x∨x<0∧(N:Int)< -x):
 Calls Tryz.prog 73 #[.agg #[.slice a1 n1 c1,.slice b1 m1 d1],.agg #[.slice a2 n2 c2,.slice b2 m2 d2]] W (xL3 (none,6) W):=by
 have KC:=zC (fun w (hb:Below W.heap.size W w)=>xGc (h1.below hb) (h2.below hb) (hW.below hb));rw[hco]at KC;clear h1 h2 hW hco;rcases hx with⟨g1,g2⟩|⟨g1,g2⟩
 ·
  have hn1:IntKind.i64.wrap (-x)= -x:=xJ0 _ yEn;have hmx: -x≤x:=by omega
  have h:=xP3 W a1 n1 c1 b1 m1 d1 a2 n2 c2 b2 m2 d2;go_in;have x1:=h.out.2.2.1.c0;have y1:=h.out.2.2.1.c1;have x2:=h.out.2.1.c0;have y2:=h.out.2.1.c1;go_wp2_with fail
  with_reducible refine(yMf h (KC.out _ h.out.2.2.2)).mono ?_
  clear h x1 y1 x2 y2;rintro e w ⟨rfl,h⟩;have y0:=h.out.1.c0;have y3:=h.out.1.c1;have f0:=h.out.1.f 0;have f1:=h.out.1.f 1;go_wp2_with fail;have hR:=h.out.1.set none 0 0 none 0 0;have r0:=hR.c0;have r1:=hR.c1;exact zE (v:=.tuple #[.agg #[.slice none 0 0,.slice none 0 0],.int .i64 6]) zZm rfl (xN3 h.out.1 h.out.2.2.2 yEn)
 ·
  have hn1:IntKind.i64.wrap (-x)= -x:=xJ0 _ yEn;have hmx:¬(-x≤x):=by omega
  have h:=xP3 W a1 n1 c1 b1 m1 d1 a2 n2 c2 b2 m2 d2;go_in;have x1:=h.out.2.2.1.c0;have y1:=h.out.2.2.1.c1;have x2:=h.out.2.1.c0;have y2:=h.out.2.1.c1;go_wp2_with fail
  with_reducible refine(yMf h (KC.out _ h.out.2.2.2)).mono ?_
  clear h x1 y1 x2 y2;rintro e w ⟨rfl,h⟩;have y0:=h.out.1.c0;have y3:=h.out.1.c1;have f0:=h.out.1.f 0;have f1:=h.out.1.f 1;go_wp2_with fail;have hR:=h.out.1.set none 0 0 none 0 0;have r0:=hR.c0;have r1:=hR.c1;exact zE (v:=.tuple #[.agg #[.slice none 0 0,.slice none 0 0],.int .i64 6]) zZm rfl (xN3 h.out.1 h.out.2.2.2 yEn)
theorem xRc {a1 b1 a2 b2:Option Addr} {n1 c1 m1 d1 n2 c2 m2 d2:Nat} {l m:List Int} {es fs:List ByteArray} {W:World} {x:Int} {N t:Nat} {q r:Ar} (h1:Av W a1 n1 c1 b1 m1 d1 l es (some q)) (h2:Av W a2 n2 c2 b2 m2 d2 m fs (some r)) (hW:WT W) (hco:coM (some q) (some r)=(x,(N:Int),0)) (hn2:0<n2) (hN:N=mN m) (hNb:N≤1099511627776) (hxt:x= -(t:Int)) (ht0:0<t) (htN:t≤N) (hrok:Rok (some (cuM r (N-t) N))):
 Calls Tryz.prog 73 #[.agg #[.slice a1 n1 c1,.slice b1 m1 d1],.agg #[.slice a2 n2 c2,.slice b2 m2 d2]] W (xL3 (some (cuM r (N-t) N),0) W):=by
 have KC:=zC (fun w (hb:Below W.heap.size W w)=>xGc (h1.below hb) (h2.below hb) (hW.below hb));rw[hco]at KC;have KP:=zC (fun w (hb:Below W.heap.size W w)=>xNc (h2.below hb) hn2 (f:=N-t) (t:=N) yEn zIn);have HR:=zC hrok;have hn1:IntKind.i64.wrap (-x)=(t:Int):=by rw[hxt,Int.neg_neg];exact xJ0 _ yEn
 have hn3:IntKind.i64.wrap ((N:Int)+x)=((N-t:Nat):Int):=by rw[hxt,show(N:Int)+ -(t:Int)=((N-t:Nat):Int)by omega];exact xJ0 _ yEn
 have hx0:x<0:=by omega
 have hmx:¬((t:Int)≤x):=by omega
 have hle:¬((N:Int)<(t:Int)):=by omega
 obtain⟨u,hu⟩:∃u,u=N-t:=⟨_,rfl⟩
 rw[←hu]at KP HR hn3 ⊢;clear h1 h2 hW hco hxt hu hrok hN ht0 htN;have h:=xP3 W a1 n1 c1 b1 m1 d1 a2 n2 c2 b2 m2 d2;go_in;have x1:=h.out.2.2.1.c0;have y1:=h.out.2.2.1.c1;have x2:=h.out.2.1.c0;have y2:=h.out.2.1.c1;go_wp2_with fail
 with_reducible refine(yMf h (KC.out _ h.out.2.2.2)).mono ?_
 clear h x1 y1 x2 y2;rintro e w ⟨rfl,h⟩;have x2:=h.out.2.1.c0;have y2:=h.out.2.1.c1;have y0:=h.out.1.c0;have y3:=h.out.1.c1;have f0:=h.out.1.f 0;have f1:=h.out.1.f 1;go_wp2_with fail
 with_reducible refine(yWc h (KP.out _ h.out.2.2.2)).mono ?_
 clear h y0 y3 f0 f1 x2 y2;rintro e w ⟨ar,nr,cr,br,mr,dr,rfl,h,hv,hc⟩;have y0:=h.out.1.c0;have y3:=h.out.1.c1;have f0:=h.out.1.f 0;have f1:=h.out.1.f 1;go_wp2_with fail;have hR:=h.out.1.set ar nr cr br mr dr;have r0:=hR.c0;have r1:=hR.c1;exact zE (v:=.tuple #[.agg #[.slice ar nr cr,.slice br mr dr],.int .i64 0]) zZm rfl (xM3 (r:=_) h.out.1 h.out.2.2.2 yEn hv hc HR.out)
theorem xSc {a1 b1 a2 b2:Option Addr} {n1 c1 m1 d1 n2 c2 m2 d2:Nat} {l m:List Int} {es fs:List ByteArray} {W:World} {x:Int} {N t:Nat} {q r:Ar} (h1:Av W a1 n1 c1 b1 m1 d1 l es (some q)) (h2:Av W a2 n2 c2 b2 m2 d2 m fs (some r)) (hW:WT W) (hco:coM (some q) (some r)=(x,(N:Int),0)) (hn2:0<n2) (hN:N=mN m) (hNb:N≤1099511627776) (hxt:x=(t:Int)) (htN:t≤N) (hrok:Rok (some (cuM r 0 t))):
 Calls Tryz.prog 73 #[.agg #[.slice a1 n1 c1,.slice b1 m1 d1],.agg #[.slice a2 n2 c2,.slice b2 m2 d2]] W (xL3 (some (cuM r 0 t),0) W):=by
 have KC:=zC (fun w (hb:Below W.heap.size W w)=>xGc (h1.below hb) (h2.below hb) (hW.below hb));rw[hco]at KC;have KP:=zC (fun w (hb:Below W.heap.size W w)=>xNc (h2.below hb) hn2 (f:=0) (t:=t) (xJ _) (by rw[←hN];exact htN));rw[show((0:Nat):Int)=0 from rfl]at KP;have HR:=zC hrok;subst hxt;have hn1:IntKind.i64.wrap (-(t:Int))= -(t:Int):=xJ0 _ yEn;have hmx: -(t:Int)≤(t:Int):=by omega
 have hle:¬((N:Int)<(t:Int)):=by omega
 have hx0:¬((t:Int)<0):=by omega
 clear h1 h2 hW hco hrok hN htN;have h:=xP3 W a1 n1 c1 b1 m1 d1 a2 n2 c2 b2 m2 d2;go_in;have x1:=h.out.2.2.1.c0;have y1:=h.out.2.2.1.c1;have x2:=h.out.2.1.c0;have y2:=h.out.2.1.c1;go_wp2_with fail
 with_reducible refine(yMf h (KC.out _ h.out.2.2.2)).mono ?_
 clear h x1 y1 x2 y2;rintro e w ⟨rfl,h⟩;have x2:=h.out.2.1.c0;have y2:=h.out.2.1.c1;have y0:=h.out.1.c0;have y3:=h.out.1.c1;have f0:=h.out.1.f 0;have f1:=h.out.1.f 1;go_wp2_with fail
 with_reducible refine(yWc h (KP.out _ h.out.2.2.2)).mono ?_
 clear h y0 y3 f0 f1 x2 y2;rintro e w ⟨ar,nr,cr,br,mr,dr,rfl,h,hv,hc⟩;have y0:=h.out.1.c0;have y3:=h.out.1.c1;have f0:=h.out.1.f 0;have f1:=h.out.1.f 1;go_wp2_with fail;have hR:=h.out.1.set ar nr cr br mr dr;have r0:=hR.c0;have r1:=hR.c1;exact zE (v:=.tuple #[.agg #[.slice ar nr cr,.slice br mr dr],.int .i64 0]) zZm rfl (xM3 (r:=_) h.out.1 h.out.2.2.2 yEn hv hc HR.out)
theorem xTc {a1 b1 a2 b2:Option Addr} {n1 c1 m1 d1 n2 c2 m2 d2:Nat} {l m:List Int} {es fs:List ByteArray} {W:World} {x:Int} {N t:Nat} {q r:Ar} (h1:Av W a1 n1 c1 b1 m1 d1 l es (some q)) (h2:Av W a2 n2 c2 b2 m2 d2 m fs (some r)) (hW:WT W) (hco:coM (some q) (some r)=(x,(N:Int),0)) (hn2:0<n2) (hN:N=mN m) (hNb:N≤1099511627776) (hxt:x= -(t:Int)) (ht0:0<t) (htb:t≤1099511627776) (hrok:Rok (some (cuM r 0 (N-t)))):
 Calls Tryz.prog 74 #[.agg #[.slice a1 n1 c1,.slice b1 m1 d1],.agg #[.slice a2 n2 c2,.slice b2 m2 d2]] W (xL3 (some (cuM r 0 (N-t)),0) W):=by
 have KC:=zC (fun w (hb:Below W.heap.size W w)=>xGc (h1.below hb) (h2.below hb) (hW.below hb));rw[hco]at KC;have KP:=zC (fun w (hb:Below W.heap.size W w)=>xNc (h2.below hb) hn2 (f:=0) (t:=N-t) (xJ _) (by rw[←hN];omega));have HR:=zC hrok;obtain⟨z,hz⟩:∃z:Int,z=(N:Int)+x:=⟨_,rfl⟩
 have hn3:IntKind.i64.wrap ((N:Int)+x)=z:=by rw[←hz];exact xJ0 _ yEn
 have hx0:x<0:=by omega
 obtain⟨u,hu⟩:∃u,u=N-t:=⟨_,rfl⟩
 rw[←hu]at KP HR ⊢;have hmax:max z 0=(u:Int):=by omega
 rw[show((0:Nat):Int)=0 from rfl]at KP;clear h1 h2 hW hco hxt hu hrok hN ht0 hz;have h:=xP3 W a1 n1 c1 b1 m1 d1 a2 n2 c2 b2 m2 d2;go_in;have x1:=h.out.2.2.1.c0;have y1:=h.out.2.2.1.c1;have x2:=h.out.2.1.c0;have y2:=h.out.2.1.c1;go_wp2_with fail
 with_reducible refine(yMf h (KC.out _ h.out.2.2.2)).mono ?_
 clear h x1 y1 x2 y2;rintro e w ⟨rfl,h⟩;have x2:=h.out.2.1.c0;have y2:=h.out.2.1.c1;have y0:=h.out.1.c0;have y3:=h.out.1.c1;have f0:=h.out.1.f 0;have f1:=h.out.1.f 1;go_wp2_with fail
 with_reducible refine(yWc h (KP.out _ h.out.2.2.2)).mono ?_
 clear h y0 y3 f0 f1 x2 y2;rintro e w ⟨ar,nr,cr,br,mr,dr,rfl,h,hv,hc⟩;have y0:=h.out.1.c0;have y3:=h.out.1.c1;have f0:=h.out.1.f 0;have f1:=h.out.1.f 1;go_wp2_with fail;have hR:=h.out.1.set ar nr cr br mr dr;have r0:=hR.c0;have r1:=hR.c1;exact zE (v:=.tuple #[.agg #[.slice ar nr cr,.slice br mr dr],.int .i64 0]) yAm rfl (xM3 (r:=_) h.out.1 h.out.2.2.2 yEn hv hc HR.out)
theorem xUc {a1 b1 a2 b2:Option Addr} {n1 c1 m1 d1 n2 c2 m2 d2:Nat} {l m:List Int} {es fs:List ByteArray} {W:World} {x:Int} {N t:Nat} {q r:Ar} (h1:Av W a1 n1 c1 b1 m1 d1 l es (some q)) (h2:Av W a2 n2 c2 b2 m2 d2 m fs (some r)) (hW:WT W) (hco:coM (some q) (some r)=(x,(N:Int),0)) (hn2:0<n2) (hN:N=mN m) (hNb:N≤1099511627776) (hxt:x=(t:Int)) (htb:t≤1099511627776) (hrok:Rok (some (cuM r (min t N) N))):
 Calls Tryz.prog 74 #[.agg #[.slice a1 n1 c1,.slice b1 m1 d1],.agg #[.slice a2 n2 c2,.slice b2 m2 d2]] W (xL3 (some (cuM r (min t N) N),0) W):=by
 have KC:=zC (fun w (hb:Below W.heap.size W w)=>xGc (h1.below hb) (h2.below hb) (hW.below hb));rw[hco]at KC;have KP:=zC (fun w (hb:Below W.heap.size W w)=>xNc (h2.below hb) hn2 (f:=min t N) (t:=N) (xW1 _ _) zIn);have HR:=zC hrok;subst hxt;have hx0:¬((t:Int)<0):=by omega
 obtain⟨u,hu⟩:∃u,u=min t N:=⟨_,rfl⟩
 rw[←hu]at KP HR ⊢;have hmin:min (t:Int) (N:Int)=(u:Int):=by omega
 clear h1 h2 hW hco hu hrok hN;have h:=xP3 W a1 n1 c1 b1 m1 d1 a2 n2 c2 b2 m2 d2;go_in;have x1:=h.out.2.2.1.c0;have y1:=h.out.2.2.1.c1;have x2:=h.out.2.1.c0;have y2:=h.out.2.1.c1;go_wp2_with fail
 with_reducible refine(yMf h (KC.out _ h.out.2.2.2)).mono ?_
 clear h x1 y1 x2 y2;rintro e w ⟨rfl,h⟩;have x2:=h.out.2.1.c0;have y2:=h.out.2.1.c1;have y0:=h.out.1.c0;have y3:=h.out.1.c1;have f0:=h.out.1.f 0;have f1:=h.out.1.f 1;go_wp2_with fail
 with_reducible refine(yWc h (KP.out _ h.out.2.2.2)).mono ?_
 clear h y0 y3 f0 f1 x2 y2;rintro e w ⟨ar,nr,cr,br,mr,dr,rfl,h,hv,hc⟩;have y0:=h.out.1.c0;have y3:=h.out.1.c1;have f0:=h.out.1.f 0;have f1:=h.out.1.f 1;go_wp2_with fail;have hR:=h.out.1.set ar nr cr br mr dr;have r0:=hR.c0;have r1:=hR.c1;exact zE (v:=.tuple #[.agg #[.slice ar nr cr,.slice br mr dr],.int .i64 0]) yAm rfl (xM3 (r:=_) h.out.1 h.out.2.2.2 yEn hv hc HR.out)
theorem xVc {a1 b1 a2 b2:Option Addr} {n1 c1 m1 d1 n2 c2 m2 d2:Nat} {l m:List Int} {es fs:List ByteArray} {W:World} {o p:Option Ar} (h1:Av W a1 n1 c1 b1 m1 d1 l es o) (h2:Av W a2 n2 c2 b2 m2 d2 m fs p) (hW:WT W):Calls Tryz.prog 73 #[.agg #[.slice a1 n1 c1,.slice b1 m1 d1],.agg #[.slice a2 n2 c2,.slice b2 m2 d2]] W (xL3 (tkM o p) W):=by
 rcases xHc (o:=o) (p:=p)with hc|⟨q,r,rfl,rfl,he,hr,hc⟩
 · have e:tkM o p=(none,(coM o p).2.2):=by
    cases o with
    |none=>rfl
    |some q=>
    cases p with
    |none=>rfl
    |some r=>
    have h:=hc.1;unfold coM at h ⊢;unfold tkM;dsimp only at h ⊢
    by_cases he:(inM q).2=0
    · rw[zY (fun h=>h he)]at h ⊢
      by_cases h0:r.1=[]
      · rw[yA h0,yA h0,zY (fun g=>g he)]
      · rw[zY h0]at h;exact absurd rfl h
    · rw[yA he,yA he]
   rw[e];exact xOc h1 h2 hW hc
 · have hf:=h2.fits
   have hm:=h2.fst;have hb:=h2.i.2.2.2;have hnn:0<n2:=by
    rcases yL0 n2 with h0|h0
    · have:=h2.v.s.1
      rw[h0]at this;exact absurd (hm.trans (yO0.1 this)) hr
    · exact h0
   have hN1:=h2.items.2.1;have hNb:=h2.items.2.2.1;have hx:=xIc he;rw[hm,←hN1]at hc;have hnI:mN m=nI r.1:=by rw[←hm];exact xLc hr
   have hd:r.1.getD 0 0=(mN m:Int):=by rw[hN1,←hm];exact(xMc hr).symm
   by_cases hfar:0≤(inM q).1∧(mN m:Int)<(inM q).1∨(inM q).1<0∧(mN m:Int)< -(inM q).1
   · have e:tkM (some q) (some r)=(none,6):=by
      unfold tkM;dsimp only
      rw[zY (fun h=>h he),zY hr,yA zTn]
     rw[e];exact xQc h1 h2 hW hc hx hfar
   · by_cases h0:(inM q).1<0
     · obtain⟨t,ht⟩:∃t:Nat,(inM q).1= -(t:Int):=⟨(-(inM q).1).toNat,by omega⟩
       have e:tkM (some q) (some r)=(some (cuM r (mN m-t) (mN m)),0):=by
        unfold tkM;dsimp only
        rw[zY (fun h=>h he),zY hr,zY zTn,yA h0,←hnI,show(-(inM q).1).toNat=t by omega]
       rw[e];exact xRc h1 h2 hW hc hnn rfl hNb ht yEn yEn (xKc hf hr yEn zCn hb)
     · obtain⟨t,ht⟩:∃t:Nat,(inM q).1=(t:Int):=⟨(inM q).1.toNat,by omega⟩
       have e:tkM (some q) (some r)=(some (cuM r 0 t),0):=by
        unfold tkM;dsimp only
        rw[zY (fun h=>h he),zY hr,zY zTn,zY h0,show(inM q).1.toNat=t by omega]
       rw[e];exact xSc h1 h2 hW hc hnn rfl hNb ht yEn (xKc hf hr (xJ _) zQn hb)
theorem xWc {a1 b1 a2 b2:Option Addr} {n1 c1 m1 d1 n2 c2 m2 d2:Nat} {l m:List Int} {es fs:List ByteArray} {W:World} {o p:Option Ar} (h1:Av W a1 n1 c1 b1 m1 d1 l es o) (h2:Av W a2 n2 c2 b2 m2 d2 m fs p) (hW:WT W):Calls Tryz.prog 74 #[.agg #[.slice a1 n1 c1,.slice b1 m1 d1],.agg #[.slice a2 n2 c2,.slice b2 m2 d2]] W (xL3 (drM o p) W):=by
 rcases xHc (o:=o) (p:=p)with hc|⟨q,r,rfl,rfl,he,hr,hc⟩
 · have e:drM o p=(none,(coM o p).2.2):=by
    cases o with
    |none=>rfl
    |some q=>
    cases p with
    |none=>rfl
    |some r=>
    have h:=hc.1;unfold coM at h ⊢;unfold drM;dsimp only at h ⊢
    by_cases he:(inM q).2=0
    · rw[zY (fun h=>h he)]at h ⊢
      by_cases h0:r.1=[]
      · rw[yA h0,yA h0,zY (fun g=>g he)]
      · rw[zY h0]at h;exact absurd rfl h
    · rw[yA he,yA he]
   rw[e];exact xPc h1 h2 hW hc
 · have hf:=h2.fits
   have hm:=h2.fst;have hb:=h2.i.2.2.2;have hnn:0<n2:=by
    rcases yL0 n2 with h0|h0
    · have:=h2.v.s.1
      rw[h0]at this;exact absurd (hm.trans (yO0.1 this)) hr
    · exact h0
   have hN1:=h2.items.2.1;have hNb:=h2.items.2.2.1;have hx:=xIc he;rw[hm,←hN1]at hc;have hnI:mN m=nI r.1:=by rw[←hm];exact xLc hr
   by_cases h0:(inM q).1<0
   · obtain⟨t,ht⟩:∃t:Nat,(inM q).1= -(t:Int):=⟨(-(inM q).1).toNat,by omega⟩
     have e:drM (some q) (some r)=(some (cuM r 0 (mN m-t)),0):=by
      unfold drM;dsimp only
      rw[zY (fun h=>h he),zY hr,yA h0,←hnI,show(-(inM q).1).toNat=t by omega]
     rw[e];exact xTc h1 h2 hW hc hnn rfl hNb ht yEn yEn (xKc hf hr (xJ _) zQn hb)
   · obtain⟨t,ht⟩:∃t:Nat,(inM q).1=(t:Int):=⟨(inM q).1.toNat,by omega⟩
     have e:drM (some q) (some r)=(some (cuM r (min t (mN m)) (mN m)),0):=by
      unfold drM;dsimp only
      rw[zY (fun h=>h he),zY hr,zY h0,←hnI,show(inM q).1.toNat=t by omega]
     rw[e];exact xUc h1 h2 hW hc hnn rfl hNb ht yEn (xKc hf hr (xW1 _ _) zCn hb)
end Go.Proofs.YtcfbjdplhgdpfaaGreatDoor

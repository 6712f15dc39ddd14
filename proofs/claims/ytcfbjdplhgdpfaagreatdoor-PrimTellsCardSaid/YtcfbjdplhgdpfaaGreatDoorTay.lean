import Derived.Test.YtcfbjdplhgdpfaaGreatDoorTax
set_option maxHeartbeats 3200000
set_option maxRecDepth 100000
namespace Go.Proofs.YtcfbjdplhgdpfaaGreatDoor
set_option linter.unusedVariables false
set_option linter.unusedSimpArgs false
theorem zEn {P:Prop}(h:P:=by have:=h1.n3;omega):P:=h
theorem yLm {P:Prop}(h:P:=by simp[results,Tryz.results50,go_sem,r0,r1]):P:=h
theorem yKm {P:Prop}(h:P:=by simp[results,Tryz.results49,go_sem,r0,r1]):P:=h
theorem yJm {P:Prop}(h:P:=by simp[results,Tryz.results48,go_sem,r0,r1]):P:=h
theorem yIm {P:Prop}(h:P:=by simp[results,Tryz.results47,go_sem,r0,r1]):P:=h
theorem yHm {P:Prop}(h:P:=by simp[results,Tryz.results46,go_sem,r0,r1]):P:=h
abbrev yS:=@Option.getD_some
section
open Go.RowKit
theorem xVf {P:World→Prop} {w w':World} (h:Lv P w) (hb:Below w.heap.size w w')
 (hs:Stb P:=by repeat' (first|exact Stb.bel _|exact Stb.bx|exact Stb.vl|refine Stb.and ?_ ?_|exact Stb.triv)):Lv P w':=⟨hs _ _ h.out hb⟩
theorem xWf {a1 b1:Option Addr} {n1 c1 m1 d1:Nat} {l:List Int} {es:List ByteArray} {W:World} (h1:Av W a1 n1 c1 b1 m1 d1 l es none):
 Calls Tryz.prog 46 #[.agg #[.slice a1 n1 c1,.slice b1 m1 d1]] W (xL3 (none,1) W):=by
 have KV:=zC (fun w (hb:Below W.heap.size W w)=>yTc (h1.below hb));clear h1;have h:=xO3 W a1 n1 c1 b1 m1 d1;go_in;have x1:=h.out.2.1.c0;have y1:=h.out.2.1.c1;go_wp2_with fail
 with_reducible refine(yMf h (KV.out _ h.out.2.2)).mono ?_
 clear h x1 y1;rintro e w ⟨rfl,h⟩;have y0:=h.out.1.c0;have y3:=h.out.1.c1;have f0:=h.out.1.f 0;have f1:=h.out.1.f 1;go_wp2_with fail;have hR:=h.out.1.set none 0 0 none 0 0;have r0:=hR.c0;have r1:=hR.c1;exact zE (v:=.tuple #[.agg #[.slice none 0 0,.slice none 0 0],.int .i64 1]) yHm rfl (xN3 h.out.1 h.out.2.2 yEn)
theorem xXf {a1 b1:Option Addr} {n1 c1 m1 d1:Nat} {l:List Int} {es:List ByteArray} {W:World} {q:Ar} (h1:Av W a1 n1 c1 b1 m1 d1 l es (some q)) (hW:WT W) (he:(inM q).2≠0):
 Calls Tryz.prog 46 #[.agg #[.slice a1 n1 c1,.slice b1 m1 d1]] W (xL3 (none,(inM q).2) W):=by
 have KV:=zC (fun w (hb:Below W.heap.size W w)=>yTc (h1.below hb));have KI:=zC (fun w (hb:Below W.heap.size W w)=>yHb (h1.below hb) (hW.below hb));clear h1 hW;generalize (inM q).1=x at*;generalize (inM q).2=k at*;have hk:(k != 0)=true:=by simpa using he
 have h:=xO3 W a1 n1 c1 b1 m1 d1;go_in;have x1:=h.out.2.1.c0;have y1:=h.out.2.1.c1;go_wp2_with fail
 with_reducible refine(yMf h (KV.out _ h.out.2.2)).mono ?_
 clear h x1 y1;rintro e w ⟨rfl,h⟩;have x1:=h.out.2.1.c0;have y1:=h.out.2.1.c1;go_wp2_with fail
 with_reducible refine(yMf h (KI.out _ h.out.2.2)).mono ?_
 clear h x1 y1;rintro e w ⟨rfl,h⟩;have y0:=h.out.1.c0;have y3:=h.out.1.c1;have f0:=h.out.1.f 0;have f1:=h.out.1.f 1;go_wp2_with fail;have hR:=h.out.1.set none 0 0 none 0 0;have r0:=hR.c0;have r1:=hR.c1;exact zE (v:=.tuple #[.agg #[.slice none 0 0,.slice none 0 0],.int .i64 k]) yHm rfl (xN3 h.out.1 h.out.2.2 yEn)
theorem xYf {a1 b1:Option Addr} {n1 c1 m1 d1:Nat} {l:List Int} {es:List ByteArray} {W:World} {q:Ar} (h1:Av W a1 n1 c1 b1 m1 d1 l es (some q)) (hW:WT W) (he:(inM q).2=0) (hx:(inM q).1<0):
 Calls Tryz.prog 46 #[.agg #[.slice a1 n1 c1,.slice b1 m1 d1]] W (xL3 (none,5) W):=by
 have KV:=zC (fun w (hb:Below W.heap.size W w)=>yTc (h1.below hb));have KI:=zC (fun w (hb:Below W.heap.size W w)=>yHb (h1.below hb) (hW.below hb));rw[he]at KI;clear h1 hW he;generalize (inM q).1=x at*;have h:=xO3 W a1 n1 c1 b1 m1 d1;go_in;have x1:=h.out.2.1.c0;have y1:=h.out.2.1.c1;go_wp2_with fail
 with_reducible refine(yMf h (KV.out _ h.out.2.2)).mono ?_
 clear h x1 y1;rintro e w ⟨rfl,h⟩;have x1:=h.out.2.1.c0;have y1:=h.out.2.1.c1;go_wp2_with fail
 with_reducible refine(yMf h (KI.out _ h.out.2.2)).mono ?_
 clear h x1 y1;rintro e w ⟨rfl,h⟩;have y0:=h.out.1.c0;have y3:=h.out.1.c1;have f0:=h.out.1.f 0;have f1:=h.out.1.f 1;go_wp2_with fail;have hR:=h.out.1.set none 0 0 none 0 0;have r0:=hR.c0;have r1:=hR.c1;exact zE (v:=.tuple #[.agg #[.slice none 0 0,.slice none 0 0],.int .i64 5]) yHm rfl (xN3 h.out.1 h.out.2.2 yEn)
theorem xZf {a1 b1:Option Addr} {n1 c1 m1 d1:Nat} {l:List Int} {es:List ByteArray} {W:World} {q:Ar} (h1:Av W a1 n1 c1 b1 m1 d1 l es (some q)) (hW:WT W) (he:(inM q).2=0) (hx:4096<(inM q).1):
 Calls Tryz.prog 46 #[.agg #[.slice a1 n1 c1,.slice b1 m1 d1]] W (xL3 (none,8) W):=by
 have KV:=zC (fun w (hb:Below W.heap.size W w)=>yTc (h1.below hb));have KI:=zC (fun w (hb:Below W.heap.size W w)=>yHb (h1.below hb) (hW.below hb));rw[he]at KI;clear h1 hW he;generalize (inM q).1=x at*;have h0:¬(x<0):=by omega
 have h:=xO3 W a1 n1 c1 b1 m1 d1;go_in;have x1:=h.out.2.1.c0;have y1:=h.out.2.1.c1;go_wp2_with fail
 with_reducible refine(yMf h (KV.out _ h.out.2.2)).mono ?_
 clear h x1 y1;rintro e w ⟨rfl,h⟩;have x1:=h.out.2.1.c0;have y1:=h.out.2.1.c1;go_wp2_with fail
 with_reducible refine(yMf h (KI.out _ h.out.2.2)).mono ?_
 clear h x1 y1;rintro e w ⟨rfl,h⟩;have y0:=h.out.1.c0;have y3:=h.out.1.c1;have f0:=h.out.1.f 0;have f1:=h.out.1.f 1;go_wp2_with fail;have hR:=h.out.1.set none 0 0 none 0 0;have r0:=hR.c0;have r1:=hR.c1;exact zE (v:=.tuple #[.agg #[.slice none 0 0,.slice none 0 0],.int .i64 8]) yHm rfl (xN3 h.out.1 h.out.2.2 yEn)
theorem zAg (t:Nat):(upM t).length=t:=by simp[upM]
theorem zBg {t j:Nat} (h:j<t):(upM t).getD j 0=(j:Int):=by simp[upM,yJ,xT0 h]
theorem zCg (k:Nat):yS9 (upM (k+1))=yS9 (upM k)++yS9 [(k:Int)]:=by simp[upM,yS9,zO]
theorem zDg {t:Nat} {xs:List Int} (ht:t≤4096) (hl:xs.length=t) (hb:∀x∈xs,x.natAbs<lim):Rok (some ([(t:Int)],xs)):=by
 refine⟨yE9.2 ⟨by simp,fun j hj=> ?_,fun j hj=> ?_,?_⟩,by show(xs.length:Int)=(t:Int)*1;omega,hb⟩
 · obtain rfl:j=0:=by simpa using hj
   show(0:Int)≤(t:Int);omega
 · obtain rfl:j=0:=by simpa using hj
   show(t:Int)≤1099511627776;omega
 · show(t:Int)*1≤4096;omega
theorem zEg {x:Int} (h:x.natAbs<10000000000000000000000):x.natAbs<lim:=yF h xBk
theorem zFg {t:Nat} (h:t≤4096):Rok (some ([(t:Int)],upM t)):=zDg h (zAg t) fun x hx=>by
 obtain⟨j,hj,rfl⟩:=xY0.1 hx;have:=zU0.1 hj;exact zEg yEn
theorem zGg {a1 b1:Option Addr} {n1 c1 m1 d1:Nat} {l:List Int} {es:List ByteArray} {W:World} {q:Ar} {t:Nat} (h1:Av W a1 n1 c1 b1 m1 d1 l es (some q)) (hW:WT W) (he:inM q=((t:Int),0)) (ht:t≤4096):
 Calls Tryz.prog 46 #[.agg #[.slice a1 n1 c1,.slice b1 m1 d1]] W (xL3 (some ([(t:Int)],upM t),0) W):=by
 have KV:=zC (fun w (hb:Below W.heap.size W w)=>yTc (h1.below hb));have KI:=zC (fun w (hb:Below W.heap.size W w)=>yHb (h1.below hb) (hW.below hb));rw[he]at KI;have KN:=zC (fun w (hb:Below W.heap.size W w) a c (hs:Sl w a t (upM t))=>yXc a t c (upM t) w hs (fun j hj=>by rw[zBg hj];unfold I64;omega) yEn (hW.below hb));have HR:=zC (zFg ht);have hx0:¬((t:Int)<0):=by omega
 have hx1:¬((4096:Int)<(t:Int)):=by omega
 clear h1 hW he;have h:=xO3 W a1 n1 c1 b1 m1 d1;go_in;have x1:=h.out.2.1.c0;have y1:=h.out.2.1.c1;go_wp2_with fail
 with_reducible refine(yMf h (KV.out _ h.out.2.2)).mono ?_
 clear h x1 y1;rintro e w ⟨rfl,h⟩;have x1:=h.out.2.1.c0;have y1:=h.out.2.1.c1;go_wp2_with fail
 with_reducible refine(yMf h (KI.out _ h.out.2.2)).mono ?_
 clear h x1 y1;rintro e w ⟨rfl,h⟩;go_wp2_with fail;go_loopw [6,31] (fun lv i wr=>∃k:Nat,i=.int .i64 k∧k≤t∧wr.ownsRow w.heap.size 3 1 lv k (yS9 (upM k))∧Below w.heap.size w wr) (fun _ i _=>t-(intOf i).toNat)
 case atStart=>exact⟨0,rfl,xJ _,zT _ _ _ _,zI _ _⟩
 case round=>
  obtain⟨k,rfl,hk,hown,hbq⟩:=hrel;by_cases hlt:k<t
  · have e2:(k:Int)<(t:Int):=by omega
    have ho2:=zC (hown.alloc (.cells #[.int .i64 (k:Int)] 3));have hr2:=zC (yGf (yKb wr (k:Int)));have hbs:=hbq.size;have HB:=zC hbq;clear hown hbq;go_wp2_with (at_builtin;refine yDf rfl (.tmp 34) (.tmp 36) 22 rfl w.heap.size 3 (.int .i64 0) 8 Tryz.underlying22 xB4 rfl yCn _ k (yS9 (upM k)) rfl ho2.out _ 1 1 (yS9 [(k:Int)]) rfl hr2.out (zUf _) yEn zZn ?_;intro av' cv' w3 hown3 hg3)
    have hb4:Below w.heap.size w w3:=(HB.out.alloc HB.out.size _).trans (yHf hg3 (fun g' hg'=>(ho2.out.lt g' hg').1) zZn);rw[←zCg]at hown3;clear hg3 ho2 hr2;go_wp2_with fail;go_roundw
    case rel=>exact⟨k+1,by go_num,by omega,hown3,hb4⟩
    case measure=>simp[intOf];omega
  · have e2:¬(k:Int)<(t:Int):=by omega
    obtain rfl:k=t:=by omega
    obtain⟨ae,ce,rfl⟩:=zWf hown;replace h:=xVf h hbq;have HS:=zC (zYf hown);clear hown hbq;have y0:=h.out.1.c0;have y3:=h.out.1.c1;have f0:=h.out.1.f 0;have f1:=h.out.1.f 1;go_wp2_with fail
    with_reducible refine(yWc h (KN.out _ h.out.2.2 _ _ HS.out)).mono ?_
    clear h y0 y3 f0 f1;rintro e w ⟨ar,nr,cr,br,mr,dr,rfl,h,hv,hc⟩;have y0:=h.out.1.c0;have y3:=h.out.1.c1;have f0:=h.out.1.f 0;have f1:=h.out.1.f 1;go_wp2_with fail;have hR:=h.out.1.set ar nr cr br mr dr;have r0:=hR.c0;have r1:=hR.c1;exact zE (v:=.tuple #[.agg #[.slice ar nr cr,.slice br mr dr],.int .i64 0]) yHm rfl (xM3 (r:=_) h.out.1 h.out.2.2 yEn hv hc HR.out)
theorem zHg {a1 b1:Option Addr} {n1 c1 m1 d1:Nat} {l:List Int} {es:List ByteArray} {W:World} {o:Option Ar} (h1:Av W a1 n1 c1 b1 m1 d1 l es o) (hW:WT W):Calls Tryz.prog 46 #[.agg #[.slice a1 n1 c1,.slice b1 m1 d1]] W (xL3 (ioM o) W):=by
 cases o with
 |none=>exact xWf h1
 |some q=>
  by_cases he:(inM q).2=0
  · by_cases h0:(inM q).1<0
    · have e:ioM (some q)=(none,5):=by unfold ioM;dsimp only;rw[zY (fun h=>h he),yA h0]
      rw[e];exact xYf h1 hW he h0
    · by_cases h4:4096<(inM q).1
      · have e:ioM (some q)=(none,8):=by unfold ioM;dsimp only;rw[zY (fun h=>h he),zY h0,yA h4]
        rw[e];exact xZf h1 hW he h4
      · obtain⟨t,ht⟩:∃t:Nat,(inM q).1=(t:Int):=⟨(inM q).1.toNat,by omega⟩
        have e:ioM (some q)=(some ([(t:Int)],upM t),0):=by
         unfold ioM;dsimp only;rw[zY (fun h=>h he),zY h0,zY h4,ht,yB]
        rw[e];exact zGg h1 hW (yC ht he) yEn
  · have e:ioM (some q)=(none,(inM q).2):=by unfold ioM;dsimp only;rw[yA he]
    rw[e];exact xXf h1 hW he
theorem zIg (n:Int) (h0: -9223372036854775808≤n) (h1:n≤9223372036854775807) (w:World) (htab:Tab w):Calls Tryz.prog 95 #[.int .i64 n] w fun e w'=>e=.returned (.string (S n))∧Below w.heap.size w w':=
 (Tryz.strconv_Itoa n h0 h1 w htab.is).mono fun e w' ⟨he,k,os,hw⟩=>⟨he,by rw[hw];exact Lib.below_grow _ w (zR _) k os⟩
theorem zJg {a1 b1:Option Addr} {n1 c1 m1 d1:Nat} {l:List Int} {es:List ByteArray} {W:World} (h1:Av W a1 n1 c1 b1 m1 d1 l es none):
 Calls Tryz.prog 47 #[.agg #[.slice a1 n1 c1,.slice b1 m1 d1]] W (xL3 (none,1) W):=by
 have KV:=zC (fun w (hb:Below W.heap.size W w)=>yTc (h1.below hb));clear h1;have h:=xO3 W a1 n1 c1 b1 m1 d1;go_in;have x1:=h.out.2.1.c0;have y1:=h.out.2.1.c1;go_wp2_with fail
 with_reducible refine(yMf h (KV.out _ h.out.2.2)).mono ?_
 clear h x1 y1;rintro e w ⟨rfl,h⟩;have y0:=h.out.1.c0;have y3:=h.out.1.c1;have f0:=h.out.1.f 0;have f1:=h.out.1.f 1;go_wp2_with fail;have hR:=h.out.1.set none 0 0 none 0 0;have r0:=hR.c0;have r1:=hR.c1;exact zE (v:=.tuple #[.agg #[.slice none 0 0,.slice none 0 0],.int .i64 1]) yIm rfl (xN3 h.out.1 h.out.2.2 yEn)
theorem zKg {a1 b1:Option Addr} {n1 c1 m1 d1:Nat} {l:List Int} {es:List ByteArray} {W:World} {q:Ar} (h1:Av W a1 n1 c1 b1 m1 d1 l es (some q)) (hW:WT W):
 Calls Tryz.prog 47 #[.agg #[.slice a1 n1 c1,.slice b1 m1 d1]] W (xL3 (some ([],[(mN l:Int)]),0) W):=by
 have KV:=zC (fun w (hb:Below W.heap.size W w)=>yTc (h1.below hb));have hb:=h1.items.2.2.1;have KM:=zC (fun w (hb:Below W.heap.size W w)=>zB4 (h1.below hb));have KT:=zC (fun w (hb:Below W.heap.size W w)=>zIg (mN l:Int) yEn yEn w (hW.below hb).tab);have KN:=zC (fun w=>yYc (S (mN l:Int)) w);have HR:Hid (Rok (some ([],[(mN l:Int)]))):=zC ⟨(by decide:szE []=0),(rfl:((1:Nat):Int)=pr []),fun x hx=>by
  rw[zM]at hx;exact yF (show x.natAbs<10000000000000000000000 by omega) xBk⟩
 clear h1 hW hb;generalize mN l=N at*;have h:=xO3 W a1 n1 c1 b1 m1 d1;go_in;have x1:=h.out.2.1.c0;have y1:=h.out.2.1.c1;go_wp2_with fail
 with_reducible refine(yMf h (KV.out _ h.out.2.2)).mono ?_
 clear h x1 y1;rintro e w ⟨rfl,h⟩;have x1:=h.out.2.1.c0;have y1:=h.out.2.1.c1;go_wp2_with fail
 with_reducible refine(yMf h (KM.out _ h.out.2.2)).mono ?_
 clear h x1 y1;rintro e w ⟨rfl,h⟩;go_wp2_with fail
 with_reducible refine(yMf h (KT.out _ h.out.2.2)).mono ?_
 clear h;rintro e w ⟨rfl,h⟩;have y0:=h.out.1.c0;have y3:=h.out.1.c1;have f0:=h.out.1.f 0;have f1:=h.out.1.f 1;go_wp2_with fail
 with_reducible refine(yWc h (KN.out _)).mono ?_
 clear h y0 y3 f0 f1;rintro e w ⟨ar,nr,cr,br,mr,dr,rfl,h,hv,hc⟩;have y0:=h.out.1.c0;have y3:=h.out.1.c1;have f0:=h.out.1.f 0;have f1:=h.out.1.f 1;go_wp2_with fail;have hR:=h.out.1.set ar nr cr br mr dr;have r0:=hR.c0;have r1:=hR.c1;exact zE (v:=.tuple #[.agg #[.slice ar nr cr,.slice br mr dr],.int .i64 0]) yIm rfl (xM3 (r:=_) h.out.1 h.out.2.2 yEn hv hc HR.out)
theorem zLg {a1 b1:Option Addr} {n1 c1 m1 d1:Nat} {l:List Int} {es:List ByteArray} {W:World} {o:Option Ar} (h1:Av W a1 n1 c1 b1 m1 d1 l es o) (hW:WT W):Calls Tryz.prog 47 #[.agg #[.slice a1 n1 c1,.slice b1 m1 d1]] W (xL3 (taM o) W):=by
 cases o with
 |none=>exact zJg h1
 |some q=>
  have e:taM (some q)=(some ([],[(mN l:Int)]),0):=by rw[h1.items.2.1,←h1.fst];rfl
  rw[e];exact zKg h1 hW
theorem zMg {a1 b1:Option Addr} {n1 c1 m1 d1:Nat} {l:List Int} {es:List ByteArray} {W:World} (h1:Av W a1 n1 c1 b1 m1 d1 l es none):
 Calls Tryz.prog 48 #[.agg #[.slice a1 n1 c1,.slice b1 m1 d1]] W (xL3 (none,1) W):=by
 have KV:=zC (fun w (hb:Below W.heap.size W w)=>yTc (h1.below hb));clear h1;have h:=xO3 W a1 n1 c1 b1 m1 d1;go_in;have x1:=h.out.2.1.c0;have y1:=h.out.2.1.c1;go_wp2_with fail
 with_reducible refine(yMf h (KV.out _ h.out.2.2)).mono ?_
 clear h x1 y1;rintro e w ⟨rfl,h⟩;have y0:=h.out.1.c0;have y3:=h.out.1.c1;have f0:=h.out.1.f 0;have f1:=h.out.1.f 1;go_wp2_with fail;have hR:=h.out.1.set none 0 0 none 0 0;have r0:=hR.c0;have r1:=hR.c1;exact zE (v:=.tuple #[.agg #[.slice none 0 0,.slice none 0 0],.int .i64 1]) yJm rfl (xN3 h.out.1 h.out.2.2 yEn)
theorem zNg {a1 b1:Option Addr} {n1 c1 m1 d1:Nat} {l:List Int} {es:List ByteArray} {W:World} {q:Ar} (h1:Av W a1 n1 c1 b1 m1 d1 l es (some q)) (hW:WT W):
 Calls Tryz.prog 48 #[.agg #[.slice a1 n1 c1,.slice b1 m1 d1]] W (xL3 (some ([(n1:Int)],l),0) W):=by
 have KV:=zC (fun w (hb:Below W.heap.size W w)=>yTc (h1.below hb));have hmay:=yE9.1 h1.sz;have hl:=h1.v.s.1;have KN:=zC (fun w (hb:Below W.heap.size W w)=>yXc a1 n1 c1 l w (h1.v.s.below hb) (fun j hj=>by have:=hmay.nn j yEn;have:=hmay.le j yEn;unfold I64;omega) zEn (hW.below hb));have HR:=zC (zDg (t:=n1) (xs:=l) zEn hl fun x hx=>by
  obtain⟨j,hj,rfl⟩:=yP hx;have e1:=hmay.nn j hj;have e2:=hmay.le j hj;rw[yJ,yM hj,yS]at e1 e2;exact zEg yEn)
 clear h1 hW hmay hl;have h:=xO3 W a1 n1 c1 b1 m1 d1;go_in;have x1:=h.out.2.1.c0;have y1:=h.out.2.1.c1;go_wp2_with fail
 with_reducible refine(yMf h (KV.out _ h.out.2.2)).mono ?_
 clear h x1 y1;rintro e w ⟨rfl,h⟩;have x1:=h.out.2.1.c0;have y1:=h.out.2.1.c1;have y0:=h.out.1.c0;have y3:=h.out.1.c1;have f0:=h.out.1.f 0;have f1:=h.out.1.f 1;go_wp2_with fail
 with_reducible refine(yWc h (KN.out _ h.out.2.2)).mono ?_
 clear h y0 y3 f0 f1 x1 y1;rintro e w ⟨ar,nr,cr,br,mr,dr,rfl,h,hv,hc⟩;have y0:=h.out.1.c0;have y3:=h.out.1.c1;have f0:=h.out.1.f 0;have f1:=h.out.1.f 1;go_wp2_with fail;have hR:=h.out.1.set ar nr cr br mr dr;have r0:=hR.c0;have r1:=hR.c1;exact zE (v:=.tuple #[.agg #[.slice ar nr cr,.slice br mr dr],.int .i64 0]) yJm rfl (xM3 (r:=_) h.out.1 h.out.2.2 yEn hv hc HR.out)
theorem zOg {a1 b1:Option Addr} {n1 c1 m1 d1:Nat} {l:List Int} {es:List ByteArray} {W:World} {o:Option Ar} (h1:Av W a1 n1 c1 b1 m1 d1 l es o) (hW:WT W):Calls Tryz.prog 48 #[.agg #[.slice a1 n1 c1,.slice b1 m1 d1]] W (xL3 (shM o) W):=by
 cases o with
 |none=>exact zMg h1
 |some q=>
  have e:shM (some q)=(some ([(n1:Int)],l),0):=by rw[←h1.fst,←h1.v.s.1,←h1.fst];rfl
  rw[e];exact zNg h1 hW
theorem zPg {a1 b1:Option Addr} {n1 c1 m1 d1:Nat} {l:List Int} {es:List ByteArray} {W:World} (h1:Av W a1 n1 c1 b1 m1 d1 l es none):
 Calls Tryz.prog 49 #[.agg #[.slice a1 n1 c1,.slice b1 m1 d1]] W (xL3 (none,1) W):=by
 have KV:=zC (fun w (hb:Below W.heap.size W w)=>yTc (h1.below hb));clear h1;have h:=xO3 W a1 n1 c1 b1 m1 d1;go_in;have x1:=h.out.2.1.c0;have y1:=h.out.2.1.c1;go_wp2_with fail
 with_reducible refine(yMf h (KV.out _ h.out.2.2)).mono ?_
 clear h x1 y1;rintro e w ⟨rfl,h⟩;have y0:=h.out.1.c0;have y3:=h.out.1.c1;have f0:=h.out.1.f 0;have f1:=h.out.1.f 1;go_wp2_with fail;have hR:=h.out.1.set none 0 0 none 0 0;have r0:=hR.c0;have r1:=hR.c1;exact zE (v:=.tuple #[.agg #[.slice none 0 0,.slice none 0 0],.int .i64 1]) yKm rfl (xN3 h.out.1 h.out.2.2 yEn)
theorem zQg {a1 b1:Option Addr} {n1 c1 m1 d1:Nat} {l:List Int} {es:List ByteArray} {W:World} {q:Ar} (h1:Av W a1 n1 c1 b1 m1 d1 l es (some q)):
 Calls Tryz.prog 49 #[.agg #[.slice a1 n1 c1,.slice b1 m1 d1]] W (xL3 (some ([(m1:Int)],q.2),0) W):=by
 have KV:=zC (fun w (hb:Below W.heap.size W w)=>yTc (h1.below hb));obtain⟨hm,hp,hm4⟩:=h1.mlen;have KN:=zC (fun w (hb:Below W.heap.size W w)=>yZc b1 m1 d1 es w (h1.v.t.below hb) yEn);have hes:=h1.i.2.1;have HR:=zC (zDg (t:=m1) (xs:=q.2) hm4 hm.symm h1.i.2.2.2);subst hes;clear h1 hm hp hm4;have h:=xO3 W a1 n1 c1 b1 m1 d1;go_in;have x1:=h.out.2.1.c0;have y1:=h.out.2.1.c1;go_wp2_with fail
 with_reducible refine(yMf h (KV.out _ h.out.2.2)).mono ?_
 clear h x1 y1;rintro e w ⟨rfl,h⟩;have x1:=h.out.2.1.c0;have y1:=h.out.2.1.c1;have y0:=h.out.1.c0;have y3:=h.out.1.c1;have f0:=h.out.1.f 0;have f1:=h.out.1.f 1;go_wp2_with fail
 with_reducible refine(yWc h (KN.out _ h.out.2.2)).mono ?_
 clear h y0 y3 f0 f1 x1 y1;rintro e w ⟨ar,nr,cr,br,mr,dr,rfl,h,hv,hc⟩;have y0:=h.out.1.c0;have y3:=h.out.1.c1;have f0:=h.out.1.f 0;have f1:=h.out.1.f 1;go_wp2_with fail;have hR:=h.out.1.set ar nr cr br mr dr;have r0:=hR.c0;have r1:=hR.c1;exact zE (v:=.tuple #[.agg #[.slice ar nr cr,.slice br mr dr],.int .i64 0]) yKm rfl (xM3 (r:=_) h.out.1 h.out.2.2 yEn hv hc HR.out)
theorem zRg {a1 b1:Option Addr} {n1 c1 m1 d1:Nat} {l:List Int} {es:List ByteArray} {W:World} {o:Option Ar} (h1:Av W a1 n1 c1 b1 m1 d1 l es o):Calls Tryz.prog 49 #[.agg #[.slice a1 n1 c1,.slice b1 m1 d1]] W (xL3 (raM o) W):=by
 cases o with
 |none=>exact zPg h1
 |some q=>
  have e:raM (some q)=(some ([(m1:Int)],q.2),0):=by rw[h1.mlen.1];rfl
  rw[e];exact zQg h1
end
section
open Go.RowKit
theorem zSg (l k:List ByteArray):zTf l++zTf k=zTf (l++k):=by unfold zTf;rw[zN]
theorem zTg {P:World→Prop} {w:World} {f:FuncId} {args:Array Value} {n:Nat} {l:List Int} (h:Lv P w) (hc:Calls Tryz.prog f args w (ClI n l w))
 (hs:Stb P:=by repeat' (first|exact Stb.bel _|exact Stb.bx|exact Stb.vl|refine Stb.and ?_ ?_|exact Stb.triv)):
 Calls Tryz.prog f args w fun e w'=>∃a c,e=.returned (.slice a n c)∧Lv P w'∧OwI w w' a n c l∧Below w.heap.size w w':=
 hc.mono fun _ _ ⟨a,c,h1,h2,h3⟩=>⟨a,c,h1,⟨hs _ _ h.out h3⟩,h2,h3⟩
section
variable {α:Type}
theorem zUg (k:Nat):∀l:List Nat,its ([]:List α) k l=[]
 |[]=>rfl
 |i::r=>by show _++its [] k r=[];rw[zUg k r];simp
def rvJ (es:List α) (k N j:Nat):List α:=its es k (List.range' j (N-j)).reverse
theorem zVg (es:List α) (k N:Nat):rvJ es k N N=[]:=by unfold rvJ;rw[Nat.sub_self];rfl
theorem zWg (es:List α) (k:Nat) {N i:Nat} (h:i<N):rvJ es k N i=rvJ es k N (i+1)++(es.drop (i*k)).take k:=by
 unfold rvJ;rw[show N-i=(N-(i+1))+1 by omega,List.range'_succ,List.reverse_cons,xY9];show _++((es.drop (i*k)).take k++its es k [])=_;rw[show its es k []=([]:List α)from rfl,xL]
theorem zXg {es:List α} {k N:Nat} (he:es.length=N*k) (j:Nat) (h:j≤N):(rvJ es k N j).length=(N-j)*k:=by
 unfold rvJ;rw[zAa he (fun i hi=>by have:=List.mem_range'_1.1 (List.mem_reverse.1 hi);omega),yY1,List.length_range']
theorem zYg (es:List α) (k N:Nat):rvJ es k N 0=zCa es k N:=by unfold rvJ zCa;rw[xE1,List.range_eq_range']
theorem zZg {l:List Int} {es:List α} (h:Fits l es):rvM l es=rvJ es (iS l es.length) (mN l) 0:=by
 rw[zYg];unfold rvM zCa;by_cases h0:es=[]
 · rw[yA (.inr h0),h0,zUg]
 · have hk:iS l es.length=kI l:=zY fun e=>h0 (yO0.1 e)
   rw[hk];by_cases hl:l=[]
   · subst hl
     rw[yA (.inl rfl)];have he:=h.all.1;have e1:es.length=1:=he;show es=(es.drop (0*1)).take 1++[];rw[xL,Nat.zero_mul,yS1,yW yEn]
   · rw[zY (fun g=>g.elim hl h0),xLc hl]
end
theorem yAg (es:List Int) (k:Nat):∀l:List Nat,its (es.map S) k l=(its es k l).map S
 |[]=>rfl
 |i::r=>by
  show _++its (es.map S) k r=(_++its es k r).map S;rw[yAg es k r,zN,List.map_take,List.map_drop]
theorem yBg (l xs:List Int):rvM l (xs.map S)=(rvM l xs).map S:=by
 unfold rvM;by_cases h:l=[]∨xs=[]
 · rw[yA h,yA (by rcases h with h|h;exact .inl h;exact .inr (by rw[h];rfl))]
 · rw[zY h,zY (by rintro(g|g);exact h (.inl g);exact h (.inr (List.map_eq_nil_iff.1 g)))]
   exact yAg _ _ _
theorem yCg {α:Type} {es:List α} {k:Nat}:∀{l:List Nat} {x:α},x∈its es k l→x∈es
 |[],_,h=>by cases h
 |i::r,x,h=>by
  rcases xF1.1 h with h|h
  · exact xG1 (xD h)
  · exact yCg h
theorem yDg {q:Ar} (h:Rok (some q)) (hf:Fits q.1 q.2):Rok (some (q.1,rvM q.1 q.2)):=by
 refine⟨h.1,by rw[show(q.1,rvM q.1 q.2).2=rvM q.1 q.2 from rfl,xXc hf];exact h.2.1,fun x hx=>h.2.2 x ?_⟩;have hx:x∈rvM q.1 q.2:=hx;unfold rvM at hx;split at hx
 · exact hx
 · exact yCg hx
theorem yEg {a1 b1:Option Addr} {n1 c1 m1 d1:Nat} {l:List Int} {es:List ByteArray} {W:World} (h1:Av W a1 n1 c1 b1 m1 d1 l es none):
 Calls Tryz.prog 50 #[.agg #[.slice a1 n1 c1,.slice b1 m1 d1]] W (xL3 (none,1) W):=by
 have KV:=zC (fun w (hb:Below W.heap.size W w)=>yTc (h1.below hb));clear h1;have h:=xO3 W a1 n1 c1 b1 m1 d1;go_in;have x1:=h.out.2.1.c0;have y1:=h.out.2.1.c1;go_wp2_with fail
 with_reducible refine(yMf h (KV.out _ h.out.2.2)).mono ?_
 clear h x1 y1;rintro e w ⟨rfl,h⟩;have y0:=h.out.1.c0;have y3:=h.out.1.c1;have f0:=h.out.1.f 0;have f1:=h.out.1.f 1;go_wp2_with fail;have hR:=h.out.1.set none 0 0 none 0 0;have r0:=hR.c0;have r1:=hR.c1;exact zE (v:=.tuple #[.agg #[.slice none 0 0,.slice none 0 0],.int .i64 1]) yLm rfl (xN3 h.out.1 h.out.2.2 yEn)
theorem yFg {a1 b1:Option Addr} {n1 c1 m1 d1:Nat} {l:List Int} {es:List ByteArray} {W:World} {q:Ar} (h1:Av W a1 n1 c1 b1 m1 d1 l es (some q)):
 Calls Tryz.prog 50 #[.agg #[.slice a1 n1 c1,.slice b1 m1 d1]] W (xL3 (some (q.1,rvM q.1 q.2),0) W):=by
 have KV:=zC (fun w (hb:Below W.heap.size W w)=>yTc (h1.below hb));obtain⟨i1,i2,i3,i4⟩:=h1.items;have hm4:=h1.mlen.2.2;have hmd:=h1.c.md;have hn3:=h1.n3;have hlen:=h1.v.t.1;have hR1:rvM q.1 es=rvJ es (iS l m1) (mN l) 0:=by
  have hf:=h1.fits;have e:Fits l es:=⟨by rw[←h1.fst];exact hf.1,by rw[hlen];exact h1.mlen.2.1⟩
  have e2:=zZg e;rw[hlen]at e2;rw[h1.fst];exact e2
 have hEs:(TS (some (q.1,rvM q.1 q.2))).2=rvJ es (iS l m1) (mN l) 0:=by
  rw[←hR1,h1.i.2.1];exact(yBg _ _).symm
 have hSh:(TS (some (q.1,rvM q.1 q.2))).1=l:=h1.fst;have KE:=zC (And.intro hEs hSh);have KS:=zC (fun w (hb:Below W.heap.size W w)=>zC4 (h1.below hb));have KC:=zC (fun w (hb:Below W.heap.size W w)=>xJ3 a1 n1 c1 l w (h1.v.s.below hb) yEn);have KT:=zC (fun w (hb:Below W.heap.size W w)=>(h1.v.t.below hb:St w b1 m1 es));have HR:=zC (yDg h1.i.rok h1.fits);generalize iS l m1=k at*;generalize mN l=N at*;have HI:=zC (And.intro i4 (zXg (es:=es) (k:=k) (N:=N) yEn));clear h1 hR1 hEs hSh i1 i2 i3 i4 hlen;have h:=xO3 W a1 n1 c1 b1 m1 d1;go_in;have x1:=h.out.2.1.c0;have y1:=h.out.2.1.c1;go_wp2_with fail
 with_reducible refine(yMf h (KV.out _ h.out.2.2)).mono ?_
 clear h x1 y1;rintro e w ⟨rfl,h⟩;have x1:=h.out.2.1.c0;have y1:=h.out.2.1.c1;go_wp2_with fail
 with_reducible refine(yMf h (KS.out _ h.out.2.2)).mono ?_
 clear h x1 y1;rintro e w ⟨rfl,h⟩;have x1:=h.out.2.1.c0;have y1:=h.out.2.1.c1;go_wp2_with fail;go_loopw [5,6] (fun ev i wr=>∃j:Nat,i=.int .i64 ((j*k:Nat):Int)∧j≤N∧wr.ownsRow w.heap.size 9 1 ev (rvJ es k N j).length (zTf (rvJ es k N j))∧Below w.heap.size w wr) (fun _ i _=>(intOf i).toNat)
 case atStart=>
  refine⟨N,by rw[←HI.out.1],zR _,?_,zI _ _⟩;rw[zVg];exact zT _ _ _ _
 case round=>
  obtain⟨j,rfl,hj,hown,hbq⟩:=hrel;clear x1 y1;have hr:=xVf h hbq;have x1:=hr.out.2.1.c0;have y1:=hr.out.2.1.c1;have hjm:j*k≤m1:=by have:=HI.out.1;have e:j*k≤N*k:=xE _ hj;omega
  by_cases hlt:0<j*k
  · obtain⟨i,rfl⟩:∃i,j=i+1:=⟨j-1,by have:j≠0:=(by rintro rfl;simp at hlt);omega⟩
    obtain⟨o2,h2⟩:∃o2,o2=(i+1)*k:=⟨_,rfl⟩
    obtain⟨o1,h1⟩:∃o1,o1=i*k:=⟨_,rfl⟩
    have e12:o2=o1+k:=by rw[h2,h1,xV,xY]
    have hst:=zWg es k (N:=N) (i:=i) yEn;have hbound:(N-i)*k≤m1:=by have:=HI.out.1;have e:(N-i)*k≤N*k:=xE _ yEn;omega
    have hl2:=HI.out.2 i yEn;rw[←h1]at hst;rw[←h2]at hlt hjm ⊢;have hk:o2-o1=k:=by omega
    have hk0:o1<o2:=by
     have:k≠0:=by rintro rfl;rw[h2,yQ2]at hlt;omega
     omega
    obtain⟨L,hL⟩:∃L,L=rvJ es k N (i+1):=⟨_,rfl⟩
    rw[←hL]at hst hown;replace hst:rvJ es k N i=L++(es.drop o1).take (o2-o1):=by rw[hk];exact hst
    have hes:=(KT.out wr hr.out.2.2).1;have hLn:(rvJ es k N i).length=L.length+(o2-o1):=by
     rw[hst,zC0,xP,xB0,hes];omega
    have hlL:L.length+(o2-o1)≤4096:=by omega
    have e0:(0:Int)<(o2:Int):=by omega
    have hw:IntKind.i64.wrap ((o2:Int)-(k:Int))=(o1:Int):=by rw[show(o2:Int)-(k:Int)=(o1:Int)by omega];exact xJ0 _ yEn
    have KQ:=zC (fun z=>xZ3 b1 m1 d1 o1 o2 z yEn yEn);have hr2:=zC ((KT.out wr hr.out.2.2).cut (f:=o1) (t:=o2) yEn hjm).rd;have ho2:=zC hown;have HS:=zC (And.intro hst (And.intro h1 (And.intro h2 hLn)));have hbs:=hbq.size;clear hown h1 h2 hst hl2 hL hLn hbound hk e12 hes;go_wp2_with fail;refine(KQ.out _).mono ?_;rintro e w2 ⟨rfl,rfl⟩;go_wp2_with (at_builtin;refine yDf rfl (.tmp 21) (.tmp 28) 23 rfl w.heap.size 9 (.string ⟨#[]⟩) 16 Tryz.underlying23 xC4 rfl yCn _ L.length (zTf L) rfl ho2.out _ (o2-o1) (o2-o1) (zTf ((es.drop o1).take (o2-o1))) rfl hr2.out (zVf _) yEn hbs ?_;intro av' cv' w3 hown3 hg3)
    have hb4:Below w.heap.size w w3:=hbq.trans (yHf hg3 (fun g' hg'=>(ho2.out.lt g' hg').1) hbs);have hown4:w3.ownsRow w.heap.size 9 1 (.slice av' (L.length+(o2-o1)) cv') (rvJ es k N i).length (zTf (rvJ es k N i)):=by
     rw[HS.out.2.2.2,HS.out.1,←zSg];exact hown3
    clear hown3 ho2 hr2 hg3 x1 y1 hr;go_wp2_with fail;go_roundw
    case rel=>exact⟨i,by rw[←HS.out.2.1],by omega,hown4,hb4⟩
    case measure=>simp[intOf];omega
  · have hz:j*k=0:=by omega
    have hrv:rvJ es k N j=rvJ es k N 0:=by
     rcases Nat.mul_eq_zero.1 hz with h0|h0
     · rw[h0]
     · rw[yR1 ((HI.out.2 j hj).trans (by rw[h0,yQ2])),yR1 ((HI.out.2 0 (xJ _)).trans (by rw[h0,yQ2]))]
    rw[hrv]at hown;rw[hz];replace h:=hr;obtain⟨R,hRR⟩:∃R,R=rvJ es k N 0:=⟨_,rfl⟩
    have hlR:R.length≤4096:=by rw[hRR,HI.out.2 0 (xJ _),xE1,←HI.out.1];exact hm4
    rw[←hRR]at hown;have HRR:=zC (And.intro hRR hlR);obtain⟨ae,ce,rfl⟩:=zWf hown;have HO:=zC hown;clear hRR hlR hrv hz hown hbq hr hlt hjm;go_wp2_with fail;refine(zTg h (KC.out _ h.out.2.2)).mono ?_;clear h x1 y1;rintro e w5 ⟨aa,ca,rfl,h,ho,hb⟩;have HO5:=zC (zLe HO.out hb);have HC:=zC ho;clear ho hb HO;have y0:=h.out.1.c0;have y3:=h.out.1.c1;have f0:=h.out.1.f 0;have f1:=h.out.1.f 1;go_wp2_with fail;have hV:Vl w5 aa n1 ae R.length (TS (some (q.1,rvM q.1 q.2))).1 (TS (some (q.1,rvM q.1 q.2))).2:=by
     rw[KE.out.1,KE.out.2,←HRR.out.1];exact⟨HC.out.sl,zZf HO5.out,by have:=HRR.out.2;omega⟩
    have hR:=h.out.1.set aa n1 ca ae R.length ce;have r0:=hR.c0;have r1:=hR.c1;exact zE (v:=.tuple #[.agg #[.slice aa n1 ca,.slice ae R.length ce],.int .i64 0]) yLm rfl (xM3 (r:=_) h.out.1 h.out.2.2 yEn hV ⟨HC.out.caps.1,HC.out.caps.2,(xE8 HO5.out).1,(xE8 HO5.out).2⟩ HR.out)
end
end Go.Proofs.YtcfbjdplhgdpfaaGreatDoor

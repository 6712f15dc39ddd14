import Derived.Test.YtcfbjdplhgdpfaaGreatDoorTbd
set_option maxHeartbeats 1600000
set_option maxRecDepth 10000
namespace Go.Proofs.YtcfbjdplhgdpfaaGreatDoor
set_option linter.unusedVariables false
set_option linter.unusedSimpArgs false
theorem xPm {P:Prop}(h:P:=by rw[HL.out];exact zR _):P:=h
abbrev yH:=@List.take_add_one
open Go.RowKit
theorem zM4 {W:World} {a b:Option Addr} {n c m d:Nat} {l:List Int} {es:List ByteArray} {o:Option Ar} (h:Av W a n c b m d l es o):Calls Tryz.prog 58 #[.agg #[.slice a n c,.slice b m d]] W (yX4 o.isSome W):=by
 have e:=zKk (c:=c) (d:=d) W h.v h.z;rwa [h.i.may]at e
theorem zN4 {x:Int} (hx:I64 x) (W:World):Calls Tryz.prog 61 #[.int .i64 x] W fun e w'=>e=.returned (.string (S x))∧Below W.heap.size W w':=by
 have K:=zC (yQi hx W);clear hx;go_in;go_wp2_with fail;refine K.out.mono ?_;rintro x w1 ⟨rfl,hb⟩;go_wp2_with fail;go_ret;exact⟨rfl,hb⟩
theorem zO4 (s:ByteArray) (x:Int) (W:World) (hi:yRi s x true) (hf:zWd x=true):Calls Tryz.prog 115 #[.string s] W (zLf x 0 W):=by
 obtain⟨h0,h1⟩:=zXd.1 hf;have c1:¬x< -1099511627776:=by omega
 have c2:¬1099511627776<x:=by omega
 have K:=zC (hi W);clear hi hf h0 h1;go_in;go_wp2_with fail;refine K.out.mono ?_;rintro x w1 ⟨rfl,hb⟩;go_wp2_with fail;go_ret2;exact⟨rfl,hb⟩
theorem zP4 (s:ByteArray) (x:Int) (v:Bool) (W:World) (hi:yRi s x v) (hf:v=false∨zWd x=false):Calls Tryz.prog 115 #[.string s] W (zLf 0 5 W):=by
 have K:=zC (hi W);clear hi;rcases xN0 v with rfl|rfl
 · have hf:zWd x=false:=by rcases hf with h|h;cases h;exact h
   have hc:x< -1099511627776∨1099511627776<x:=by
    rw[←xP0,zXd]at hf;omega
   clear hf;by_cases c1:x< -1099511627776
   · have c2:¬1099511627776<x:=by omega
     clear hc;go_in;go_wp2_with fail;refine K.out.mono ?_;rintro x w1 ⟨rfl,hb⟩;go_wp2_with fail;go_ret2;exact⟨rfl,hb⟩
   · have c2:1099511627776<x:=by omega
     clear hc;go_in;go_wp2_with fail;refine K.out.mono ?_;rintro x w1 ⟨rfl,hb⟩;go_wp2_with fail;go_ret2;exact⟨rfl,hb⟩
 · clear hf
   go_in;go_wp2_with fail;refine K.out.mono ?_;rintro x w1 ⟨rfl,hb⟩;go_wp2_with fail;go_ret2;exact⟨rfl,hb⟩
theorem zQ4 {x:Int} (hl:x.natAbs<lim) (W:World):Calls Tryz.prog 115 #[.string (S x)] W (zLf (if zWd x then x else 0) (if zWd x then 0 else 5) W):=by
 have hi:=xDi (s:=S x) (o:=some x) ⟨rfl,hl⟩;unfold xW4 at hi;dsimp only at hi
 cases hf:zWd x
 · by_cases h:I64 x
   · rw[yA h]at hi
     exact zP4 (S x) _ _ W hi (.inr hf)
   · rw[zY h]at hi
     exact zP4 (S x) _ _ W hi (.inl rfl)
 · have h:=zXd.1 hf
   rw[yA (show I64 x by unfold I64;omega)]at hi;exact zO4 (S x) x W hi hf
theorem zR4 {a b:Option Addr} {n c m d:Nat} (W:World) (hb:n≠0∨m≠1):Calls Tryz.prog 60 #[.agg #[.slice a n c,.slice b m d]] W (zLf 0 3 W):=by
 have hb0:Below W.heap.size W (W.alloc (.cells #[.slice a n c,.slice b m d] 25)):=(zI _ _).alloc (zR _) _;by_cases h0:n=0
 · subst h0
   have h1:(m:Int)≠1:=by omega
   clear hb;go_in;go_wp2_with fail;go_ret2;exact⟨rfl,hb0⟩
 · have h1:(0:Int)<(n:Int):=by omega
   clear hb h0;go_in;go_wp2_with fail;go_ret2;exact⟨rfl,hb0⟩
theorem zS4 (a:Option Addr) (c g off d:Nat) (s:ByteArray) (x e:Int) (W:World) (hc:W.cell? ⟨g,off,none⟩=some (.string s)) (hn:∀w,Below W.heap.size W w→Calls Tryz.prog 115 #[.string s] w (zLf x e w)):
 Calls Tryz.prog 60 #[.agg #[.slice a 0 c,.slice (some ⟨g,off,none⟩) 1 d]] W (zLf x e W):=by
 have K:=zC hn;clear hn;have hb0:Below W.heap.size W (W.alloc (.cells #[.slice a 0 c,.slice (some ⟨g,off,none⟩) 1 d] 25)):=(zI _ _).alloc (zR _) _;have hc1:=(hb0.cell (p:=⟨g,off,none⟩) (yU W _ hc)).trans hc;go_in;go_wp2_with fail;refine(K.out _ hb0).mono ?_;rintro x w1 ⟨rfl,hb⟩;go_wp2_with fail;go_ret2;exact⟨rfl,hb0.trans (hb.mono hb0.size)⟩
section
variable {W:World} {a b:Option Addr} {n c m d:Nat} {l:List Int} {es:List ByteArray} {q:Ar}
theorem zT4 (h:Av W a n c b m d l es (some q)):Calls Tryz.prog 60 #[.agg #[.slice a n c,.slice b m d]] W (zLf (inM q).1 (inM q).2 W):=by
 have hl:=h.v.s.1;have hq:=h.fst;have hm:=h.mlen.1;by_cases hb:n=0∧m=1
 · obtain⟨rfl,rfl⟩:=hb
   obtain⟨q1,q2⟩:=q;simp only at hq hm;obtain rfl:q1=[]:=by rw[hq];exact yO0.1 hl
   obtain⟨x,rfl⟩:=xQ0.1 hm.symm;have hx:=h.i.2.2.2 x yHn;have he:es=[S x]:=h.i.2.1;subst he;obtain⟨g,off,rfl,hc⟩:=h.v.t.2 yEn;have e:inM ([],[x])=(if zWd x then x else 0,if zWd x then 0 else 5):=by
    unfold inM;rw[zY yHn];show(if zWd x=true then(x,(0:Int))else(0,5))=_;split<;>rfl
   rw[e];exact zS4 a c g off d (S x) _ _ W (hc 0 yEn) fun w hw=>zQ4 hx w
 · have e:inM q=(0,3):=by
    unfold inM;rw[yA];rcases yL0 n with h0|h0
    · exact .inr yEn
    · refine .inl fun e=> ?_
      rw[hq]at e;rw[e]at hl;simp at hl
      omega
   rw[e];exact zR4 W yEn
end
def zU4 (f:Int) (k:Nat):List Int:=(List.range k).map fun i:Nat=>f+(i:Int)
theorem zV4 (f:Int) (k:Nat):yS9 (zU4 f (k+1))=yS9 (zU4 f k)++[.int .i64 (f+(k:Int))]:=by simp[zU4,yS9,zO]
theorem zW4 (f:Int) (N:Nat) (hN:N≤1000000) (hf: -1099511627776≤f) (hf2:f≤1099511627776) {t:Int} (ht:t=f+(N:Int)) (W:World):
 Calls Tryz.prog 127 #[.int .i64 f,.int .i64 t] W (ClI N (zU4 f N) W):=by
 have HT:=zC ht;clear ht;go_in;go_wp2_with fail;go_loopw [5,6] (fun lv i wr=>∃k:Nat,i=.int .i64 (f+(k:Int))∧k≤N∧wr.ownsRow W.heap.size 3 1 lv k (yS9 (zU4 f k))∧Below W.heap.size W wr) (fun _ i _=>(t-intOf i).toNat)
 case atStart=>exact⟨0,by simp,xJ _,zT _ _ _ _,zI _ _⟩
 case round=>
  obtain⟨k,rfl,hk,hown,hbq⟩:=hrel;by_cases hlt:k<N
  · have e2:f+(k:Int)<t:=by have:=HT.out;omega
    have ho2:=zC (hown.alloc (.cells #[.int .i64 (f+(k:Int))] 3));have hs1:=zC (zV4 f k);have hnx:=zC (show wrap64 (f+(k:Int)+1)=f+((k+1:Nat):Int)by rw[show f+((k+1:Nat):Int)=f+(k:Int)+1 by omega];exact w64 yEn yEn);have hbs:=hbq.size;have HB:=zC hbq;obtain⟨x,hx⟩:∃x,x=f+(k:Int):=⟨_,rfl⟩
    rw[←hx]at e2 ho2 hs1 hnx ⊢;have HX:=zC hx;clear hown hbq hx;obtain⟨i0,hi0,hz0,hz1,hz2⟩:=zF xLh;go_wp2_with (at_builtin;refine yJ0 _ rfl _ _ 22 rfl W.heap.size 3 i0 (.int .i64 0) 1 8 Tryz.underlying22 hi0 hz0 hz1 hz2 rfl yCn _ _ _ rfl ho2.out ⟨wr.heap.size,0,none⟩ 1 1 [.int .i64 x] rfl rfl (yK0 _ _ _) xSm xXm yEn zZn ?_;intro av' w3 hown3 hg3 _)
    have hb4:Below W.heap.size W w3:=(HB.out.alloc HB.out.size _).trans (yHf hg3 (fun g' hg'=>(ho2.out.lt g' hg').1) zZn);rw[←hs1.out]at hown3;clear hg3 ho2 hs1;have hnx':=hnx.out;go_wp2_with fail;go_roundw
    case rel=>exact⟨k+1,by rw[hnx.out],by omega,hown3,hb4⟩
    case measure=>simp[intOf];have:=HX.out;rw[hnx'];omega
  · have e2:¬f+(k:Int)<t:=by have:=HT.out;omega
    obtain rfl:k=N:=by omega
    obtain⟨ae,ce,rfl⟩:=zWf hown;have HO:=zC hown;clear hown;go_wp2_with fail;go_ret;exact⟨ae,ce,rfl,HO.out,hbq⟩
def zX4 (l:List Int) (k:Nat):List Int:=(List.range k).map fun i:Nat=>l.getD (l.length-1-i) 0
theorem zY4 (l:List Int) (k:Nat):yS9 (zX4 l (k+1))=yS9 (zX4 l k)++[.int .i64 (l.getD (l.length-1-k) 0)]:=by simp[zX4,yS9,zO]
theorem zZ4 (l:List Int):zX4 l l.length=l.reverse:=by
 apply zV0;intro j;by_cases hj:j<l.length
 · rw[zX4,xS0,xT0 hj,xU0 hj,Option.map_some,yJ,yM (show l.length-1-j<l.length by omega)]
   rfl
 · rw[yW0 (by simp[zX4];omega),yW0 zZn]
theorem yA4 (a:Option Addr) (N c:Nat) (l:List Int) (W:World) (h:Sl W a N l) (hN:N≤1000000):
 Calls Tryz.prog 64 #[.slice a N c] W (ClI N l.reverse W):=by
 have hl:=h.1;have HS:=zC h;have HA:=zC (zZ4 l);have hw0:IntKind.i64.wrap ((N:Int)-1)=(N:Int)-1:=xJ0 _ yEn;rw[hl]at HA;clear h;go_in;go_wp2_with fail;go_loopw [3,4] (fun lv i wr=>∃k:Nat,i=.int .i64 ((N:Int)-1-(k:Int))∧k≤N∧wr.ownsRow W.heap.size 3 1 lv k (yS9 (zX4 l k))∧Below W.heap.size W wr) (fun _ i _=>(intOf i+1).toNat)
 case atStart=>exact⟨0,by first|(simp;done)|(simp[hw0]),xJ _,zT _ _ _ _,zI _ _⟩
 case round=>
  obtain⟨k,rfl,hk,hown,hbq⟩:=hrel;by_cases hlt:k<N
  · have ho2:=zC (hown.alloc (.cells #[.int .i64 (l.getD (N-1-k) 0)] 3))
    have hs1:=zC (zY4 l k);rw[hl]at hs1;obtain⟨bb,off,rfl,hc⟩:=HS.out.2 yEn;have hck:=(hbq.cell (p:=⟨bb,off+(N-1-k),none⟩) (yU W _ (hc (N-1-k) yEn))).trans (hc (N-1-k) yEn);obtain⟨p,hp⟩:∃p,p=N-1-k:=⟨_,rfl⟩
    rw[←hp]at hck ho2 hs1;have hpp:(N:Int)-1-(k:Int)=(p:Int):=by omega
    have hpN:p<N:=by omega
    have hnx:=zC (show wrap64 ((p:Int)-1)=(N:Int)-1-((k+1:Nat):Int)by rw[show(N:Int)-1-((k+1:Nat):Int)=(p:Int)-1 by omega];exact w64 yEn yEn);rw[hpp];have e2:(0:Int)≤(p:Int):=by omega
    obtain⟨x,hx⟩:∃x,x=l.getD p 0:=⟨_,rfl⟩
    rw[←hx]at hck ho2 hs1;have hbs:=hbq.size;have HB:=zC hbq;have HP:=zC hpp;clear hown hbq hx hc hp hpp;obtain⟨i0,hi0,hz0,hz1,hz2⟩:=zF xLh;go_wp2_with (at_builtin;refine yJ0 _ rfl _ _ 22 rfl W.heap.size 3 i0 (.int .i64 0) 1 8 Tryz.underlying22 hi0 hz0 hz1 hz2 rfl yCn _ _ _ rfl ho2.out ⟨wr.heap.size,0,none⟩ 1 1 [.int .i64 x] rfl rfl (yK0 _ _ _) xSm xXm yEn zZn ?_;intro av' w3 hown3 hg3 _)
    have hb4:Below W.heap.size W w3:=(HB.out.alloc HB.out.size _).trans (yHf hg3 (fun g' hg'=>(ho2.out.lt g' hg').1) zZn);rw[←hs1.out]at hown3;clear hg3 ho2 hs1;go_wp2_with fail;go_roundw
    case rel=>exact⟨k+1,zH0 (Value.int .i64) (by have:=HP.out;omega),by omega,hown3,hb4⟩
    case measure=>simp[intOf]
  · obtain rfl:k=N:=by omega
    have e2:¬(0:Int)≤(k:Int)-1-(k:Int):=by omega
    obtain⟨ae,ce,rfl⟩:=zWf hown;rw[HA.out]at hown;have HO:=zC hown;clear hown;go_wp2_with fail;go_ret;exact⟨ae,ce,rfl,HO.out,hbq⟩
theorem yB4 {l:List Int} {k:Nat} (hk:k<l.length):yS9 (l.take (k+1))=yS9 (l.take k)++[.int .i64 (l.getD k 0)]:=by
 have e:l.take (k+1)=l.take k++[l.getD k 0]:=by
  rw[yH,yJ,yM hk];rfl
 rw[e];simp[yS9]
theorem yC4 {a b:Option Addr} {k c n d:Nat} {s l:List Int} (W:World) (h:Vl W a k b n s (l.map S)) (hl:∀x∈l,x.natAbs<lim) (hn:n≤1000000):
 Calls Tryz.prog 69 #[.agg #[.slice a k c,.slice b n d]] W (AlO l W):=by
 have hll:l.length=n:=by have:=h.t.1;rwa [zD0]at this
 have HL:=zC hll;have HT:=zC h.t;have HI:=zC (fun j (hj:j<n)=>hl (l.getD j 0) (by
  rw[yJ,yM yEn];exact xH _))
 clear h hl hll;go_in;have hA:=Bx.new W a k c b n d;have hb0:Below W.heap.size W (W.alloc (.cells #[.slice a k c,.slice b n d] 25)):=(zI _ _).alloc (zR _) _;go_wp2_with fail;go_loopw [4,5] (fun lv i wr=>∃q:Nat,i=.int .i64 (q:Int)∧q≤n∧Bx wr W.heap.size a k c b n d∧wr.ownsRow (W.heap.size+1) 3 1 lv q (yS9 (l.take q))∧Hid (∀j,j<q→zWd (l.getD j 0)=true)∧Below W.heap.size W wr) (fun _ i _=>n-(intOf i).toNat)
 case atStart=>exact⟨0,rfl,xJ _,hA,zT _ _ _ _,zC (fun j hj=>by omega),hb0⟩
 case round=>
  obtain⟨q,rfl,hq,hA1,hown,HF,hb1⟩:=hrel;clear hA hb0;have x1:=hA1.c1;by_cases hlt:q<n
  · have e2:(q:Int)<(n:Int):=by omega
    obtain⟨bb,off,rfl,hc⟩:=HT.out.2 yEn;have hck:=(hb1.cell (p:=⟨bb,off+q,none⟩) (yU W _ (hc q hlt))).trans (hc q hlt);rw[zYb l xTm]at hck;have hs1:=zC (yB4 (l:=l) (k:=q) xTm);obtain⟨x,hx⟩:∃x,x=l.getD q 0:=⟨_,rfl⟩
    rw[←hx]at hck hs1;have KN:=zC (zQ4 (x:=x) (by rw[hx];exact HI.out q hlt) wr);have HX:=zC hx;have HA:=zC hA1;have HO:=zC hown;have HB:=zC hb1;clear hc hx hA1 hown hb1;generalize hs:S x=t at hck KN;clear hs;rcases xN0 (zWd x)with hf|hf
    · have HFX:=zC hf
      rw[hf]at KN;simp only[if_true]at KN;clear hf;go_wp2_with fail;refine KN.out.mono ?_;rintro e w2 ⟨rfl,hb⟩;have hA2:=zC (HA.out.below hb HA.out.lt);have hb2:=zC (HB.out.trans (hb.mono HB.out.size));have ho2:=zC ((zLe HO.out hb).alloc (.cells #[.int .i64 x] 3));have hlt2:W.heap.size<w2.heap.size:=hA2.out.lt;clear HA HB HO hb hck x1;obtain⟨i0,hi0,hz0,hz1,hz2⟩:=zF xLh;go_wp2_with (at_builtin;refine yJ0 _ rfl _ _ 22 rfl (W.heap.size+1) 3 i0 (.int .i64 0) 1 8 Tryz.underlying22 hi0 hz0 hz1 hz2 rfl yCn _ _ _ rfl ho2.out ⟨w2.heap.size,0,none⟩ 1 1 [.int .i64 x] rfl rfl (yK0 _ _ _) xSm xXm yEn zZn ?_;intro av' w3 hown3 hg3 _)
      have hb4:Below (W.heap.size+1) w2 w3:=((zI _ _).alloc yEn _).trans (yHf hg3 (fun g' hg'=>(ho2.out.lt g' hg').1) zZn);rw[←hs1.out]at hown3;have hA3:=hA2.out.below hb4 yEn;have hb5:=hb2.out.trans (hb4.mono yEn);have HF2:Hid (∀j,j<q+1→zWd (l.getD j 0)=true):=zC fun j hj=>by
       by_cases hjk:j=q
       · rw[hjk,←HX.out];exact HFX.out
       · exact HF.out j yEn
      clear hg3 ho2 hs1 hb4 hA2 hb2;go_wp2_with fail;go_roundw
      case rel=>exact⟨q+1,by go_num,by omega,hA3,hown3,HF2,hb5⟩
      case measure=>simp[intOf];omega
    · have HN:=zC (xP7 (l:=l) (j:=q) xTm (by rw[←HX.out];exact hf))
      rw[hf]at KN;simp only[Bool.false_eq_true,if_false]at KN;clear hf;go_wp2_with fail;refine KN.out.mono ?_;rintro e w2 ⟨rfl,hb⟩;have hb2:=HB.out.trans (hb.mono HB.out.size);go_wp2_with fail;go_ret2;exact⟨none,0,0,5,rfl,.inr ⟨HN.out,rfl⟩,hb2⟩
  · have e2:¬(q:Int)<(n:Int):=by omega
    obtain rfl:q=n:=by omega
    have HAll:=zC (xO7.2 fun j hj=>HF.out j xKm);obtain⟨ae,ce,rfl⟩:=zWf hown;rw[yW xPm]at hown;have HO:=zC hown;clear hown;go_wp2_with fail;go_ret2;exact⟨_,_,_,0,rfl,.inl ⟨HAll.out,rfl,HL.out.symm,zYf HO.out,(xE8 HO.out).1,(xE8 HO.out).2⟩,hb1⟩
end Go.Proofs.YtcfbjdplhgdpfaaGreatDoor

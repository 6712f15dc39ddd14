import Derived.Test.YtcfbjdplhgdpfaaGreatDoorTbk
import Derived.Test.YtcfbjdplhgdpfaaGreatDoorTbl
import Derived.Test.YtcfbjdplhgdpfaaGreatDoorTbp
set_option maxHeartbeats 3200000
set_option maxRecDepth 100000
namespace Go.Proofs.YtcfbjdplhgdpfaaGreatDoor
set_option linter.unusedVariables false
set_option linter.unusedSimpArgs false
theorem yFm {P:Prop}(h:P:=by simp[results,Tryz.results26,go_sem,r0,r1]):P:=h
theorem yEm {P:Prop}(h:P:=by simp[results,Tryz.results25,go_sem,r0,r1]):P:=h
theorem xZl {P:Prop}(h:P:=by first|exact zR _|omega|(simp;done)|(simp;omega)):P:=h
theorem xMl {P:Prop}(h:P:=by repeat' (first|exact zI _ _|refine zU ?_|refine zSf ?_ _|refine zV ?_ ?_ _|exact zR _|omega|(simp;done)|(simp;omega))):P:=h
section
open Go.RowKit
theorem xLe {a1 b1:Option Addr} {n1 c1 m1 d1:Nat} {l:List Int} {es:List ByteArray} {W:World} (h1:Av W a1 n1 c1 b1 m1 d1 l es none):
 Calls Tryz.prog 25 #[.agg #[.slice a1 n1 c1,.slice b1 m1 d1]] W (xL3 (none,1) W):=by
 have KV:=zC (fun w (hb:Below W.heap.size W w)=>zM4 (h1.below hb));clear h1;have h:=xO3 W a1 n1 c1 b1 m1 d1;go_in;have x1:=h.out.2.1.c0;have y1:=h.out.2.1.c1;go_wp2_with fail
 with_reducible refine(yMf h (KV.out _ h.out.2.2)).mono ?_
 clear h x1 y1;rintro e w ⟨rfl,h⟩;have y0:=h.out.1.c0;have y3:=h.out.1.c1;have f0:=h.out.1.f 0;have f1:=h.out.1.f 1;go_wp2_with fail;have hR:=h.out.1.set none 0 0 none 0 0;have r0:=hR.c0;have r1:=hR.c1;exact zE (v:=.tuple #[.agg #[.slice none 0 0,.slice none 0 0],.int .i64 1]) yEm rfl (xN3 h.out.1 h.out.2.2 yEn)
theorem xMe {a1 b1:Option Addr} {n1 c1 m1 d1:Nat} {l:List Int} {es:List ByteArray} {W:World} {q:Ar} (h1:Av W a1 n1 c1 b1 m1 d1 l es (some q)) (h0:n1=0∨m1=0):
 Calls Tryz.prog 25 #[.agg #[.slice a1 n1 c1,.slice b1 m1 d1]] W (xL3 (some (q.1,rvM q.1 q.2),0) W):=by
 have hr:rvM q.1 q.2=q.2:=by
  unfold rvM;rw[yA (by
   rcases h0 with h0|h0
   · left;rw[h1.fst];exact yO0.1 (h1.v.s.1.trans h0)
   · right;exact yO0.1 (by rw[←h1.mlen.1];exact h0))]
 have hsh:Vl W a1 n1 b1 m1 (TS (some q)).1 (TS (some q)).2:=by
  have e1:=h1.fst;have e2:=h1.i.2.1;have e3:=h1.v;rw[e2,←e1]at e3;exact e3
 have HV:=zC hsh;have HC:=zC h1.c;have HR:=zC h1.i.rok;rw[hr];have KV:=zC (fun w (hb:Below W.heap.size W w)=>zM4 (h1.below hb));have hcond:n1=0∨(m1:Int)=0:=by omega
 clear h1 hr h0 hsh;by_cases hm:n1=0
 ·
  subst hm;have h:=xO3 W a1 0 c1 b1 m1 d1;go_in;have x1:=h.out.2.1.c0;have y1:=h.out.2.1.c1;go_wp2_with fail
  with_reducible refine(yMf h (KV.out _ h.out.2.2)).mono ?_
  clear h x1 y1;rintro e w ⟨rfl,h⟩;have x1:=h.out.2.1.c0;have y1:=h.out.2.1.c1;have y0:=h.out.1.c0;have y3:=h.out.1.c1;have f0:=h.out.1.f 0;have f1:=h.out.1.f 1;go_wp2_with fail;have hR:=h.out.1.set a1 0 c1 b1 m1 d1;have r0:=hR.c0;have r1:=hR.c1;exact zE (v:=.tuple #[.agg #[.slice a1 0 c1,.slice b1 m1 d1],.int .i64 0]) yEm rfl (xM3 (r:=(some q,0)) h.out.1 h.out.2.2 yEn (HV.out.below h.out.2.2) HC.out HR.out)
 ·
  have hn0:¬((n1:Int)=0):=by omega
  have hm0:m1=0:=by have:=hcond.resolve_left hm;omega
  subst hm0;clear hcond;have h:=xO3 W a1 n1 c1 b1 0 d1;go_in;have x1:=h.out.2.1.c0;have y1:=h.out.2.1.c1;go_wp2_with fail
  with_reducible refine(yMf h (KV.out _ h.out.2.2)).mono ?_
  clear h x1 y1;rintro e w ⟨rfl,h⟩;have x1:=h.out.2.1.c0;have y1:=h.out.2.1.c1;have y0:=h.out.1.c0;have y3:=h.out.1.c1;have f0:=h.out.1.f 0;have f1:=h.out.1.f 1;go_wp2_with fail;have hR:=h.out.1.set a1 n1 c1 b1 0 d1;have r0:=hR.c0;have r1:=hR.c1;exact zE (v:=.tuple #[.agg #[.slice a1 n1 c1,.slice b1 0 d1],.int .i64 0]) yEm rfl (xM3 (r:=(some q,0)) h.out.1 h.out.2.2 yEn (HV.out.below h.out.2.2) HC.out HR.out)
def dnL (N k:Nat):List Nat:=(List.range N).reverse.take k
theorem xNe {N k:Nat} (h:k<N):yS9 ((dnL N (k+1)).map fun i:Nat=>(i:Int))=yS9 ((dnL N k).map fun i:Nat=>(i:Int))++yS9 [((N-1-k:Nat):Int)]:=by
 have e:dnL N (k+1)=dnL N k++[N-1-k]:=by
  unfold dnL;rw[yH];congr 1
  have:=zDa h;rw[yJ]at this;rw[yM (by simpa using h)]at this ⊢;simp
 rw[e];simp[yS9]
theorem xOe (N:Nat):dnL N N=(List.range N).reverse:=yW yHn
theorem xPe {a1 b1:Option Addr} {n1 c1 m1 d1:Nat} {l:List Int} {es:List ByteArray} {W:World} {q:Ar} (h1:Av W a1 n1 c1 b1 m1 d1 l es (some q)) (hn:0<n1) (hm:0<m1):
 Calls Tryz.prog 25 #[.agg #[.slice a1 n1 c1,.slice b1 m1 d1]] W (xL3 (some (q.1,rvM q.1 q.2),0) W):=by
 have hl:l≠[]:=by
  rintro rfl;have:=h1.v.s.1;simp at this
  omega
 have hit:=h1.items;rw[xLc hl]at hit;have hm4:=h1.mlen.2.2;have hK1:0<kI l:=xF0 fun e=>by rw[e,yQ2]at hit;omega
 have hN4:nI l≤4096:=xN (yX2 _ hK1) yEn;have hr:rvM l es=its es (kI l) (List.range (nI l)).reverse:=by
  unfold rvM zCa;rw[zY];rintro(e|e)
  · exact hl e
  · have:=h1.v.t.1;rw[e]at this;simp at this;omega
 have hd:l.getD 0 0=((nI l:Nat):Int):=by rw[hit.2.1];exact(xMc hl).symm
 have hcons:((nI l:Nat):Int)::l.tail=l:=by rw[←hd];exact zZd hl
 have HI:=zC (fun w (hb:Below W.heap.size W w) a c (hs:Sl w a (nI l) ((dnL (nI l) (nI l)).map fun i:Nat=>(i:Int)))=>(show Calls Tryz.prog 63 #[.agg #[.slice a1 n1 c1,.slice b1 m1 d1],.slice a (nI l) c] w (yIb (TS (some (q.1,rvM q.1 q.2))).1 (TS (some (q.1,rvM q.1 q.2))).2 w)from by
  have:=zL4 (h1.below hb) hn (L:=dnL (nI l) (nI l)) (c2:=c) hs (fun j hj=>by rw[xOe,zDa hj];omega) yEn yEn;rw[xOe,←hr,hcons,h1.i.2.1,yBg]at this;have e:=h1.fst;subst e;exact this))
 obtain⟨bb,off,rfl,hc⟩:=h1.v.s.2 hn;have hc0:=hc 0 hn;rw[hd,xB]at hc0;have HCK:=zC hc0;have HR:=zC (yDg h1.i.rok h1.fits);have hn0:((n1:Int)==0)=false:=zT0.2 yEn;have hm0:((m1:Int)==0)=false:=zT0.2 yEn;have KV:=zC (fun w (hb:Below W.heap.size W w)=>zM4 (h1.below hb));clear h1 hl hit hm4 hK1 hr hd hcons hc hc0;generalize nI l=N at*;have hw0:IntKind.i64.wrap ((N:Int)-1)=(N:Int)-1:=xJ0 _ yEn;have h:=xO3 W (some ⟨bb,off,none⟩) n1 c1 b1 m1 d1;go_in;have x1:=h.out.2.1.c0;have y1:=h.out.2.1.c1;go_wp2_with fail
 with_reducible refine(yMf h (KV.out _ h.out.2.2)).mono ?_
 clear h x1 y1;rintro e w ⟨rfl,h⟩;have hck:=(h.out.2.2.cell (p:=⟨bb,off,none⟩) (yU W _ HCK.out)).trans HCK.out;have x1:=h.out.2.1.c0;have y1:=h.out.2.1.c1;go_wp2_with fail;go_loopw [4,5] (fun lv i wr=>∃k:Nat,i=.int .i64 ((N:Int)-1-(k:Int))∧k≤N∧wr.ownsRow w.heap.size 3 1 lv k (yS9 ((dnL N k).map fun i:Nat=>(i:Int)))∧Below w.heap.size w wr) (fun _ i _=>(intOf i+1).toNat)
 case atStart=>exact⟨0,by simp,xJ _,zT _ _ _ _,zI _ _⟩
 case round=>
  obtain⟨k,rfl,hk,hown,hbq⟩:=hrel;by_cases hlt:k<N
  · obtain⟨i,hi⟩:∃i,i=N-1-k:=⟨_,rfl⟩
    have e1:(N:Int)-1-(k:Int)=(i:Int):=by omega
    rw[e1];have e2:(0:Int)≤(i:Int):=by omega
    have hs:=zC (xNe hlt);rw[←hi]at hs;have hw:IntKind.i64.wrap ((i:Int)-1)=(i:Int)-1:=xJ0 _ yEn;have ho2:=zC (hown.alloc (.cells #[.int .i64 (i:Int)] 3));have hr2:=zC (yGf (yKb wr (i:Int)));have hbs:=hbq.size;have HB:=zC hbq;have HE:=zC e1;clear hown hbq hi e1;go_wp2_with (at_builtin;refine yDf rfl (.tmp 30) (.tmp 32) 22 rfl w.heap.size 3 (.int .i64 0) 8 Tryz.underlying22 xB4 rfl yCn _ k _ rfl ho2.out _ 1 1 (yS9 [(i:Int)]) rfl hr2.out (zUf _) yEn zZn ?_;intro av' cv' w3 hown3 hg3)
    have hb4:Below w.heap.size w w3:=(HB.out.alloc HB.out.size _).trans (yHf hg3 (fun g' hg'=>(ho2.out.lt g' hg').1) zZn);rw[←hs.out]at hown3;clear hg3 ho2 hr2;go_wp2_with fail;go_roundw
    case rel=>exact⟨k+1,by have:=HE.out;exact zH0 (Value.int .i64) yEn,by omega,hown3,hb4⟩
    case measure=>(simp[intOf];try omega)
  · obtain rfl:k=N:=by omega
    have e1:(k:Int)-1-(k:Int)= -1:=by omega
    rw[e1];obtain⟨ae,ce,rfl⟩:=zWf hown;replace h:=xVf h hbq;have HS:=zC (zYf hown);clear hown hbq x1 y1 hck;have x1:=h.out.2.1.c0;have y1:=h.out.2.1.c1;have y0:=h.out.1.c0;have y3:=h.out.1.c1;have f0:=h.out.1.f 0;have f1:=h.out.1.f 1;go_wp2_with fail
    with_reducible refine(yWc h (HI.out _ h.out.2.2 _ _ HS.out)).mono ?_
    clear h y0 y3 f0 f1 x1 y1;rintro e w ⟨ar,nr,cr,br,mr,dr,rfl,h,hv,hc⟩;have y0:=h.out.1.c0;have y3:=h.out.1.c1;have f0:=h.out.1.f 0;have f1:=h.out.1.f 1;go_wp2_with fail;have hR:=h.out.1.set ar nr cr br mr dr;have r0:=hR.c0;have r1:=hR.c1;exact zE (v:=.tuple #[.agg #[.slice ar nr cr,.slice br mr dr],.int .i64 0]) yEm rfl (xM3 (r:=_) h.out.1 h.out.2.2 yEn hv hc HR.out)
theorem xQe {a1 b1:Option Addr} {n1 c1 m1 d1:Nat} {l:List Int} {es:List ByteArray} {W:World} {o:Option Ar} (h1:Av W a1 n1 c1 b1 m1 d1 l es o):Calls Tryz.prog 25 #[.agg #[.slice a1 n1 c1,.slice b1 m1 d1]] W (xL3 (reM o) W):=by
 cases o with
 |none=>exact xLe h1
 |some q=>
  by_cases h0:n1=0∨m1=0
  · exact xMe h1 h0
  · exact xPe h1 yEn yEn
theorem xRe {a1 b1:Option Addr} {n1 c1 m1 d1:Nat} {l:List Int} {es:List ByteArray} {W:World} (h1:Av W a1 n1 c1 b1 m1 d1 l es none):
 Calls Tryz.prog 26 #[.agg #[.slice a1 n1 c1,.slice b1 m1 d1]] W (xL3 (none,1) W):=by
 have KV:=zC (fun w (hb:Below W.heap.size W w)=>zM4 (h1.below hb));clear h1;have h:=xO3 W a1 n1 c1 b1 m1 d1;go_in;have x1:=h.out.2.1.c0;have y1:=h.out.2.1.c1;go_wp2_with fail
 with_reducible refine(yMf h (KV.out _ h.out.2.2)).mono ?_
 clear h x1 y1;rintro e w ⟨rfl,h⟩;have y0:=h.out.1.c0;have y3:=h.out.1.c1;have f0:=h.out.1.f 0;have f1:=h.out.1.f 1;go_wp2_with fail;have hR:=h.out.1.set none 0 0 none 0 0;have r0:=hR.c0;have r1:=hR.c1;exact zE (v:=.tuple #[.agg #[.slice none 0 0,.slice none 0 0],.int .i64 1]) yFm rfl (xN3 h.out.1 h.out.2.2 yEn)
theorem xSe {w:World} {B N:Nat} {e:TypeId} {a:Option Addr} {c:Nat} {xs:List Value} (ho:w.ownsRow B e 1 (.slice a N c) N xs) {g i:Nat} (hg:a=some ⟨g,0,none⟩) (hi:i<N) (u:Value):(w.setCell ⟨g,i,none⟩ u).ownsRow B e 1 (.slice a N c) N (xs.set i u):=by
 refine⟨by rw[List.length_set];exact ho.1,?_⟩;rcases ho.2 with⟨h0,h1⟩|⟨g',cap,cur,e1,e2,h1,h2,h3,h4,h5⟩
 · omega
 · subst hg
   injection e1 with e1 _ e3
   injection e1 with e1
   injection e1 with e1 _ _
   subst e1 e3;refine .inr ⟨g,c,_,rfl,e2,heap_setCell_same w g i cur e u h1,h2,h3,by simp[h4],?_⟩;rw[←h5,Array.toList_setIfInBounds,List.take_set]
theorem xTe {w:World} {B B' N N':Nat} {e e':TypeId} {v v':Value} {xs xs':List Value} (h:w.ownsRow B e 1 v N xs) (h':w.ownsRow B' e' 1 v' N' xs') (he:e≠e') {k:Nat} (hk:v.ownBlock=some k):v'.ownBlock≠some k:=by
 intro hk';rcases h.2 with⟨h0,_⟩|⟨g,_,cur,e1,_,h1,_⟩
 · rw[h0]at hk;cases hk
 rcases h'.2 with⟨h0,_⟩|⟨g',_,cur',e1',_,h1',_⟩
 · rw[h0]at hk';cases hk'
 rw[e1]at hk;rw[e1']at hk'
 injection hk with hk
 injection hk' with hk'
 have e5:g=k:=hk;have e6:g'=k:=hk';subst e5 e6;rw[h1]at h1';injection h1' with h2
 injection h2 with _ h2
 exact he h2
theorem xUe {w:World} {B N:Nat} {e:TypeId} {v:Value} {xs:List Value} (h:w.ownsRow B e 1 v N xs) (he:e≠25) {g n c m d:Nat} {a b:Option Addr} (hB:Bx w g a n c b m d) {k:Nat} (hk:v.ownBlock=some k):g≠k:=by
 rintro rfl;rcases h.2 with⟨h0,_⟩|⟨g',_,cur,e1,_,h1,_⟩
 · rw[h0]at hk;cases hk
 rw[e1]at hk;injection hk with hk
 have e5:g'=g:=hk;subst e5;have hx:w.heap[g']?=_:=hB;rw[hx]at h1;injection h1 with h1
 injection h1 with _ h1
 exact he h1.symm
theorem xVe {l:List Int} {es:List ByteArray} (hf:Fits l es) {k:Nat} (hk:k<es.length):
 plB l k=true∧plO l k=plL l k∧ofB l.reverse (plL l k).reverse=true∧
  ∃o:Nat,ofV l.reverse (plL l k).reverse=(o:Int)∧o<es.length∧es.getD k ByteArray.empty=(flM l es).getD o ByteArray.empty:=by
 have h:=xJ7 hf.turned (k:=k) (by rw[(zAd hf).1];exact hk);rw[yX1,(zAd hf).1,zBd hf]at h;exact h
theorem xWe {l:List Int} {es:List ByteArray} (hf:Fits l es) {p:Nat} (hp:p<es.length):∃j,j<es.length∧ofV l.reverse (plL l (j:Int)).reverse=(p:Int):=by
 have hpos:0<pr l:=by have:=hf.2;omega
 have ha:=hf.1.pos hpos;have t:=xV9 ha.turned (p:Int);rw[xT9,←hf.2]at t;have hj:(tno l.reverse p).toNat<es.length:=by omega
 refine⟨(tno l.reverse p).toNat,hj,?_⟩;obtain⟨_,_,hb,_⟩:=xVe hf hj;have e:((tno l.reverse p).toNat:Int)=tno l.reverse p:=by omega
 rw[e]at hb ⊢;unfold ofV;rw[yA hb];have:=xX9 ha.turned (k:=(p:Int)) yEn (by rw[xT9,←hf.2];omega);rw[yX1]at this;unfold tno at this ⊢;simp only[yY1]at this ⊢;exact this
def FCut (l:List Int) (es:List ByteArray) (wz:World) (p:Value) (wx:World):Prop:=
 ∃g ta tc ea ec,p=.pointer (some ⟨g,0,none⟩)∧Bx wx g ta l.length tc ea es.length ec∧wz.heap.size≤g∧wx.ownsRow wz.heap.size 3 1 (.slice ta l.length tc) l.length (yS9 l.reverse)∧Fr wx wz.heap.size 9 ea es.length ec (zTf es)∧Below wz.heap.size wz wx
theorem FCut.new {l:List Int} {es:List ByteArray} {wz wb:World} {ta ea:Option Addr} {n m tc ec:Nat} (hb:Below wz.heap.size wz wb) (hO:wb.ownsRow wz.heap.size 3 1 (.slice ta n tc) n (yS9 l.reverse)) (hF:Fr wb wz.heap.size 9 ea m ec (zTf es)) (hn:n=l.length) (hm:m=es.length):FCut l es wz (.pointer (some ⟨wb.heap.size,0,none⟩)) (wb.alloc (.cells #[.slice ta n tc,.slice ea m ec] 25)):=by
 subst hn hm;have h1:Below wb.heap.size wb (wb.alloc (.cells #[.slice ta l.length tc,.slice ea es.length ec] 25)):=(zI _ _).alloc (zR _) _;exact⟨_,ta,tc,ea,ec,rfl,Bx.new _ _ _ _ _ _ _,hb.size,zLe hO h1,hF.below h1,hb.alloc hb.size _⟩
theorem FCut.set {l:List Int} {es:List ByteArray} {wz wb:World} {ta ea:Option Addr} {n m g tc ec:Nat} (hb:Below wz.heap.size wz wb) (hO:wb.ownsRow wz.heap.size 3 1 (.slice ta n tc) n (yS9 l.reverse)) (hF:Fr wb wz.heap.size 9 ea m ec (zTf es)) (hn:n=l.length) (hm:m=es.length) (hZ:Bx wb g none 0 0 none 0 0) (hg:wz.heap.size≤g):FCut l es wz (.pointer (some ⟨g,0,none⟩)) ((wb.setCell ⟨g,0,none⟩ (.slice ta n tc)).setCell ⟨g,1,none⟩ (.slice ea m ec)):=by
 subst hn hm;have hZ1:=hZ.set0 ta l.length tc;refine⟨_,ta,tc,ea,ec,rfl,hZ.set _ _ _ _ _ _,hg,xMg (xMg hO yCn hZ 0 _) yCn hZ1 1 _,⟨?_,fun h0=>xMg (xMg (hF.2.1 h0) yCn hZ 0 _) yCn hZ1 1 _,hF.2.2⟩,(hb.setCell hg _).setCell hg _⟩;exact(hZ1.st1 (hZ.st1 hF.1.st (.inl rfl) _) (.inr rfl) _).rd
theorem xXe {a1 b1:Option Addr} {n1 c1 m1 d1:Nat} {l:List Int} {es:List ByteArray} {W:World} {q:Ar} (h1:Av W a1 n1 c1 b1 m1 d1 l es (some q)):
 Calls Tryz.prog 26 #[.agg #[.slice a1 n1 c1,.slice b1 m1 d1]] W (xL3 (some (q.1.reverse,flM q.1 q.2),0) W):=by
 have hlen:=h1.v.t.1;have hf:Fits l es:=by
  have hf:=h1.fits;exact⟨by rw[←h1.fst];exact hf.1,by rw[hlen];exact h1.mlen.2.1⟩
 have hm4:=h1.mlen.2.2;have hn3:=h1.n3;have hnl:=h1.v.s.1;have hEs:(TS (some (q.1.reverse,flM q.1 q.2))).2=flM l es:=by
  rw[←h1.fst,h1.i.2.1];exact(xG7 _ _).symm
 have hSh:(TS (some (q.1.reverse,flM q.1 q.2))).1=l.reverse:=by rw[←h1.fst];rfl
 have KE:=zC (And.intro hEs (And.intro hSh ((zAd hf).1.trans hlen)));have KF:=zC (fun k (hk:k<m1)=>xVe hf (k:=k) (by rw[hlen];exact hk));have KG:=zC (fun p (hp:p<m1)=>xWe hf (p:=p) (by rw[hlen];exact hp));have KC:=zC (fun w (hb:Below W.heap.size W w)=>yA4 a1 n1 c1 l w (h1.v.s.below hb) yEn);have KT:=zC (fun w (hb:Below W.heap.size W w)=>h1.v.below hb);have HR:=zC (xI7 h1.i.rok h1.fits);have HN:=zC hnl;have HL:=zC hlen;have KV:=zC (fun w (hb:Below W.heap.size W w)=>zM4 (h1.below hb));clear h1 hEs hSh hf hlen hnl;have h:=xO3 W a1 n1 c1 b1 m1 d1;go_in;have x1:=h.out.2.1.c0;have y1:=h.out.2.1.c1;go_wp2_with fail
 with_reducible refine(yMf h (KV.out _ h.out.2.2)).mono ?_
 clear h x1 y1;rintro e w ⟨rfl,h⟩;have x1:=h.out.2.1.c0;have y1:=h.out.2.1.c1;go_upto_region 3 with fail
 have lv:=h.out.2.1.lt;have hq:Below w.heap.size w w:=zI _ _;have hqz:=hq.size;have hRd:=zC (KT.out w h.out.2.2).t.rd;have HLV:=h;have Q1:Hid (∀z,Below w.heap.size w z→Calls Tryz.prog 64 #[.slice a1 n1 c1] z fun e w'=>∃a c,e=.returned (.slice a n1 c)∧w'.ownsRow w.heap.size 3 1 (.slice a n1 c) n1 (yS9 l.reverse)∧Below w.heap.size w w'∧Below z.heap.size z w'):=zC fun z hz=>(KC.out z (h.out.2.2.trans (hz.mono h.out.2.2.size))).mono fun e w' k=>by
  obtain⟨a,c,k1,k2,k3⟩:=k;exact⟨a,c,k1,yFf k2 hz.size,hz.trans (k3.mono hz.size),k3⟩
 clear h KC;go_cut [4] (fun p wx=>FCut l es w p wx)
 case first=>
  go_region_held3 (fun w'=>w'.cell? ⟨W.heap.size,0,none⟩=some (.slice a1 n1 c1)∧w'.cell? ⟨W.heap.size,1,none⟩=some (.slice b1 m1 d1))
   (first|exact⟨(zA0 (p:=⟨W.heap.size,0,none⟩) xJl lv).trans x1,(zA0 (p:=⟨W.heap.size,1,none⟩) xJl lv).trans y1⟩|fail)
   (first
     |(go_at_call 64;(with_reducible refine(Q1.out _ xJl).mono ?_);rintro e wa ⟨ta,tc,rfl,hO,hq,hr⟩;have hqz:=hq.size;(try(have hF:=hF0.below (Below.trans xMl (hr.mono xZl))));(try(have hZ1:=Bx.on xGl hr;have y0:=hZ1.c0;have y3:=hZ1.c1;have f0:=hZ1.f 0;have f1:=hZ1.f 1));(try(have hZ1:=Bx.on (by first|exact hZ2|exact hZ2.alloc _|exact Bx.drewN hZ2 _|exact Bx.drewN (hZ2.alloc _) _|exact(Bx.drewN hZ2 _).alloc _) hr;have y0:=hZ1.c0;have y3:=hZ1.c1;have f0:=hZ1.f 0;have f1:=hZ1.f 1)))
     |(refine yLf w (.tmp 17) (.tmp 19) 23 rfl rfl 9 (.string ⟨#[]⟩) 16 Tryz.underlying23 xC4 yCn yCn _ b1 m1 d1 (zTf es) hRd.out (zVf es) yEn rfl rfl xJl ?_;intro ea ec wb hr hq hF0;have hF:=hF0;have hqz:=hq.size;(try(have hO:=zLe hO (Below.trans xMl (hr.mono xZl))));(try(have hZ2:=Bx.on xGl hr;have y0:=hZ2.c0;have y3:=hZ2.c1;have f0:=hZ2.f 0;have f1:=hZ2.f 1));(try(have hZ2:=Bx.on (by first|exact hZ1|exact hZ1.alloc _|exact Bx.drewN hZ1 _|exact Bx.drewN (hZ1.alloc _) _|exact(Bx.drewN hZ1 _).alloc _) hr;have y0:=hZ2.c0;have y3:=hZ2.c1;have f0:=hZ2.f 0;have f1:=hZ2.f 1)))
     |fail)
  all_goals
   go_wp2_with fail;go_meet
   case rel=>with_reducible first|exact FCut.new hq hO hF HN.out.symm HL.out.symm|(refine FCut.set hq hO hF HN.out.symm HL.out.symm hZ2 ?_<;>first|exact zR _|exact hqz|omega|(simp;done)|(simp;omega))|(refine FCut.set hq hO hF HN.out.symm HL.out.symm hZ1 ?_<;>first|exact zR _|exact hqz|omega|(simp;done)|(simp;omega))
 case rest=>
  clear hq hqz Q1 x1 y1 lv hRd;obtain⟨g,ta,tc,ea,ec,rfl,hX,hgx,hO,hF,hbc⟩:=hcut;have HLT:W.heap.size+1<g:=yF HLV.out.1.lt hgx;have HSZ:=hbc.size;have HWH:W.heap.size≤w.heap.size:=HLV.out.2.2.size;rw[HN.out]at hO hX;rw[HL.out]at hX hF;replace HLV:=xVf HLV hbc;have lR:=HLV.out.1.lt;have lv:=HLV.out.2.1.lt;have lg:=hX.lt;have hcp:=zC (show n1≤tc∧tc≤maxLen∧m1≤ec∧ec≤maxLen from by
   refine⟨(xE8 hO).1,(xE8 hO).2,?_⟩;rcases yL0 m1 with h0|h0
   · have:=hF.2.2 h0;exact⟨by omega,by rw[this];exact xJ _⟩
   · exact xE8 (hF.2.1 h0))
  have hE0:=hF.2.1;have hgR:g≠W.heap.size+1:=by have:=HLT;omega
  have hgV:g≠W.heap.size:=by have:=HLT;omega
  obtain⟨H0,hH0⟩:∃H0,H0=w.heap.size:=⟨_,rfl⟩
  rw[←hH0]at hO hE0 hgx HSZ HWH;have HGX:=zC hgx;clear hF hbc hgx hH0;go_wp2_with fail;go_loopw [5] (fun iv wr=>∃(k:Nat) (xs:List ByteArray),iv=.int .i64 k∧k≤m1∧xs.length=m1∧Bx wr g ta n1 tc ea m1 ec∧wr.ownsRow H0 3 1 (.slice ta n1 tc) n1 (yS9 l.reverse)∧(0<m1→wr.ownsRow H0 9 1 (.slice ea m1 ec) m1 (zTf xs))∧Hid (∀p,p<m1→(∃j,j<k∧ofV l.reverse (plL l (j:Int)).reverse=(p:Int))→xs.getD p ByteArray.empty=(flM l es).getD p ByteArray.empty)∧Bx wr (W.heap.size+1) none 0 0 none 0 0∧Bx wr W.heap.size a1 n1 c1 b1 m1 d1∧Below W.heap.size W wr∧H0≤wr.heap.size) (fun iv _=>m1-(intOf iv).toNat)
  case atStart=>exact⟨0,es,rfl,by omega,HL.out,hX,hO,hE0,zC (fun p hp hj=>by obtain⟨j,hj,_⟩:=hj;omega),HLV.out.1,HLV.out.2.1,HLV.out.2.2,HSZ⟩
  case round=>
   obtain⟨k,xs,rfl,hk,hxl,hX1,hO1,hE1,HF,hR1,hV1,hb1,hh1⟩:=hrel;clear hX hO hE0 HLV lR lv lg;have y1:=hV1.c1;by_cases hlt:k<m1
   · have e2:(k:Int)<(m1:Int):=by omega
     have x1:=hV1.c0;obtain⟨q1,q2,q3,o,q4,q5,q6⟩:=KF.out k hlt;rw[HL.out]at q5;have HP:=zC (xWh a1 n1 c1 l (k:Int) wr (KT.out wr hb1).s yEn);unfold xOh xNh at HP;rw[q1,q2]at HP;have HS:=zC (And.intro q3 (And.intro q4 q6));have HA:=zC (And.intro hX1 (And.intro hO1 (And.intro (hE1 yEn) (And.intro hR1 (And.intro hV1 hb1)))));clear q1 q2 q3 q4 q6 hX1 hO1 hE1 hR1 hV1 hb1;go_wp2_with fail;refine HP.out.mono ?_;rintro e w4 ⟨pa,pn,pc,rfl,hps,hp20,hb4⟩;obtain⟨P,hP⟩:∃P,P=plL l (k:Int):=⟨_,rfl⟩
     have HPP:=zC hP;rw[←hP]at hps;have hX4:=HA.out.1.below hb4 HA.out.1.lt;have hO4:=zLe HA.out.2.1 hb4;have HK:=zC (fun z (hz:Below w4.heap.size w4 z)=>yA4 pa pn pc P z (hps.below hz) yEn);have HQ:=zC (fun z (hz:Below w4.heap.size w4 z) a c (hs:Sl z a pn P.reverse)=>xKh ta a n1 tc pn c l.reverse P.reverse z ((zYf hO4).below hz) hs yEn);have x0:=hX4.c0;have lx:=hX4.lt;have hq:Below w4.heap.size w4 w4:=zI _ _;have hqz:=hq.size;have hh4:H0≤w4.heap.size:=xN hh1 hb4.size;have HB4:=zC hb4;clear hps hP HP x1 y1 hX4 hO4 hb4;have Q2:Hid (∀z,Below w4.heap.size w4 z→Calls Tryz.prog 64 #[.slice pa pn pc] z fun e w'=>∃a c,e=.returned (.slice a pn c)∧Sl w' a pn P.reverse∧Below w4.heap.size w4 w'):=zC fun z hz=>(HK.out z hz).mono fun e w' k=>by
      obtain⟨a,c,k1,k2,k3⟩:=k;exact⟨a,c,k1,k2.sl,hz.trans (k3.mono hz.size)⟩
     have Q3:Hid (∀z a c,Below w4.heap.size w4 z→Sl z a pn P.reverse→Calls Tryz.prog 66 #[.slice ta n1 tc,.slice a pn c] z fun e w'=>e=.returned (.tuple #[.int .i64 (o:Int),.bool true])∧Below w4.heap.size w4 w'):=zC fun z a c hz hs=>by
      have kq:=HQ.out z hz a c hs;unfold xFh at kq;rw[HPP.out,HS.out.1,HS.out.2.1]at kq;exact kq.mono fun e w' k5=>⟨k5.1,hz.trans (k5.2.below.mono hz.size)⟩
     go_wp2_with fail;go_region_held3 (fun w'=>w'.cell? ⟨g,0,none⟩=some (.slice ta n1 tc))
      (first|exact(zA0 (p:=⟨g,0,none⟩) xJl lx).trans x0|fail)
      (first
        |(go_at_call 64;(with_reducible refine(Q2.out _ xJl).mono ?_);rintro e wa ⟨ua,uc,rfl,hsl,hq⟩;have hqz:=hq.size)
        |(go_at_call 66;(with_reducible refine(Q3.out _ _ _ xJl (by first|exact hsl|exact hsl.below (by repeat' (first|exact zI _ _|refine zU ?_|refine zSf ?_ _)))).mono ?_);rintro e wb ⟨rfl,hq⟩;have hqz:=hq.size)
        |fail)
     all_goals
      have hb5:=HB4.out.trans (hq.mono HB4.out.size);have hX5:=HA.out.1.below hb5 HA.out.1.lt;have hO5:=zLe HA.out.2.1 hb5;have hE5:=zLe HA.out.2.2.1 hb5;have hR5:=HA.out.2.2.2.1.below hb5 HA.out.2.2.2.1.lt;have hV5:=HA.out.2.2.2.2.1.below hb5 HA.out.2.2.2.2.1.lt;have hW5:=HA.out.2.2.2.2.2.trans (hb5.mono HA.out.2.2.2.2.2.size);have hz5:H0≤wb.heap.size:=xN hh1 hb5.size;clear Q2 Q3 hq HK HQ x0 lx hb5 HB4;have z1:=hX5.c1;have v1:=hV5.c1;obtain⟨eb,heb,hebl,hec,hef⟩:=zXf hE5 yEn;subst heb;obtain⟨bb,bo,rfl,hc⟩:=(KT.out wb hW5).t.2 yEn;have hcs:=hc k hlt;have hco:=hec o q5;have hfo:=hef o;rw[show(zTf xs)[o]?=some (.string (xs.getD o ByteArray.empty))by simp[zTf,xS0,yJ,yM (show o<xs.length by omega)]]at hco;obtain⟨s,hs⟩:∃s,s=es.getD k ByteArray.empty:=⟨_,rfl⟩
      rw[←hs]at hcs;have hE6:=zC (xSe hE5 rfl q5 (.string s));have hO6:=zC (ownsRow_setCell_other hO5 (xTe hE5 hO5 yCn (k:=eb) rfl) (a:=⟨eb,o,none⟩) (.string s));have hX6:=zC (hX5.setOther (p:=⟨eb,o,none⟩) (xUe hE5 yCn hX5 (k:=eb) rfl) (.string s));have hR6:=zC (hR5.setOther (p:=⟨eb,o,none⟩) (xUe hE5 yCn hR5 (k:=eb) rfl) (.string s));have hV6:=zC (hV5.setOther (p:=⟨eb,o,none⟩) (xUe hE5 yCn hV5 (k:=eb) rfl) (.string s));have hW6:=zC (hW5.setCell (p:=⟨eb,o,none⟩) (xN HWH hebl) (.string s));have HF2:Hid (∀p,p<m1→(∃j,j<k+1∧ofV l.reverse (plL l (j:Int)).reverse=(p:Int))→(xs.set o s).getD p ByteArray.empty=(flM l es).getD p ByteArray.empty):=zC fun p hp hj=>by
       by_cases hpo:p=o
       · subst hpo
         rw[yJ,List.getElem?_set_self yEn,yS,hs,HS.out.2.2]
       · rw[yJ,List.getElem?_set_ne (xL0 hpo),←yJ]
         obtain⟨j,hj,e⟩:=hj;refine HF.out p hp ⟨j,?_,e⟩;rcases zM1 j k with h2|h2
         · exact h2
         · exfalso
           rw[show j=k by omega,HS.out.2.1]at e;omega
      have hxl2:(xs.set o s).length=m1:=by rw[List.length_set];exact hxl
      have e3:(o:Int)<(m1:Int):=by omega
      clear hE5 hO5 hX5 hR5 hV5 hW5 hec hef hc hs HS HA;go_wp2_with fail;go_region_law (fail)
      all_goals
       go_wp2_with fail;go_roundw
       case rel=>exact⟨k+1,xs.set o s,by go_num,by omega,hxl2,hX6.out,hO6.out,fun _=>by have:=hE6.out;rwa [show(zTf xs).set o (.string s)=zTf (xs.set o s)by unfold zTf;rw[List.map_set]]at this,HF2,hR6.out,hV6.out,(by first|exact hW6.out|exact hW6.out.drew),by simpa using hz5⟩
       case measure=>simp[intOf];omega
   · have e2:¬(k:Int)<(m1:Int):=by omega
     obtain rfl:k=m1:=by omega
     have x0:=hX1.c0;have x2:=hX1.c1;have y0:=hR1.c0;have y3:=hR1.c1;have f0:=hR1.f 0;have f1:=hR1.f 1;have hxs:xs=flM l es:=by
      apply xA1 (by rw[hxl,KE.out.2.2]);intro p h1 h2;have:=HF.out p yEn (by
       obtain⟨j,hj,e⟩:=KG.out p yEn;exact⟨j,by rw[HL.out]at hj;exact hj,e⟩)
      rw[yJ,yJ,yM h1,yM h2]at this;simpa using this
     have hT:St wr ea k (flM l es):=by
      rcases yL0 k with h0|h0
      · subst h0
        have e5:flM l es=[]:=yR1 KE.out.2.2;rw[e5];exact St.nil _ _
      · have:=zZf (hE1 h0);rwa [hxs]at this
     have HV:Hid (Vl wr ta n1 ea k (TS (some (q.1.reverse,flM q.1 q.2))).1 (TS (some (q.1.reverse,flM q.1 q.2))).2):=zC (by
      rw[KE.out.1,KE.out.2.1];exact⟨zYf hO1,hT,by omega⟩)
     clear hxs hT HF hE1 hO1 hX1;go_wp2_with fail;have hR:=hR1.set ta n1 tc ea k ec;have r0:=hR.c0;have r1:=hR.c1;exact zE (v:=.tuple #[.agg #[.slice ta n1 tc,.slice ea k ec],.int .i64 0]) yFm rfl (xM3 (r:=_) hR1 hb1 yEn HV.out ⟨hcp.out.1,hcp.out.2.1,hcp.out.2.2.1,hcp.out.2.2.2⟩ HR.out)
theorem xYe {a1 b1:Option Addr} {n1 c1 m1 d1:Nat} {l:List Int} {es:List ByteArray} {W:World} {o:Option Ar} (h1:Av W a1 n1 c1 b1 m1 d1 l es o):Calls Tryz.prog 26 #[.agg #[.slice a1 n1 c1,.slice b1 m1 d1]] W (xL3 (fiM o) W):=by
 cases o with
 |none=>exact xRe h1
 |some q=>exact xXe h1
end
end Go.Proofs.YtcfbjdplhgdpfaaGreatDoor

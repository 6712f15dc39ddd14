import Derived.Test.YtcfbjdplhgdpfaaGreatDoorTbf
set_option maxHeartbeats 6400000
set_option maxRecDepth 100000
namespace Go.Proofs.YtcfbjdplhgdpfaaGreatDoor
set_option linter.unusedVariables false
set_option linter.unusedSimpArgs false
theorem xJl {P:Prop}(h:P:=by repeat' (first|exact hq|refine zU ?_|refine zSf ?_ _|refine zV ?_ ?_ _|refine zB0 ?_ ?_ _|exact hqz|exact zR _|omega|(simp;done)|(simp;omega))):P:=h
abbrev zB0:=@Go.RowKit.Below.setCell
section
open Go.RowKit
theorem Stb.sl {a:Option Addr} {n:Nat} {l:List Int}:Stb fun w=>Sl w a n l:=fun _ _ h hb=>h.below hb
theorem Stb.st {a:Option Addr} {n:Nat} {l:List ByteArray}:Stb fun w=>St w a n l:=fun _ _ h hb=>h.below hb
theorem xJg {P:World→Prop} {w:World} {f:FuncId} {args:Array Value} {R:Ending→World→Prop} (h:Lv P w) (hc:Calls Tryz.prog f args w fun e w'=>R e w'∧Below w.heap.size w w')
 (hs:Stb P:=by repeat' (first|exact Stb.bel _|exact Stb.bx|exact Stb.vl|exact Stb.sl|exact Stb.st|refine Stb.and ?_ ?_|exact Stb.triv)):Calls Tryz.prog f args w fun e w'=>R e w'∧Lv P w':=hc.mono fun _ _ k=>⟨k.1,⟨hs _ _ h.out k.2⟩⟩
theorem xKg {P:World→Prop} {w:World} {f:FuncId} {args:Array Value} {v:Int} {l:List Int} (h:Lv P w) (hc:Calls Tryz.prog f args w (yX9 v l w)) (hs:Stb P:=by repeat' (first|exact Stb.bel _|exact Stb.bx|exact Stb.vl|exact Stb.sl|exact Stb.st|refine Stb.and ?_ ?_|exact Stb.triv)):
 Calls Tryz.prog f args w fun e w'=>∃a n c,e=.returned (.tuple #[.int .i64 v,.slice a n c])∧Lv (fun z=>Sl z a n l∧P z) w'∧n≤20:=
 hc.mono fun _ _ ⟨a,n,c,h1,h2,h3,h4⟩=>⟨a,n,c,h1,⟨h2,hs _ _ h.out h4⟩,h3⟩
theorem xLg {P:World→Prop} {w w':World} {B:Nat} (h:Lv P w) (hb:Below B w w') (hB:w.heap.size≤B) (hs:Stb P:=by repeat' (first|exact Stb.bel _|exact Stb.bx|exact Stb.vl|exact Stb.sl|exact Stb.st|refine Stb.and ?_ ?_|exact Stb.triv)):Lv P w':=⟨hs _ _ h.out (hb.mono hB)⟩
theorem Bx.far1 {w:World} {g n c m d:Nat} {a b:Option Addr} (h:Bx w g a n c b m d) {p:Addr} {x:Value} (hp:w.cell? p=some x) (hx:∀a n c,x≠ .slice a n c) {i:Nat} (hi:i=0∨i=1) (u:Value):(w.setCell ⟨g,i,none⟩ u).cell? p=some x:=by
 have p1:p≠⟨g,i,none⟩:=by
  rintro rfl;rcases hi with rfl|rfl
  · rw[h.c0]at hp
    injection hp with hp
    exact hx _ _ _ hp.symm
  · rw[h.c1]at hp
    injection hp with hp
    exact hx _ _ _ hp.symm
 rw[yY0 _ _ _ _ p1.symm,hp]
theorem Bx.sl1 {w:World} {g n c m d:Nat} {a b:Option Addr} (h:Bx w g a n c b m d) {a':Option Addr} {n':Nat} {l:List Int} (hs:Sl w a' n' l) {i:Nat} (hi:i=0∨i=1) (u:Value):Sl (w.setCell ⟨g,i,none⟩ u) a' n' l:=
 ⟨hs.1,fun h0=>by obtain⟨bb,off,e,hc⟩:=hs.2 h0;exact⟨bb,off,e,fun j hj=>h.far1 (hc j hj) (fun _ _ _ e=>by cases e) hi u⟩⟩
theorem Bx.st1 {w:World} {g n c m d:Nat} {a b:Option Addr} (h:Bx w g a n c b m d) {a':Option Addr} {n':Nat} {l:List ByteArray} (hs:St w a' n' l) {i:Nat} (hi:i=0∨i=1) (u:Value):St (w.setCell ⟨g,i,none⟩ u) a' n' l:=
 ⟨hs.1,fun h0=>by obtain⟨bb,off,e,hc⟩:=hs.2 h0;exact⟨bb,off,e,fun j hj=>h.far1 (hc j hj) (fun _ _ _ e=>by cases e) hi u⟩⟩
theorem xMg {w:World} {B N:Nat} {e:TypeId} {v:Value} {xs:List Value} (ho:w.ownsRow B e 1 v N xs) (he:e≠25) {g n c m d:Nat} {a b:Option Addr} (hB:Bx w g a n c b m d) (i:Nat) (u:Value):(w.setCell ⟨g,i,none⟩ u).ownsRow B e 1 v N xs:=by
 refine⟨ho.1,?_⟩;rcases ho.2 with h0|⟨g',cap,cur,e1,e2,hg,h2⟩
 · exact .inl h0
 · refine .inr ⟨g',cap,cur,e1,e2,(zX0 _ _ _ g' ?_).trans hg,h2⟩
   show g'≠g;rintro rfl;have hx:w.heap[g']?=_:=hB;rw[hx]at hg;injection hg with hg
   injection hg with _ hg
   exact he hg.symm
theorem Bx.grownV {w w':World} {B N:Nat} {e:TypeId} {v:Value} {xs:List Value} (ho:w.ownsRow B e 1 v N xs) (he:e≠25) (hg:w.grownBy w' v.ownBlock) {g n c m d:Nat} {a b:Option Addr} (hB:Bx w g a n c b m d):Bx w' g a n c b m d:=by
 refine(hg.block g hB.lt ?_).trans hB;rcases ho.2 with⟨h0,_⟩|⟨g',cap,cur,e1,e2,hg',h2⟩
 · rw[h0];simp[Value.ownBlock]
 · rw[e1]
   simp only[Value.ownBlock];intro e3;have e4:g'=g:=by simpa using e3.symm
   subst e4;have hx:w.heap[g']?=_:=hB;rw[hx]at hg';injection hg' with hg'
   injection hg' with _ hg'
   exact he hg'.symm
theorem xNg {w w':World} {B N:Nat} {e:TypeId} {v:Value} {xs:List Value} (ho:w.ownsRow B e 1 v N xs) (hg:w.grownBy w' v.ownBlock) (hB:B≤w.heap.size):Below B w w':=yHf hg (fun g' hg'=>(ho.lt g' hg').1) hB
theorem xOg {ops:Array Oper} {o:Oper} {a:Act} {K:Act→World→Prop} {Q:Exit→Act→World→Prop} {E:Prop} {w:World} (wr:World) (B:Nat) (s x:Operand) (av:Option Addr) (n cv:Nat) (xs:List Value) (v:Int)
 (ho:o.op=.call {callee:=.builtin .append,args:=#[s,x],argTypes:=#[22,22]}) (hgd:o.guard=none)
 (hs:a.eval s=.slice av n cv) (hx:a.eval x=.slice (some ⟨wr.heap.size,0,none⟩) 1 1) (hh:w.heap=wr.heap.push (.cells #[.int .i64 v] 3)) (h1:w.os=wr.os) (h2:w.tape=wr.tape) (h3:w.output=wr.output)
 (hown:wr.ownsRow B 3 1 (.slice av n cv) n xs) (hsz:B≤wr.heap.size) (hn:n≤100000)
 (h:∀av' cv' w',w'.ownsRow B 3 1 (.slice av' (n+1) cv') (n+1) (xs++[.int .i64 v])→wr.grownBy w' (Value.slice av n cv).ownBlock→((Value.slice av' (n+1) cv').ownBlock=(Value.slice av n cv).ownBlock∨∃g,(Value.slice av' (n+1) cv').ownBlock=some g∧wr.heap.size≤g)→K (a.put o.dst (.slice av' (n+1) cv')) w'):
 if Region.wanted o (yielded ops a.tmps)=true then Oper.wp Tryz.prog o a w K Q else E:=by
 obtain⟨i0,hi,hz0,hz1,hz2⟩:=zF xLh;have hown2:w.ownsRow B 3 1 (.slice av n cv) n xs:=by
  have h4:=hown.alloc (.cells #[.int .i64 v] 3);unfold World.ownsRow at h4 ⊢;rw[hh];exact h4
 refine zJ w hgd s x 22 ho B 3 i0 (.int .i64 0) 1 8 Tryz.underlying22 hi hz0 hz1 hz2 rfl yCn _ _ _ hs hown2 ⟨wr.heap.size,0,none⟩ 1 1 [.int .i64 v] hx rfl ?_ ?_ yCn xXm yEn zNn _ rfl ?_
 · exact zL (t:=3) (fr:=(0,0)) (cs:=#[.int .i64 v]) zVn
 · intro u hu
   rw[zM]at hu;rw[hu];rfl
 · intro g cap w' o1 o2 o3 _
   refine h _ _ w' o1 ⟨o2.os.trans h1,o2.tape.trans h2,o2.output.trans h3,?_,fun k hk hne=> ?_⟩ ?_
   · have:=o2.size;rw[hh,zK]at this;omega
   · rw[o2.block k zNn hne,hh,Array.getElem?_push,zY yEn]
   · rcases o3 with e|e
     · exact .inl e.symm
     · exact .inr ⟨g,rfl,by rw[e,hh,zK];omega⟩
theorem xPg {ops:Array Oper} {o:Oper} {a:Act} {K:Act→World→Prop} {Q:Exit→Act→World→Prop} {E:Prop} {w:World} (wr:World) (B:Nat) (s x:Operand) (av:Option Addr) (n cv:Nat) (xs:List Value) (v:ByteArray)
 (ho:o.op=.call {callee:=.builtin .append,args:=#[s,x],argTypes:=#[23,23]}) (hgd:o.guard=none)
 (hs:a.eval s=.slice av n cv) (hx:a.eval x=.slice (some ⟨wr.heap.size,0,none⟩) 1 1) (hh:w.heap=wr.heap.push (.cells #[.string v] 9)) (h1:w.os=wr.os) (h2:w.tape=wr.tape) (h3:w.output=wr.output)
 (hown:wr.ownsRow B 9 1 (.slice av n cv) n xs) (hsz:B≤wr.heap.size) (hn:n≤100000)
 (h:∀av' cv' w',w'.ownsRow B 9 1 (.slice av' (n+1) cv') (n+1) (xs++[.string v])→wr.grownBy w' (Value.slice av n cv).ownBlock→((Value.slice av' (n+1) cv').ownBlock=(Value.slice av n cv).ownBlock∨∃g,(Value.slice av' (n+1) cv').ownBlock=some g∧wr.heap.size≤g)→K (a.put o.dst (.slice av' (n+1) cv')) w'):
 if Region.wanted o (yielded ops a.tmps)=true then Oper.wp Tryz.prog o a w K Q else E:=by
 obtain⟨i0,hi,hz0,hz1,hz2⟩:=zF xC4;have hown2:w.ownsRow B 9 1 (.slice av n cv) n xs:=by
  have h4:=hown.alloc (.cells #[.string v] 9);unfold World.ownsRow at h4 ⊢;rw[hh];exact h4
 refine zJ w hgd s x 23 ho B 9 i0 (.string ⟨#[]⟩) 1 16 Tryz.underlying23 hi hz0 hz1 hz2 rfl yCn _ _ _ hs hown2 ⟨wr.heap.size,0,none⟩ 1 1 [.string v] hx rfl ?_ ?_ yCn xXm yEn zNn _ rfl ?_
 · exact zL (t:=9) (fr:=(0,0)) (cs:=#[.string v]) zVn
 · intro u hu
   rw[zM]at hu;rw[hu];rfl
 · intro g cap w' o1 o2 o3 _
   refine h _ _ w' o1 ⟨o2.os.trans h1,o2.tape.trans h2,o2.output.trans h3,?_,fun k hk hne=> ?_⟩ ?_
   · have:=o2.size;rw[hh,zK]at this;omega
   · rw[o2.block k zNn hne,hh,Array.getElem?_push,zY yEn]
   · rcases o3 with e|e
     · exact .inl e.symm
     · exact .inr ⟨g,rfl,by rw[e,hh,zK];omega⟩
theorem xQg {l:List ByteArray} {k:Nat} (hk:k<l.length):zTf (l.take (k+1))=zTf (l.take k)++[.string (l.getD k ByteArray.empty)]:=by
 rw[yH,yJ,yM hk];exact yQf _ _
theorem xRg {l:List Int} (h:szE l=0) (hl:l≠[]) (hp:0<nI l):szE l.tail=0∧szV l.tail=((kI l:Nat):Int):=by
 obtain⟨m1,m2,m3,m4⟩:=yE9.1 h;cases l with
 |nil=>exact absurd rfl hl
 |cons x r=>
  have hr:0≤pr r:=zK9 fun j hj=>m2 (j+1) zPn;have hx:0<x:=by have:0<x.toNat:=hp;omega
  have e:pr (x::r)=x*pr r:=rfl;have e2:pr r≤x*pr r:=by
   have:=zE2 (show(1:Int)≤x by omega) hr;omega
  have hz:szE r=0:=yE9.2 ⟨by simp at m1;omega,fun j hj=>m2 (j+1) zPn,fun j hj=>m3 (j+1) zPn,by omega⟩;refine⟨hz,?_⟩;show szV r=(((pr r).toNat:Nat):Int);rw[yD9 hz];omega
def xSg (r:List Int) (xs:List ByteArray) (W:World) (e:Ending) (W':World):Prop:=∃a n c b m d,e=.returned (.tuple #[.agg #[.slice a n c,.slice b m d],.bool true])∧Vl W' a n b m r xs∧Below W.heap.size W W'∧∀p,b=some p→W.heap.size≤p.block
theorem xTg {a1 b1:Option Addr} {n1 c1 m1 d1:Nat} {l:List Int} {es:List ByteArray} {W:World} {q:Ar} (h1:Av W a1 n1 c1 b1 m1 d1 l es (some q)) (h0:0<n1) {i:Nat} (hi:i<nI l):
 Calls Tryz.prog 86 #[.agg #[.slice a1 n1 c1,.slice b1 m1 d1],.int .i64 (i:Int)] W (xSg l.tail (yU4 es (kI l) i) W):=by
 have hl:l≠[]:=by
  rintro rfl;have:=h1.v.s.1;simp at this
  omega
 have hit:=h1.items;rw[xLc hl]at hit;have hK:(i+1)*kI l≤m1:=by rw[hit.1];exact xE _ hi
 obtain⟨htz,htv⟩:=xRg h1.sz hl yEn;have hlen:=yV4 (es:=es) (k:=kI l) (i:=i) (by rw[h1.v.t.1];exact hK);have hm4:=h1.mlen.2.2;have hn3:=h1.n3;have hNb:=hit.2.2.1;have KI:=fun w (hb:Below W.heap.size W w)=>zAi a1 n1 c1 l w (h1.v.s.below hb) yEn h1.c.1 h1.c.2;rw[←hit.2.1]at KI;replace KI:=zC KI;have KM:=zC (fun w (hb:Below W.heap.size W w)=>zM4 (h1.below hb));have KZ:=zC (fun w a n c (hs:Sl w a n l.tail)=>(show yJ9 80 a n c ((kI l:Nat):Int) 0 w by have:=xKe a n c l.tail w hs;rwa [htz,htv]at this));have HT:=zC h1.v.t;have HP:Hid (∀k,k<kI l→i*kI l+k<m1∧(yU4 es (kI l) i).getD k ByteArray.empty=es.getD (i*kI l+k) ByteArray.empty):=zC fun k hk=>⟨by rw[xV,xY]at hK;omega,yW4 hk⟩
 have hKm:kI l≤m1:=by rw[xV,xY]at hK;omega
 have hiK:i*kI l≤m1:=by rw[xV,xY]at hK;omega
 have ge:¬((nI l:Nat):Int)≤(i:Int):=by omega
 have gi:¬((i:Int)<0):=by omega
 have hi2:i≤1099511627776:=by omega
 clear h1 hit hl htz htv hi hNb hK;generalize l.tail=T at*;generalize yU4 es (kI l) i=P at*;generalize nI l=N at*;generalize kI l=K at*;obtain⟨o,ho⟩:∃o,o=i*K:=⟨_,rfl⟩
 have hw5:IntKind.i64.wrap ((i:Int)*(K:Int))=(o:Int):=by rw[show(i:Int)*(K:Int)=(o:Int)by rw[ho,xH0]];exact xJ0 _ yEn
 rw[←ho]at HP hiK;have HL:=zC hlen;clear ho hlen;have h:=xO3 W a1 n1 c1 b1 m1 d1;go_in;have x1:=h.out.2.1.c0;go_wp2_with fail
 with_reducible refine(xKg h (KI.out _ h.out.2.2)).mono ?_
 clear h x1;rintro e w ⟨ar,nr,cr,rfl,h,hr20⟩;have x1:=h.out.2.2.1.c0;have y1:=h.out.2.2.1.c1;go_wp2_with fail
 with_reducible refine(xJg h (KM.out _ h.out.2.2.2)).mono ?_
 clear h x1 y1;rintro e w ⟨rfl,h⟩;go_wp2_with fail;refine(KZ.out _ _ _ _ h.out.1).mono ?_;rintro e w2 ⟨rfl,rfl⟩;go_wp2_with fail;have HSZ:W.heap.size≤w.heap.size:=h.out.2.2.2.size;have hO:=Bx.new w ar nr cr none 0 0;have hbO:Below w.heap.size w (w.alloc (.cells #[.slice ar nr cr,.slice none 0 0] 25)):=(zI _ _).alloc (zR _) _;go_loopw [11] (fun iv wr=>∃(k:Nat) (bv:Option Addr) (dv:Nat),iv=.int .i64 k∧k≤K∧Bx wr w.heap.size ar nr cr bv k dv∧wr.ownsRow (w.heap.size+1) 9 1 (.slice bv k dv) k (zTf (P.take k))∧Below w.heap.size w wr) (fun iv _=>K-(intOf iv).toNat)
 case atStart=>exact⟨0,none,0,rfl,by omega,hO,zT _ _ _ _,hbO⟩
 case round=>
  obtain⟨k,bv,dv,rfl,hk,hO1,ho1,hb1⟩:=hrel;clear hO hbO;replace h:=xLg h hb1 (zR _);by_cases hlt:k<K
  · have e2:(k:Int)<(K:Int):=by omega
    have HN:=zC (xQg (l:=P) (k:=k) xTm);obtain⟨hp1,hp2⟩:=HP.out k hlt;obtain⟨bb,off,rfl,hc⟩:=HT.out.2 yEn;have hck:=(h.out.2.2.2.cell (p:=⟨bb,off+(o+k),none⟩) (yU W _ (hc _ hp1))).trans (hc _ hp1);rw[←hp2]at hck;generalize P.getD k ByteArray.empty=x at*;obtain⟨p,hp⟩:∃p,p=o+k:=⟨_,rfl⟩
    have hw6:IntKind.i64.wrap ((o:Int)+(k:Int))=(p:Int):=by rw[show(o:Int)+(k:Int)=(p:Int)by omega];exact xJ0 _ yEn
    rw[←hp]at hck hp1;have x1:=h.out.2.2.1.c1;have u1:=hO1.c1;have lO:=hO1.lt;have HO:=zC hO1;have HR:=zC ho1;have HB:=zC hb1;clear hO1 ho1 hb1 hc hp hp2 h;go_wp2_with fail;go_region_law (refine xPg wr (w.heap.size+1) (.tmp 44) (.tmp 54) bv k dv _ x rfl rfl rfl rfl rfl rfl rfl rfl HR.out yEn yEn ?_;intro av' cv' w9 hown9 hg9 _;have hO9:=Bx.grownV HR.out yCn hg9 HO.out;have z1:=hO9.c1;have g2:=hO9.f 1)
    all_goals
     rw[←HN.out]at hown9;have hb10:=HB.out.trans ((xNg HR.out hg9 yEn).mono yEn);have hO11:=zC (hO9.set1 av' (k+1) cv');have hr11:=zC (yRf hown9 (p:=⟨w.heap.size,1,none⟩) (zW _) (.slice av' (k+1) cv'));have hb11:=zC (hb10.setCell (p:=⟨w.heap.size,1,none⟩) (zR _) (.slice av' (k+1) cv'));clear hO9 hg9 hown9 hb10 u1 z1 g2 HO HR HB x1 hck;go_wp2_with fail;go_roundw
     case rel=>exact⟨k+1,av',cv',by go_num,by omega,hO11.out,hr11.out,hb11.out⟩
     case measure=>simp[intOf];omega
  · have e2:¬(k:Int)<(K:Int):=by omega
    obtain rfl:k=K:=by omega
    have x0:=hO1.c0;have x1:=hO1.c1;have hvl:=zC (show Vl wr ar nr bv k T (P.take k)from⟨h.out.1,zZf ho1,by omega⟩);rw[yW xPm]at hvl;have HFR:=zC (fun p (hp:bv=some p)=>xN HSZ (Nat.le_of_succ_le (ho1.lt p.block (by rw[hp];rfl)).1));clear hO1 ho1 hb1;have y0:=h.out.2.1.c0;have y3:=h.out.2.1.c1;have f0:=h.out.2.1.f 0;have f1:=h.out.2.1.f 1;go_wp2_with fail;have hR:=h.out.2.1.set ar nr cr bv k dv;have r0:=hR.c0;have r1:=hR.c1;exact zE (v:=.tuple #[.agg #[.slice ar nr cr,.slice bv k dv],.bool true]) (by simp[results,Tryz.results86,go_sem,r0,r1]) rfl ⟨_,_,_,_,_,_,rfl,⟨h.out.2.1.sl hvl.out.s _ _,h.out.2.1.st hvl.out.t _ _,by omega⟩,yJ4 h.out.2.2.2 yEn _ _,HFR.out⟩
end
section
open Go.RowKit
structure OC (G B1:Nat) (b:Option Addr) (m d:Nat) (sg:Int) (K:Nat→Prop) (W0:World) (pf:Option Addr→Prop) (M:Nat) (xs:List Int):Prop where
 hK:∀k,K k→k<W0.heap.size
 hKG:¬K G
 hB:B1=G+1
 hpf:∀R,pf (some ⟨R,0,none⟩)→B1≤R→¬K R
 hE:∀w,Kep K W0 w→St w b m (xs.map S)
 hX:∀x∈xs,x.natAbs<lim
 hM:M=m
 hm:m≤5000
 hsg:sg=1∨sg= -1
theorem OC.hG {G B1:Nat} {b:Option Addr} {m d:Nat} {sg:Int} {K:Nat→Prop} {W0:World} {pf:Option Addr→Prop} {M:Nat} {xs:List Int} (C:OC G B1 b m d sg K W0 pf M xs):G<B1:=by have:=C.hB;omega
def OS (G B1:Nat) (b:Option Addr) (m d:Nat) (sg:Int) (K:Nat→Prop) (W0:World) (pf:Option Addr→Prop) (M:Nat) (a:Nat→Nat) (n:Nat) (w:World):Prop:=∃pa pc,Od G B1 b m d sg K W0 pf M a n w pa pc
def xUg (P:Prop) (X:World→Prop) (e:Ending) (w':World):Prop:=∃t:Bool,e=.returned (.bool t)∧(t=true↔P)∧X w'
theorem xVg {sg x y:Int} (h:sg=1∨sg= -1):(sg*xKa x y<0↔sg*x<sg*y)∧(sg*xKa x y=0↔sg*x=sg*y)∧ -1≤sg*xKa x y∧sg*xKa x y≤1:=by
 rcases h with rfl|rfl<;>unfold xKa<;>split<;>(try split)<;>refine⟨?_,?_,?_,?_⟩<;>omega
section
variable {G B1:Nat} {b:Option Addr} {m d:Nat} {sg:Int} {K:Nat→Prop} {W0:World} {pf:Option Addr→Prop} {M:Nat} {xs:List Int} {a:Nat→Nat} {n:Nat} {w w':World}
theorem xWg {pa:Option Addr} {pc:Nat} (h:Od G B1 b m d sg K W0 pf M a n w pa pc):Calls Tryz.prog 141 #[.pointer (some ⟨G,0,none⟩)] w fun e w'=>e=.returned (.int .i64 (n:Int))∧w=w':=by
 have y1:=h.c1;clear h;go_in;go_wp2_with fail;go_ret;exact⟨rfl,rfl⟩
theorem xXg (h:OS G B1 b m d sg K W0 pf M a n w):Calls Tryz.prog 141 #[.pointer (some ⟨G,0,none⟩)] w fun e w'=>e=.returned (.int .i64 (n:Int))∧OS G B1 b m d sg K W0 pf M a n w':=by
 obtain⟨pa,pc,h⟩:=h;exact(xWg h).mono fun e w' k=>⟨k.1,pa,pc,by rw[←k.2];exact h⟩
theorem xYg (C:OC G B1 b m d sg K W0 pf M xs) (h:OS G B1 b m d sg K W0 pf M a (n+1) w):Calls Tryz.prog 293 #[.pointer (some ⟨G,0,none⟩)] w fun e w'=>e=.returned (.iface 3 (.int .i64 (a n:Int)))∧OS G B1 b m d sg K W0 pf M a n w':=by
 obtain⟨pa,pc,h⟩:=h;obtain⟨R,rfl,hBR,hRl,hc⟩:=h.at yEn;have y1:=h.c1;have hcn:=(hc n yEn).1;have hw:IntKind.i64.wrap (n:Int)=(n:Int):=xJ0 _ (by have:=h.nle;have:=C.hm;have:=C.hM;omega);have hcap:n≤pc:=by have:=h.caps;omega
 have hfz:=zA1 w G 1 _ _ h.box;have H:=zC (h.popped C.hKG C.hG);obtain⟨x,hx⟩:∃x:Int,x=(a n:Int):=⟨_,rfl⟩
 rw[←hx]at hcn ⊢;clear h hc C hx;go_in;go_wp2_with fail;go_ret;exact⟨rfl,_,_,H.out⟩
theorem xZg (C:OC G B1 b m d sg K W0 pf M xs) (h:OS G B1 b m d sg K W0 pf M a n w) {i j:Nat} (hi:i<n) (hj:j<n):Calls Tryz.prog 295 #[.pointer (some ⟨G,0,none⟩),.int .i64 (i:Int),.int .i64 (j:Int)] w fun e w'=>e=.returned (.tuple #[])∧OS G B1 b m d sg K W0 pf M (swp a i j) n w':=by
 obtain⟨pa,pc,h⟩:=h;obtain⟨R,rfl,hBR,hRl,hc⟩:=h.at yEn;have y1:=h.c1;have ci:=(hc i hi).1;have cj:=(hc j hj).1;have fi:=(hc i hi).2;have fj:=(hc j hj).2;have H:=zC (h.swap C.hG C.hpf rfl hBR hi hj);obtain⟨x,hx⟩:∃x:Int,x=(a i:Int):=⟨_,rfl⟩
 obtain⟨y,hy⟩:∃y:Int,y=(a j:Int):=⟨_,rfl⟩
 rw[←hx]at ci H;rw[←hy]at cj H;have hi2:(i:Int)<(n:Int):=by omega
 have hj2:(j:Int)<(n:Int):=by omega
 have cj3:(w.setCell ⟨R,i,none⟩ (.int .i64 y)).cell? ⟨R,j,none⟩=some (.int .i64 y):=by
  by_cases e:i=j
  · subst e;exact World.cell?_setCell_same' _ _ _ (by rw[ci];rfl)
  · rw[yY0 _ _ _ _ (by simp[e]),cj]
 clear h hc C hx hy;go_in;go_wp2_with fail;go_region
 all_goals
  go_wp2_with fail;go_end0
  exact⟨rfl,_,_,by first|exact H.out|exact H.out.drew⟩
theorem zAh (C:OC G B1 b m d sg K W0 pf M xs) (hall:∀q,pf q) (h:OS G B1 b m d sg K W0 pf M a n w) (hn:n<M):Calls Tryz.prog 294 #[.pointer (some ⟨G,0,none⟩),.iface 3 (.int .i64 (n:Int))] w fun e w'=>e=.returned (.tuple #[])∧∃c,OS G B1 b m d sg K W0 pf M c (n+1) w'∧c n=n∧∀k,k<n→c k=a k:=by
 obtain⟨pa,pc,h⟩:=h;have y1:=h.c1;have HX:=zC h;have HC:=zC C;have hn5:n≤100000:=by have:=C.hm;have:=C.hM;omega
 have hB:B1≤w.heap.size:=by have:=h.gl;have:=C.hB;omega
 have y1a:(w.alloc (.cells #[.int .i64 (n:Int)] 3)).cell? ⟨G,1,none⟩=some (.slice pa n pc):=(((zI w.heap.size w).alloc (zR _) _).cell (p:=⟨G,1,none⟩) h.gl).trans y1;have hta:∀w,(Instr.typeAssert (.iface 3 (.int .i64 (n:Int))) 20 3 false).run Tryz.prog w=.ok (.int .i64 (n:Int)) w:=fun w=>by kernel_rfl
 clear h C;go_in;go_wp2_with fail;go_region_law (refine xOg w B1 (.tmp 8) (.tmp 11) pa n pc _ (n:Int) rfl rfl rfl rfl rfl rfl rfl rfl HX.out.row yEn yEn ?_;intro av' cv' w9 hown9 hg9 _;have hO9:=HX.out.box3 HC.out.hG HC.out.hpf hg9;have g9:=zA1 w9 G 1 _ _ hO9;have z9:w9.cell? ⟨G,1,none⟩=some (.slice pa n pc):=by rw[yB0 _ _ _ _ _ _ hO9];rfl)
 all_goals
  have hP:=zC (HX.out.pushed HC.out.hK HC.out.hKG HC.out.hG HC.out.hpf hall hn hown9 hg9);clear hown9 hg9 hO9 g9 z9;go_wp2_with fail;go_end0
  exact⟨rfl,_,⟨_,_,hP.out⟩,yA rfl,fun k hk=>zY yEn⟩
theorem zBh (C:OC G B1 b m d sg K W0 pf M xs) (h:OS G B1 b m d sg K W0 pf M a n w) {i j:Nat} (hi:i<n) (hj:j<n):Calls Tryz.prog 292 #[.pointer (some ⟨G,0,none⟩),.int .i64 (i:Int),.int .i64 (j:Int)] w (xUg (Lf (fun k=>sg*xs.getD k 0) (a i) (a j)) (OS G B1 b m d sg K W0 pf M a n)):=by
 obtain⟨pa,pc,h⟩:=h;obtain⟨R,rfl,hBR,hRl,hc⟩:=h.at yEn;have y0:=h.c0;have y1:=h.c1;have y2:=h.c2;have hE:=C.hE w h.kep;have hai:a i<m:=by have:=h.lt i hi;have:=C.hM;omega
 have haj:a j<m:=by have:=h.lt j hj;have:=C.hM;omega
 have ci:=(hc i hi).1;have cj:=(hc j hj).1;obtain⟨bb,off,rfl,hcE⟩:=hE.2 yEn;have hxl:xs.length=m:=by have:=hE.1;rwa [zD0]at this
 have ei:=hcE (a i) hai;have ej:=hcE (a j) haj;rw[yE8 yEn]at ei ej;have HL:Hid (Lf (fun k=>sg*xs.getD k 0) (a i) (a j)↔sg*xKa (xs.getD (a i) 0) (xs.getD (a j) 0)<0∨(sg*xKa (xs.getD (a i) 0) (xs.getD (a j) 0)=0∧a i<a j)):=zC (by
  obtain⟨s1,s2,_⟩:=xVg (x:=xs.getD (a i) 0) (y:=xs.getD (a j) 0) C.hsg;unfold Lf;rw[s1,s2])
 obtain⟨-, -,b1,b2⟩:=xVg (x:=xs.getD (a i) 0) (y:=xs.getD (a j) 0) C.hsg;have KQ:Hid (∀z,Below w.heap.size w z→Calls Tryz.prog 208 #[.string (S (xs.getD (a i) 0)),.string (S (xs.getD (a j) 0))] z fun e w'=>e=.returned (.int .i64 (xKa (xs.getD (a i) 0) (xs.getD (a j) 0)))∧Below w.heap.size w w'):=zC fun z hz=>(zW6 (xs.getD (a i) 0) (xs.getD (a j) 0) z (yF8 C.hX _) (yF8 C.hX _)).mono fun e w' k=>⟨k.1,hz.trans (k.2.mono hz.size)⟩
 obtain⟨u,hu⟩:∃u:Int,u=(a i:Int):=⟨_,rfl⟩
 obtain⟨v,hv⟩:∃v:Int,v=(a j:Int):=⟨_,rfl⟩
 obtain⟨q,hq⟩:∃q:Int,q=sg*xKa (xs.getD (a i) 0) (xs.getD (a j) 0):=⟨_,rfl⟩
 rw[←hq]at HL b1 b2;obtain⟨s,hs⟩:∃s,s=S (xs.getD (a i) 0):=⟨_,rfl⟩
 obtain⟨t,ht⟩:∃t,t=S (xs.getD (a j) 0):=⟨_,rfl⟩
 rw[←hs]at ei KQ;rw[←ht]at ej KQ;obtain⟨z,hz⟩:∃z:Int,z=xKa (xs.getD (a i) 0) (xs.getD (a j) 0):=⟨_,rfl⟩
 rw[←hz]at KQ hq;have hw:IntKind.i64.wrap (sg*z)=q:=by rw[←hq];exact xJ0 _ yEn
 have ha1:0≤u:=by omega
 have ha2:u<(m:Int):=by omega
 have ha3:0≤v:=by omega
 have ha4:v<(m:Int):=by omega
 have e1:u.toNat=a i:=by omega
 have e2:v.toNat=a j:=by omega
 rw[←hu]at ci;rw[←hv]at cj;have ei':w.cell? ⟨bb,off+u.toNat,none⟩=some (.string s):=by rw[e1];exact ei
 have ej':w.cell? ⟨bb,off+v.toNat,none⟩=some (.string t):=by rw[e2];exact ej
 have HUV:Hid (a i<a j↔u<v):=zC yEn;have hi2:(i:Int)<(n:Int):=by omega
 have hj2:(j:Int)<(n:Int):=by omega
 have HO:=zC (fun z (hb:Below w.heap.size w z)=>(⟨_,_,h.on C.hK hb⟩:OS G B1 (some ⟨bb,off,none⟩) m d sg K W0 pf M a n z));have l0:=h.gl;have lE:=yU w _ ei;clear h hc C hE hcE ei ej hai haj hxl hu hv hq hs ht hz e1 e2;go_in;have hq3:q= -1∨q=0∨q=1:=by omega
 have HQ3:=zC hq3;clear hq3;go_wp2_with fail;go_quiet (fail)
 go_wp2_with fail;have hq:=zSf (zI w.heap.size w) nq;generalize w.drewN nq=wq at hq ⊢;have hqz:=hq.size;clear ci cj;go_region_held3 (fun w'=>w'.cell? ⟨G,0,none⟩=some (.slice (some ⟨bb,off,none⟩) m d)∧w'.cell? ⟨G,2,none⟩=some (.int .i64 sg)∧w'.cell? ⟨bb,off+u.toNat,none⟩=some (.string s)∧w'.cell? ⟨bb,off+v.toNat,none⟩=some (.string t))
  (first|exact⟨(zA0 (p:=⟨G,0,none⟩) xJl l0).trans y0,(zA0 (p:=⟨G,2,none⟩) xJl l0).trans y2,(zA0 (p:=⟨bb,off+u.toNat,none⟩) xJl lE).trans ei',(zA0 (p:=⟨bb,off+v.toNat,none⟩) xJl lE).trans ej'⟩|fail)
  (first
    |(go_at_call 208;(with_reducible refine(KQ.out _ xJl).mono ?_);rintro e wa ⟨rfl,hq⟩;have hqz:=hq.size)
    |fail)
 all_goals
  have hb9:=zC (HO.out _ xJl);clear hq hqz y0 y1 y2 ei' ej' KQ HO hw b1 b2;rcases HQ3.out with h|h|h
  · subst h
    go_wp2_with fail;go_ret;exact⟨true,rfl,⟨fun _=>HL.out.2 (.inl yEn),fun _=>rfl⟩,hb9.out⟩
  · subst h
    by_cases huv:u<v
    · go_wp2_with fail
      go_ret;exact⟨true,rfl,⟨fun _=>HL.out.2 (.inr ⟨(by first|rfl|trivial),HUV.out.2 huv⟩),fun _=>rfl⟩,hb9.out⟩
    · go_wp2_with fail
      go_ret;exact⟨false,rfl,⟨fun k=>(by cases k),fun k=>by
       rcases HL.out.1 k with k|k
       · omega
       · have:=HUV.out.1 k.2;omega⟩,hb9.out⟩
  · subst h
    go_wp2_with fail;go_ret;exact⟨false,rfl,⟨fun k=>(by cases k),fun k=>by
     rcases HL.out.1 k with k|k<;>omega⟩,hb9.out⟩
end
end
section
open Go.RowKit
theorem zCh {α:Type} [DecidableEq α] {l:List α} {x:α} (h:x∈l) (m:List α):fpS (l++m) x=fpS l x:=by
 have hl:=yPd.2 h;refine yQd (by rw[zC0];omega) ?_ fun j hj=> ?_
 · rw[xL2 hl];exact yNd hl
 · rw[xL2 yEn];exact yOd hj
theorem zDh {α:Type} [DecidableEq α] {l:List α} {x:α} (h:x∉l) (m:List α):fpS (l++x::m) x=l.length:=by
 refine yQd yHn yHn fun j hj e=> ?_;rw[xL2 hj]at e;exact h (yL1 e)
theorem zEh {α:Type} [DecidableEq α] {l:List α} {x:α} (h:x∉l):fpS l x=l.length:=by
 have:=yMd l x;rcases zM1 (fpS l x) l.length with h1|h1
 · exact absurd (yPd.1 h1) h
 · omega
theorem zFh {s t:ByteArray} (h:s≠t):(Lit.string s.data.toList)≠(Lit.string t.data.toList):=fun e=>h (by
 injection e with e
 exact yD1 (Array.toList_inj.1 e))
theorem zGh:Go.Maps.Keyed Tryz.prog 9:=Go.Maps.string_keyed Tryz.underlying9
theorem zHh (w:World):(zeroValue 3).run Tryz.prog w=.ok (.int .i64 0) w:=by kernel_rfl
def FstD (D:DataW Unit) (l:List ByteArray):Prop:=
 ∀s:ByteArray,(Maps.has D (.string s.data.toList)=true↔s∈l)∧(s∈l→D.atKey (.string s.data.toList) (.lit (.int .i64 0))=.lit (.int .i64 ((fpS l s:Nat):Int)))
theorem FstD.nil:FstD (.map []) []:=fun s=>⟨by simp[Maps.has],fun h=>by cases h⟩
theorem FstD.old {D:DataW Unit} {l:List ByteArray} {s:ByteArray} (h:FstD D l) (hs:s∈l):FstD D (l++[s]):=fun t=>by
 obtain⟨h1,h2⟩:=h t;have e:t∈l++[s]↔t∈l:=by
  rw[xF1,zM];exact⟨fun k=>k.elim id fun e=>by rw[e];exact hs,.inl⟩
 refine⟨by rw[h1,e],fun k=> ?_⟩;rw[zCh (e.1 k)];exact h2 (e.1 k)
theorem FstD.new {D:DataW Unit} {l:List ByteArray} {s:ByteArray} (h:FstD D l) (hD:Maps.IsMap D) (hs:s∉l):FstD (D.put (.string s.data.toList) (.lit (.int .i64 (l.length:Int)))) (l++[s]):=fun t=>by
 by_cases e:t=s
 · subst e
   exact⟨by rw[Maps.has_put_same (k:=.string t.data.toList) hD trivial];simp,fun _=>by rw[Maps.atKey_put_same (k:=.string t.data.toList) hD trivial,zDh hs []]⟩
 · have k:=zFh e
   obtain⟨h1,h2⟩:=h t;refine⟨by rw[Maps.has_put_other k,h1];simp[e],fun m=> ?_⟩;have m':t∈l:=by simpa[e]using m
   rw[Maps.atKey_put_other k,zCh m'];exact h2 m'
theorem FstD.yes {D:DataW Unit} {l:List ByteArray} {s:ByteArray} (h:FstD D l) (hs:s∈l):Maps.has D (.string s.data.toList)=true:=(h s).1.2 hs
theorem FstD.no {D:DataW Unit} {l:List ByteArray} {s:ByteArray} (h:FstD D l) (hs:s∉l):Maps.has D (.string s.data.toList)=false:=Bool.eq_false_iff.2 fun e=>hs ((h s).1.1 e)
theorem FstD.at {D:DataW Unit} {l:List ByteArray} (h:FstD D l) {s:ByteArray} (hs:s∈l) {c:Int} (hc:D.atKey (.string s.data.toList) (.lit (.int .i64 0))=.lit (.int .i64 c)):c=(fpS l s:Nat):=by
 rw[(h s).2 hs]at hc;injection hc with hc
 injection hc with _ hc
 exact hc.symm
def Fst (w:World) (B n:Nat) (l:List ByteArray):Prop:=∃D:DataW Unit,w.ownsMap Tryz.prog 9 (plainElem Tryz.prog 3) B n D∧FstD D l
theorem Fst.below {w w':World} {B n:Nat} {l:List ByteArray} (h:Fst w B n l) (hb:Below w.heap.size w w'):Fst w' B n l:=by
 obtain⟨D,⟨es,clock,h1,h2⟩,h3⟩:=h;exact⟨D,⟨es,clock,(hb.block B (zZ0.1 h1).1).trans h1,h2⟩,h3⟩
theorem Stb.fst {B n:Nat} {l:List ByteArray}:Stb fun w=>Fst w B n l:=fun _ _ h hb=>h.below hb
def zIh (l:List ByteArray) (W:World) (e:Ending) (W':World):Prop:=∃B,e=.returned (.map (some B))∧Fst W' B l.length l∧Below W.heap.size W W'
theorem zJh {P:World→Prop} {w:World} {f:FuncId} {args:Array Value} {l:List ByteArray} (h:Lv P w) (hc:Calls Tryz.prog f args w (zIh l w))
 (hs:Stb P:=by repeat' (first|exact Stb.bel _|exact Stb.bx|exact Stb.vl|refine Stb.and ?_ ?_|exact Stb.triv)):
 Calls Tryz.prog f args w fun e w'=>∃B,e=.returned (.map (some B))∧Lv (fun z=>Fst z B l.length l∧P z) w':=
 hc.mono fun _ _ ⟨B,h1,h2,h3⟩=>⟨B,h1,⟨h2,hs _ _ h.out h3⟩⟩
end
end Go.Proofs.YtcfbjdplhgdpfaaGreatDoor

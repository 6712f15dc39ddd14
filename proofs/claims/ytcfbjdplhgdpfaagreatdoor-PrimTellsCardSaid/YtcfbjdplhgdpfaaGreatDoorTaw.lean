import Derived.Test.YtcfbjdplhgdpfaaGreatDoorTav
set_option maxHeartbeats 6400000
set_option maxRecDepth 100000
namespace Go.Proofs.YtcfbjdplhgdpfaaGreatDoor
set_option linter.unusedVariables false
set_option linter.unusedSimpArgs false
theorem xTl {P:Prop}(h:P:=by repeat' (first|exact hq|refine zU ?_|refine zSf ?_ _)):P:=h
theorem xKl {P:Prop}(h:P:=by repeat' (first|exact hq|refine zU ?_|refine zSf ?_ _|refine zV ?_ (Below.size xTl) _)):P:=h
abbrev zV:=@Go.RowKit.Below.alloc
section
open Go.RowKit
theorem zXb (n:Nat) (hn:n≤1000000) (w:World):
 (Instr.makeSlice 22 (.int .i64 (n:Int)) (.int .i64 (n:Int))).run Tryz.prog w=.ok (.slice (some ⟨w.heap.size,0,none⟩) n n) (w.alloc (.cells (madeCells #[.int .i64 0] n) 3)):=
 run_make_row' 22 3 _ 8 Tryz.underlying22 xB4 rfl _ _ n yEn yEn w
def Ir (w:World) (g n:Nat) (F:Nat→Int):Prop:=w.rowIs g 3 n (fun j=>Value.int .i64 (F j))
theorem Ir.made (w:World) (n:Nat):Ir (w.alloc (.cells (madeCells #[.int .i64 0] n) 3)) w.heap.size n (fun _=>0):=zP1 w _ n _
theorem Ir.cell {w:World} {g n:Nat} {F:Nat→Int} (h:Ir w g n F) {i:Nat} (hi:i<n):w.cell? ⟨g,i,none⟩=some (.int .i64 (F i)):=World.rowIs.cell h hi
theorem Ir.frozen {w:World} {g n:Nat} {F:Nat→Int} (h:Ir w g n F) (i:Nat):w.frozen? ⟨g,i,none⟩=false:=yN2 h i
theorem Ir.below {w w':World} {g n:Nat} {F:Nat→Int} (h:Ir w g n F) (hb:Below w.heap.size w w'):Ir w' g n F:=World.rowIs.of_block h (hb.block g (World.rowIs.lt h))
theorem Ir.set {w:World} {g n:Nat} {F:Nat→Int} (h:Ir w g n F) (i:Nat) (v:Int):Ir (w.setCell ⟨g,i,none⟩ (.int .i64 v)) g n (fun j=>if j=i then v else F j):=by
 refine(yO2 h i _).congr fun j _=> ?_;show(if j=i then _ else _)=Value.int .i64 (if j=i then v else F j);split<;>rfl
theorem Ir.sl {w:World} {g n:Nat} {F:Nat→Int} (h:Ir w g n F) {l:List Int} (hl:l.length=n) (e:∀j,j<n→F j=l.getD j 0):Sl w (some ⟨g,0,none⟩) n l:=
 ⟨hl,fun _=>⟨g,0,rfl,fun j hj=>by rw[zP0,h.cell hj,e j hj]⟩⟩
theorem Sr.frozen {w:World} {g n:Nat} {F:Nat→ByteArray} (h:Sr w g n F) (i:Nat):w.frozen? ⟨g,i,none⟩=false:=yN2 h i
theorem Sr.set {w:World} {g n:Nat} {F:Nat→ByteArray} (h:Sr w g n F) (i:Nat) (v:ByteArray):Sr (w.setCell ⟨g,i,none⟩ (.string v)) g n (fun j=>if j=i then v else F j):=by
 refine(yO2 h i _).congr fun j _=> ?_;show(if j=i then _ else _)=Value.string (if j=i then v else F j);split<;>rfl
theorem zYb (l:List Int) {j:Nat} (hj:j<l.length):(l.map S).getD j ByteArray.empty=S (l.getD j 0):=by
 simp[yJ,yM hj]
def zZb (n:Nat) (l:List Int) (W:World) (e:Ending) (W':World):Prop:=
 ∃g1 g2,e=.returned (.agg #[.slice (some ⟨g1,0,none⟩) 1 1,.slice (some ⟨g2,0,none⟩) n n])∧Vl W' (some ⟨g1,0,none⟩) 1 (some ⟨g2,0,none⟩) n [(n:Int)] (l.map S)∧Below W.heap.size W W'
theorem yAb (a:Option Addr) (n c:Nat) (l:List Int) (W:World) (h:Sl W a n l) (hi:∀j,j<n→I64 (l.getD j 0)) (hn:n≤1000000) (ht:WT W):
 Calls Tryz.prog 17 #[.slice a n c] W (zZb n l W):=by
 have HS:=zC h;have HI:=zC hi;have HW:=zC ht;have hmk:=xD4 n hn;clear h hi ht;go_in;go_wp2_with fail;have hA:=(Bx.new W none 0 0 none 0 0).alloc (.cells (madeCells #[.string ⟨#[]⟩] n) 9);have hR:=Sr.made (W.alloc (.cells #[.slice none 0 0,.slice none 0 0] 25)) n;rw[show(W.alloc (.cells #[.slice none 0 0,.slice none 0 0] 25)).heap.size=W.heap.size+1 by simp]at hR;have hb0:Below W.heap.size W ((W.alloc (.cells #[.slice none 0 0,.slice none 0 0] 25)).alloc (.cells (madeCells #[.string ⟨#[]⟩] n) 9)):=((zI _ _).alloc (zR _) _).alloc yHn _;clear hmk;go_loopw [11] (fun i wr=>∃(k:Nat) (F:Nat→ByteArray),i=.int .i64 k∧k≤n∧Sr wr (W.heap.size+1) n F∧Hid (∀j,j<k→F j=S (l.getD j 0))∧Bx wr W.heap.size none 0 0 none 0 0∧Below W.heap.size W wr) (fun i _=>n-(intOf i).toNat)
 case atStart=>exact⟨0,_,rfl,by omega,hR,zC (fun j hj=>by omega),hA,hb0⟩
 case round=>
  obtain⟨k,F,rfl,hk,hR1,HF,hA1,hb1⟩:=hrel;clear hA hR hb0;by_cases hlt:k<n
  · have e2:(k:Int)<(n:Int):=by omega
    obtain⟨bb,off,rfl,hc⟩:=HS.out.2 yEn;have hck:=(hb1.cell (p:=⟨bb,off+k,none⟩) (yU W _ (hc k hlt))).trans (hc k hlt);have KO:=zC (zY6 (l.getD k 0) (HI.out k hlt).1 (HI.out k hlt).2 wr (HW.out.below hb1).tab);obtain⟨x,hx⟩:∃x,x=l.getD k 0:=⟨_,rfl⟩
    rw[←hx]at hck KO;have HX:=zC hx;clear hc hx;go_wp2_with fail;refine KO.out.mono ?_;rintro e w2 ⟨rfl,hb⟩;have hA2:=hA1.below hb hA1.lt;have hR2:=hR1.below hb;have hb2:=hb1.trans (hb.mono hb1.size);have y0:=hR2.cell (i:=k) hlt;have f0:=hR2.frozen k;clear hA1 hR1 hb1 hb hck;have hR3:=hR2.set k (S x);have hA3:=hA2.setOther (p:=⟨W.heap.size+1,k,none⟩) (show W.heap.size≠W.heap.size+1 by omega) (.string (S x));have hb3:=hb2.setCell (p:=⟨W.heap.size+1,k,none⟩) (show W.heap.size≤W.heap.size+1 by omega) (.string (S x));have HF2:Hid (∀j,j<k+1→(fun j=>if j=k then S x else F j) j=S (l.getD j 0)):=zC fun j hj=>by
     show(if j=k then S x else F j)=_;by_cases hjk:j=k
     · rw[yA hjk,hjk,HX.out]
     · rw[zY hjk];exact HF.out j yEn
    go_wp2_with fail;go_roundw
    case rel=>exact⟨k+1,_,by go_num,by omega,hR3,HF2,hA3,hb3⟩
    case measure=>simp[intOf];omega
  · have e2:¬(k:Int)<(n:Int):=by omega
    obtain rfl:k=n:=by omega
    have hA2:=hA1.alloc (.cells #[.int .i64 k] 3);have y0:=hA2.c0;have y1:=hA2.c1;have f0:=hA2.f 0;have f1:=hA2.f 1;have hb2:=hb1.alloc hb1.size (.cells #[.int .i64 k] 3);have hS:Sl (wr.alloc (.cells #[.int .i64 k] 3)) (some ⟨wr.heap.size,0,none⟩) 1 [(k:Int)]:=Sl.row (l:=[(k:Int)]) (yE wr _);have hT:St (wr.alloc (.cells #[.int .i64 k] 3)) (some ⟨W.heap.size+1,0,none⟩) k (l.map S):=(hR1.st (by rw[zD0,HS.out.1]) (fun j hj=>by rw[HF.out j hj,zYb l xOm])).below ((zI _ _).alloc (zR _) _);clear hA1 hR1 hb1;go_wp2_with fail;have hA3:=hA2.set (some ⟨wr.heap.size,0,none⟩) 1 1 (some ⟨W.heap.size+1,0,none⟩) k k;have r0:=hA3.c0;have r1:=hA3.c1;exact zE (v:=.agg #[.slice (some ⟨wr.heap.size,0,none⟩) 1 1,.slice (some ⟨W.heap.size+1,0,none⟩) k k]) (by simp[results,Tryz.results17,go_sem,r0,r1]) rfl ⟨_,_,rfl,⟨hA2.sl hS _ _,hA2.st hT _ _,by omega⟩,yJ4 hb2 (zR _) _ _⟩
theorem yBb {l:List Int}:l.all zKf=true↔∀j,j<l.length→zKf (l.getD j 0)=true:=by
 rw[zE1];constructor
 · intro h j hj
   rw[yJ,yM hj];exact h _ (xH hj)
 · intro h x hx
   obtain⟨j,hj,rfl⟩:=yP hx;have:=h j hj;rwa [yJ,yM hj]at this
theorem yCb {l:List Int} {j:Nat} (hj:j<l.length) (h:zKf (l.getD j 0)=false):l.all zKf=false:=by
 rw[←xP0];intro hh;rw[yBb.1 hh j hj]at h;cases h
end
section
open Go.RowKit
theorem yDb {W:World} {B:Nat} {a:Option Addr} {n c:Nat} {l:List Int} (h:W.ownsRow B 3 1 (.slice a n c) n (yS9 l)) (hn:n≤1000000):
 Calls Tryz.prog 101 #[.slice a n c] W fun e w'=>e=.returned (.tuple #[])∧w'.ownsRow B 3 1 (.slice a n c) n (yS9 l.reverse)∧W.grownBy w' (Value.ownBlock (.slice a n c)):=by
 have hl:l.length=n:=by have:=h.1;simpa[yS9]using this
 by_cases h0:n=0
 · subst h0
   obtain rfl:=yO0.1 hl;refine(Tryz.slices_Reverse_int_empty a c W).mono ?_;rintro e w ⟨rfl,rfl⟩;exact⟨rfl,h,World.grownBy.refl _ _⟩
 · rcases h.2 with⟨_,e⟩|⟨g,cap,cur,e,hB,hg,h1,h2,h3,h4⟩
   · omega
   injection e with e1 e2 e3
   subst e1 e3 hl;have hcur:∀j,j<l.length→cur[j]?=some (.int .i64 (l.getD j 0)):=by
    intro j hj;have h5:=zH0 (fun x:List Value=>x[j]?) h4;simp only[yU0 (show j<l.length*1 by omega),yV0]at h5;rw[h5];simp[yS9,yJ,yM hj]
   have hgetB:∀(m:List Int) (j:Nat),j<m.length→m.toArray[j]! =m.getD j 0:=by
    intro m j hj;rw[getElem!_pos _ j zPn];simp[yJ,yM hj]
   have hH:Go.Sort.Holds (Value.int .i64) W g 0 l.toArray:=by
    intro j hj;have hj':j<l.length:=by simpa using hj
    refine⟨?_,zA1 _ _ _ _ _ hg⟩;rw[zP0,yB0 _ _ j _ _ _ hg,hcur j hj',hgetB l j hj']
   refine(Tryz.slices_Reverse_int g 0 c l W hH yEn).mono ?_;rintro e w ⟨rfl,N,rfl⟩;refine⟨rfl,⟨by simp[yS9],.inr ⟨g,c,Go.Sort.putCells (Value.int .i64) 0 l.reverse.toArray cur,rfl,hB,?_,h1,h2,by simp[Go.Sort.putCells,h3],?_⟩⟩,⟨rfl,rfl,rfl,by simp,fun k hk hne=> ?_⟩⟩
   · have hg':(Go.Sort.ahead W N).heap[g]?=some (.cells cur 3 (0,0)):=hg
     simp[Go.Sort.putRow,Go.Sort.mapBlock,yD0,hg,Go.Sort.onCells]
   · apply zV0
     intro j;by_cases hj:j<l.length
     · rw[yU0 yEn,yV0,Go.Sort.putCells,Array.getElem?_mapIdx,hcur j hj,Option.map_some,yA ⟨by omega,by simpa using hj⟩,xE1,hgetB _ j zPn]
       show some (Value.int .i64 (l.reverse.getD j 0))=(l.reverse.map (Value.int .i64))[j]?;rw[xS0,yJ,yM (show j<l.reverse.length by simpa using hj)];rfl
     · rw[yW0 (by rw[xP];omega),yW0 (by simp[yS9];omega)]
   · have hne':g≠k:=by intro e;exact hne (by rw[e];rfl)
     simp[Go.Sort.putRow,Go.Sort.mapBlock,yD0,hne',Go.Sort.ahead]
theorem yEb {a b:Option Addr} {n c m d:Nat} (W:World) (hb:n≠0∨m≠1):Calls Tryz.prog 94 #[.agg #[.slice a n c,.slice b m d]] W (zLf 0 3 W):=by
 have hb0:Below W.heap.size W (W.alloc (.cells #[.slice a n c,.slice b m d] 25)):=(zI _ _).alloc (zR _) _;by_cases h0:n=0
 · subst h0
   have h1:(m:Int)≠1:=by omega
   clear hb;go_in;go_wp2_with fail;go_ret2;exact⟨rfl,hb0⟩
 · have h1:(0:Int)<(n:Int):=by omega
   clear hb h0;go_in;go_wp2_with fail;go_ret2;exact⟨rfl,hb0⟩
theorem yFb (a:Option Addr) (c g off d:Nat) (s:ByteArray) (x e:Int) (W:World) (hc:W.cell? ⟨g,off,none⟩=some (.string s)) (hn:∀w,Below W.heap.size W w→Calls Tryz.prog 136 #[.string s] w (zLf x e w)):
 Calls Tryz.prog 94 #[.agg #[.slice a 0 c,.slice (some ⟨g,off,none⟩) 1 d]] W (zLf x e W):=by
 have K:=zC hn;clear hn;have hb0:Below W.heap.size W (W.alloc (.cells #[.slice a 0 c,.slice (some ⟨g,off,none⟩) 1 d] 25)):=(zI _ _).alloc (zR _) _;have hc1:=(hb0.cell (p:=⟨g,off,none⟩) (yU W _ hc)).trans hc;go_in;go_wp2_with fail;refine(K.out _ hb0).mono ?_;rintro x w1 ⟨rfl,hb⟩;go_wp2_with fail;go_ret2;exact⟨rfl,hb0.trans (hb.mono hb0.size)⟩
theorem yGb {x:Int} (hl:x.natAbs<lim) (W:World) (hW:WT W):Calls Tryz.prog 136 #[.string (S x)] W (zLf (if zWd x then x else 0) (if zWd x then 0 else 5) W):=by
 have hi:=xZ4 (s:=S x) (o:=some x) ⟨rfl,hl⟩ W hW.err;cases hf:zWd x
 · refine zPf (S x) _ _ W hi ?_
   unfold xW4;dsimp only
   by_cases h:I64 x
   · rw[yA h];exact .inr hf
   · rw[zY h];exact .inl rfl
 · have h:=zXd.1 hf
   have h64:I64 x:=by unfold I64;omega
   unfold xW4 at hi;dsimp only at hi
   rw[yA h64]at hi;exact zOf (S x) x W hi hf
section
variable {W:World} {a b:Option Addr} {n c m d:Nat} {l:List Int} {es:List ByteArray} {q:Ar}
theorem yHb (h:Av W a n c b m d l es (some q)) (hW:WT W):Calls Tryz.prog 94 #[.agg #[.slice a n c,.slice b m d]] W (zLf (inM q).1 (inM q).2 W):=by
 have hl:=h.v.s.1;have hq:=h.fst;have hm:=h.mlen.1;by_cases hb:n=0∧m=1
 · obtain⟨rfl,rfl⟩:=hb
   obtain⟨q1,q2⟩:=q;simp only at hq hm;obtain rfl:q1=[]:=by rw[hq];exact yO0.1 hl
   obtain⟨x,rfl⟩:=xQ0.1 hm.symm;have hx:=h.i.2.2.2 x yHn;have he:es=[S x]:=h.i.2.1;subst he;obtain⟨g,off,rfl,hc⟩:=h.v.t.2 yEn;have e:inM ([],[x])=(if zWd x then x else 0,if zWd x then 0 else 5):=by
    unfold inM;rw[zY yHn];show(if zWd x=true then(x,(0:Int))else(0,5))=_;split<;>rfl
   rw[e];exact yFb a c g off d (S x) _ _ W (hc 0 yEn) fun w hw=>yGb hx w (hW.below hw)
 · have e:inM q=(0,3):=by
    unfold inM;rw[yA];rcases yL0 n with h0|h0
    · exact .inr yEn
    · refine .inl fun e=> ?_
      rw[hq]at e;rw[e]at hl;simp at hl
      omega
   rw[e];exact yEb W yEn
end
end
section
open Go.RowKit
def yIb (l:List Int) (es:List ByteArray) (W:World) (e:Ending) (W':World):Prop:=
 ∃a n c b m d,e=.returned (.agg #[.slice a n c,.slice b m d])∧Vl W' a n b m l es∧Cp n c m d∧Below W.heap.size W W'
section
variable {W:World} {a b:Option Addr} {n c m d:Nat} {l:List Int} {es:List ByteArray} {q:Ar}
theorem Av.cuts (h:Av W a n c b m d l es (some q)) {f t:Nat} (hft:f≤t) (ht:t≤mN l):f*iS l m≤t*iS l m∧t*iS l m≤m∧ctM l es f t=(es.drop (f*iS l m)).take (t*iS l m-f*iS l m):=by
 obtain⟨h1,_,_,h4⟩:=h.items;have h5:t*iS l m≤mN l*iS l m:=xE _ ht;refine⟨xE _ hft,by omega,?_⟩;unfold ctM;by_cases h0:m=0
 · have he:es=[]:=yO0.1 (h.v.t.1.trans h0)
   rw[he];simp
 · have e:iS l m=kI l:=zY h0
   rw[e,←Nat.sub_mul]
theorem yJb {w:World} {g g':Nat} {x y v0 v1:Value} (hne:g≠g') (h:w.cell? ⟨g,0,none⟩=some x∧w.cell? ⟨g,1,none⟩=some y):
 ((w.setCell ⟨g',0,none⟩ v0).setCell ⟨g',1,none⟩ v1).cell? ⟨g,0,none⟩=some x∧((w.setCell ⟨g',0,none⟩ v0).setCell ⟨g',1,none⟩ v1).cell? ⟨g,1,none⟩=some y:=by
 have h1:∀i j:Nat,(⟨g',i,none⟩:Addr)≠⟨g,j,none⟩:=fun i j e=>by injection e with e;exact hne e.symm
 rw[yY0 _ _ _ _ (h1 1 0),yY0 _ _ _ _ (h1 0 0),yY0 _ _ _ _ (h1 1 1),yY0 _ _ _ _ (h1 0 1)];exact h
theorem yKb (w:World) (x:Int):(w.alloc (.cells #[.int .i64 x] 3)).ownsRow w.heap.size 3 1 (.slice (some ⟨w.heap.size,0,none⟩) 1 1) 1 (yS9 [x]):=
 ⟨rfl,.inr ⟨w.heap.size,1,#[.int .i64 x],rfl,zR _,yE w _,zR _,by unfold maxLen;omega,rfl,rfl⟩⟩
theorem yLb (h:Av W a n c b m d l es (some q)) (hn:0<n) {f t:Nat} (hft:f≤t) (ht:t≤mN l):
 Calls Tryz.prog 120 #[.agg #[.slice a n c,.slice b m d],.int .i64 f,.int .i64 t] W (yIb (((t-f:Nat):Int)::l.tail) (ctM l es f t) W):=by
 obtain⟨c1,c2,c3⟩:=h.cuts hft ht;obtain⟨h1,_,h3,h4⟩:=h.items;have hm:=h.mlen.2.2;have hn3:=h.n3;have hnc:=h.c.nc;have hmd:=h.c.md;have K1:=zC (fun w (hb:Below W.heap.size W w)=>zC4 (h.below hb));have HV:=zC h.v;rw[c3];obtain⟨o1,e1⟩:∃o,o=f*iS l m:=⟨_,rfl⟩
 obtain⟨o2,e2⟩:∃o,o=t*iS l m:=⟨_,rfl⟩
 obtain⟨k,hk⟩:∃k,k=iS l m:=⟨_,rfl⟩
 rw[←hk]at e1 e2 h4 c1 c2 K1;rw[←hk,←e1,←e2];rw[←e1,←e2]at c1;rw[←e2]at c2;obtain⟨u,hu⟩:∃u,u=t-f:=⟨_,rfl⟩
 rw[←hu];have hw1:IntKind.i64.wrap ((f:Int)*(k:Int))=(o1:Int):=xF4 e1 yEn;have hw2:IntKind.i64.wrap ((t:Int)*(k:Int))=(o2:Int):=xF4 e2 yEn;have hw3:IntKind.i64.wrap ((t:Int)-(f:Int))=(u:Int):=by
  rw[show(t:Int)-(f:Int)=(u:Int)by omega];exact xJ0 _ yEn
 have h:=xO3 W a n c b m d;have HW:=zC (And.intro hw1 (And.intro hw2 hw3));clear e1 e2 h1 h3 h4 hk c3 hu ht hft hw1 hw2 hw3;go_in;have xv:=h.out.2.1.c0;have yv:=h.out.2.1.c1;go_wp2_with fail;refine(yMf h (K1.out _ h.out.2.2)).mono ?_;clear h xv yv;rintro e w ⟨rfl,h⟩;go_upto_region 2 with fail
 obtain⟨hw1,hw2,hw3⟩:=HW.out;have x0:=h.out.2.1.c0;have x1:=h.out.2.1.c1;have lA:=h.out.2.1.lt;have hq:Below w.heap.size w w:=zI _ _;have QI:Hid (∀z,Calls Tryz.prog 150 #[.slice a n c,.int .i64 1,.int .i64 n] z (xY3 a 1 n z)):=zC fun z=>zA4 a n c 1 n z yEn yEn;have QS:Hid (∀z,Calls Tryz.prog 99 #[.slice b m d,.int .i64 o1,.int .i64 o2] z (xY3 b o1 o2 z)):=zC fun z=>xZ3 b m d o1 o2 z c1 yEn;have QC:Hid (∀z,Below w.heap.size w z→Calls Tryz.prog 138 #[.slice (xU3 b o1 o2) (o2-o1) (o2-o1)] z fun e w'=>∃a' c',e=.returned (.slice a' (o2-o1) c')∧w'.ownsRow z.heap.size 9 1 (.slice a' (o2-o1) c') (o2-o1) (zTf ((es.drop o1).take (o2-o1)))∧Below z.heap.size z w'):=
  zC fun z hz=>xK3 (xU3 b o1 o2) (o2-o1) (o2-o1) ((es.drop o1).take (o2-o1)) z ((HV.out.below (h.out.2.2.trans (hz.mono h.out.2.2.size))).t.cut c1 c2) yEn
 have HT:Hid (∀z,Below w.heap.size w z→Rd z (xU3 a 1 n) (n-1) (yS9 l.tail)):=zC fun z hz=>((HV.out.below (h.out.2.2.trans (hz.mono h.out.2.2.size))).s.cut1 yEn).rd;have HO:=zC (yKb w (u:Int));clear K1;go_region_held3 (fun w'=>w'.cell? ⟨W.heap.size,0,none⟩=some (.slice a n c)∧w'.cell? ⟨W.heap.size,1,none⟩=some (.slice b m d))
  (first|exact yJb yEn ⟨(zA0 (p:=⟨W.heap.size,0,none⟩) hq lA).trans x0,(zA0 (p:=⟨W.heap.size,1,none⟩) hq lA).trans x1⟩|exact⟨(zA0 (p:=⟨W.heap.size,0,none⟩) xKl lA).trans x0,(zA0 (p:=⟨W.heap.size,1,none⟩) xKl lA).trans x1⟩|fail)
  (first
    |(go_at_call 150;(with_reducible refine(QI.out _).mono ?_);rintro e wq ⟨rfl,rfl⟩)
    |(go_at_call 99;(with_reducible refine(QS.out _).mono ?_);rintro e wq ⟨rfl,rfl⟩)
    |(go_at_call 138;(with_reducible refine(QC.out _ xKl).mono ?_);rintro e wq ⟨ac,cc,rfl,hoc,hq2⟩;have hq5:=hq.trans (hq2.mono hq.size);have ho4:=zLe ho3 hq2;have hBR:=h.out.1.below hq5 h.out.1.lt;have y0:=hBR.c0;have y1:=hBR.c1;have f0:=hBR.f 0;have f1:=hBR.f 1;have hq:=hq5)
    |(refine yEf rfl (.tmp 13) (.tmp 19) 22 rfl w.heap.size 3 (.int .i64 0) 8 Tryz.underlying22 xB4 rfl yCn _ 1 (yS9 [(u:Int)]) rfl HO.out (xU3 a 1 n) (n-1) (n-1) (yS9 l.tail) rfl (HT.out _ xKl) (zUf _) yEn (by simp[World.drew]) ?_;intro av cv w3 ho3 hg3;have hq:=(show Below w.heap.size w (w.alloc (.cells #[.int .i64 (u:Int)] 3)).drew from((zI _ _).alloc (zR _) _).drew).trans (yHf hg3 (fun g hg=>(HO.out.lt g hg).1) (by simp[World.drew])))
    |fail)
 all_goals
  go_wp2_with fail;have hR:=hBR.set av (1+(n-1)) cv ac (o2-o1) cc;have r0:=hR.c0;have r1:=hR.c1;have hs:Sl wq av (1+(n-1)) ((u:Int)::l.tail):=zYf (l:=(u:Int)::l.tail) ho4;exact zE (v:=.agg #[.slice av (1+(n-1)) cv,.slice ac (o2-o1) cc]) (by simp[results,Tryz.results120,go_sem,r0,r1]) rfl
   ⟨_,_,_,_,_,_,rfl,⟨hBR.sl hs _ _,hBR.st (zZf hoc) _ _,by omega⟩,⟨(xE8 ho4).1,(xE8 ho4).2,(xE8 hoc).1,(xE8 hoc).2⟩,yJ4 (h.out.2.2.trans (hq5.mono h.out.2.2.size)) yEn _ _⟩
end
end
end Go.Proofs.YtcfbjdplhgdpfaaGreatDoor
